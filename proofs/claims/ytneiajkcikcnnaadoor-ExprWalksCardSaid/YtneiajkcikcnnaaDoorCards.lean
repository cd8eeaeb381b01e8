/-
  DERIVED. GIVEN WITH THE SEED: THE CARDS: each row of YtneiajkcikcnnaaDoorRows.lean that lists a variable, with what it lists TIED to the program's text (the seventh form; the later family's looks); each row that meets fmt, with fmt's text TOLD by the authors' own Lean function (tested against real Go, not proved from fmt's source: count such statements apart). THE CARD IS WHAT COUNTS. Prove the row's statement (the work); the ties are given (YtneiajkcikcnnaaDoorTie.lean); close each card by the builder's one call (the guide's Derived/Test/ToyasCard.lean, 'card_holds'). Laid BY PROGRAM, IN A SANDBOX (cutbox-door.mjs). By AI agents, Wed Nov 11 2026. No macro, syntax, notation, axiom, sorry.
-/
import Derived.Test.YtneiajkcikcnnaaDoorRows
import GoSem.ClaimSeven
namespace Go.Proofs.YtneiajkcikcnnaaDoor
namespace Rows

/-- THE TIED CARD OF 'plumblinelaw11.ExprWalks'. -/
def exprWalksCard : Claim7 := { stood := { row := exprWalksRow, standIns := [], harness := (true, "57568f7329008bdeab61d5832067e3595bbeb6aef1c73abbba805deafe61173c"), looks := false }, kinds := [], alts := [], laidByText := true, laidKinds := [.data], laidTests := true, laidLooks := .later }
def ExprWalksCardSaid : Prop := Claim7.holds Tryd.pinned (.plain (OpenSpec.ofChange exprWalksSpec)) exprWalksCard

/-- THE SECOND FORM's CARD OF 'plumblinelaw11.ExprWalks'. -/
def exprWalksUptoCard : Claim7 := { stood := { row := exprWalksUptoRow, standIns := [], harness := (true, "57568f7329008bdeab61d5832067e3595bbeb6aef1c73abbba805deafe61173c"), looks := false }, kinds := [], alts := [], laidByText := true, laidKinds := [.data], laidTests := true, laidLooks := .later }
def ExprWalksUptoCardSaid : Prop := Claim7.holds Tryd.pinned (.plain (OpenSpec.upto exprWalksSpec)) exprWalksUptoCard
end Rows
end Go.Proofs.YtneiajkcikcnnaaDoor
