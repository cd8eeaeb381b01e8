/-
  DERIVED. GIVEN WITH THE SEED: THE CARDS: each row of YtemfjdedjcjegaaGreatDoorRows.lean that lists a variable, with what it lists TIED to the program's text (the seventh form; the later family's looks); each row that meets fmt, with fmt's text TOLD by the authors' own Lean function (tested against real Go, not proved from fmt's source: count such statements apart). THE CARD IS WHAT COUNTS. Prove the row's statement (the work); the ties are given (YtemfjdedjcjegaaGreatDoorTie.lean); close each card by the builder's one call (the guide's Derived/Test/ToyasCard.lean, 'card_holds'). Laid BY PROGRAM, IN A SANDBOX (cutbox-door.mjs). By AI agents, Wed Nov 11 2026. No macro, syntax, notation, axiom, sorry.
-/
import Derived.Test.YtemfjdedjcjegaaGreatDoorRows
import GoSem.ClaimSeven
namespace Go.Proofs.YtemfjdedjcjegaaGreatDoor
namespace Rows

/-- THE TIED CARD OF 'plumblinelaw04.RelKeeps'. -/
def relKeepsCard : Claim7 := { stood := { row := relKeepsRow, standIns := [], harness := (true, "f615da352244c2f6ab1c1f26d9eb1c0715ab852e5ad4eefc2e0777aa4fdb028e"), looks := false }, kinds := [], alts := [], laidByText := true, laidKinds := [.data, .data, .data], laidTests := true, laidLooks := .later }
def RelKeepsCardSaid : Prop := Claim7.holds Tryz.pinned (.plain (OpenSpec.ofChange relKeepsSpec)) relKeepsCard

/-- THE TIED CARD OF 'plumblinelaw04.RelOnce'. -/
def relOnceCard : Claim7 := { stood := { row := relOnceRow, standIns := [], harness := (true, "f615da352244c2f6ab1c1f26d9eb1c0715ab852e5ad4eefc2e0777aa4fdb028e"), looks := false }, kinds := [], alts := [], laidByText := true, laidKinds := [.data, .data, .data], laidTests := true, laidLooks := .later }
def RelOnceCardSaid : Prop := Claim7.holds Tryz.pinned (.plain (OpenSpec.ofChange relOnceSpec)) relOnceCard

/-- THE SECOND FORM's CARD OF 'plumblinelaw04.RelKeeps'. -/
def relKeepsUptoCard : Claim7 := { stood := { row := relKeepsUptoRow, standIns := [], harness := (true, "f615da352244c2f6ab1c1f26d9eb1c0715ab852e5ad4eefc2e0777aa4fdb028e"), looks := false }, kinds := [], alts := [], laidByText := true, laidKinds := [.data, .data, .data], laidTests := true, laidLooks := .later }
def RelKeepsUptoCardSaid : Prop := Claim7.holds Tryz.pinned (.plain (OpenSpec.upto relKeepsSpec)) relKeepsUptoCard

/-- THE SECOND FORM's CARD OF 'plumblinelaw04.RelOnce'. -/
def relOnceUptoCard : Claim7 := { stood := { row := relOnceUptoRow, standIns := [], harness := (true, "f615da352244c2f6ab1c1f26d9eb1c0715ab852e5ad4eefc2e0777aa4fdb028e"), looks := false }, kinds := [], alts := [], laidByText := true, laidKinds := [.data, .data, .data], laidTests := true, laidLooks := .later }
def RelOnceUptoCardSaid : Prop := Claim7.holds Tryz.pinned (.plain (OpenSpec.upto relOnceSpec)) relOnceUptoCard
end Rows
end Go.Proofs.YtemfjdedjcjegaaGreatDoor
