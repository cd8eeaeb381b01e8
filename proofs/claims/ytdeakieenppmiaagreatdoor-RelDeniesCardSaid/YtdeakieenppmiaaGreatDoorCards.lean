/-
  DERIVED. GIVEN WITH THE SEED: THE CARDS: each row of YtdeakieenppmiaaGreatDoorRows.lean that lists a variable, with what it lists TIED to the program's text (the seventh form; the later family's looks); each row that meets fmt, with fmt's text TOLD by the authors' own Lean function (tested against real Go, not proved from fmt's source: count such statements apart). THE CARD IS WHAT COUNTS. Prove the row's statement (the work); the ties are given (YtdeakieenppmiaaGreatDoorTie.lean); close each card by the builder's one call (the guide's Derived/Test/ToyasCard.lean, 'card_holds'). Laid BY PROGRAM, IN A SANDBOX (cutbox-door.mjs). By AI agents, Wed Nov 11 2026. No macro, syntax, notation, axiom, sorry.
-/
import Derived.Test.YtdeakieenppmiaaGreatDoorRows
import GoSem.ClaimSeven
namespace Go.Proofs.YtdeakieenppmiaaGreatDoor
namespace Rows

/-- THE TIED CARD OF 'plumblinelaw04.RelTights'. -/
def relTightsCard : Claim7 := { stood := { row := relTightsRow, standIns := [], harness := (true, "1e388f6c2f49011f1998e21a8857611a1c73276d0f64d618b63bd7b4c7cc9c29"), looks := false }, kinds := [], alts := [], laidByText := true, laidKinds := [.data, .data, .data], laidTests := true, laidLooks := .later }
def RelTightsCardSaid : Prop := Claim7.holds Tryz.pinned (.plain (OpenSpec.ofChange relTightsSpec)) relTightsCard

/-- THE TIED CARD OF 'plumblinelaw04.RelHolds'. -/
def relHoldsCard : Claim7 := { stood := { row := relHoldsRow, standIns := [], harness := (true, "1e388f6c2f49011f1998e21a8857611a1c73276d0f64d618b63bd7b4c7cc9c29"), looks := false }, kinds := [], alts := [], laidByText := true, laidKinds := [.data, .data, .data], laidTests := true, laidLooks := .later }
def RelHoldsCardSaid : Prop := Claim7.holds Tryz.pinned (.plain (OpenSpec.ofChange relHoldsSpec)) relHoldsCard

/-- THE TIED CARD OF 'plumblinelaw04.RelKeeps'. -/
def relKeepsCard : Claim7 := { stood := { row := relKeepsRow, standIns := [], harness := (true, "1e388f6c2f49011f1998e21a8857611a1c73276d0f64d618b63bd7b4c7cc9c29"), looks := false }, kinds := [], alts := [], laidByText := true, laidKinds := [.data, .data, .data], laidTests := true, laidLooks := .later }
def RelKeepsCardSaid : Prop := Claim7.holds Tryz.pinned (.plain (OpenSpec.ofChange relKeepsSpec)) relKeepsCard

/-- THE TIED CARD OF 'plumblinelaw04.RelDenies'. -/
def relDeniesCard : Claim7 := { stood := { row := relDeniesRow, standIns := [], harness := (true, "1e388f6c2f49011f1998e21a8857611a1c73276d0f64d618b63bd7b4c7cc9c29"), looks := false }, kinds := [], alts := [], laidByText := true, laidKinds := [.data, .data, .data], laidTests := true, laidLooks := .later }
def RelDeniesCardSaid : Prop := Claim7.holds Tryz.pinned (.plain (OpenSpec.ofChange relDeniesSpec)) relDeniesCard

/-- THE TIED CARD OF 'plumblinelaw04.RelOnce'. -/
def relOnceCard : Claim7 := { stood := { row := relOnceRow, standIns := [], harness := (true, "1e388f6c2f49011f1998e21a8857611a1c73276d0f64d618b63bd7b4c7cc9c29"), looks := false }, kinds := [], alts := [], laidByText := true, laidKinds := [.data, .data, .data], laidTests := true, laidLooks := .later }
def RelOnceCardSaid : Prop := Claim7.holds Tryz.pinned (.plain (OpenSpec.ofChange relOnceSpec)) relOnceCard

/-- THE SECOND FORM's CARD OF 'plumblinelaw04.RelTights'. -/
def relTightsUptoCard : Claim7 := { stood := { row := relTightsUptoRow, standIns := [], harness := (true, "1e388f6c2f49011f1998e21a8857611a1c73276d0f64d618b63bd7b4c7cc9c29"), looks := false }, kinds := [], alts := [], laidByText := true, laidKinds := [.data, .data, .data], laidTests := true, laidLooks := .later }
def RelTightsUptoCardSaid : Prop := Claim7.holds Tryz.pinned (.plain (OpenSpec.upto relTightsSpec)) relTightsUptoCard

/-- THE SECOND FORM's CARD OF 'plumblinelaw04.RelHolds'. -/
def relHoldsUptoCard : Claim7 := { stood := { row := relHoldsUptoRow, standIns := [], harness := (true, "1e388f6c2f49011f1998e21a8857611a1c73276d0f64d618b63bd7b4c7cc9c29"), looks := false }, kinds := [], alts := [], laidByText := true, laidKinds := [.data, .data, .data], laidTests := true, laidLooks := .later }
def RelHoldsUptoCardSaid : Prop := Claim7.holds Tryz.pinned (.plain (OpenSpec.upto relHoldsSpec)) relHoldsUptoCard

/-- THE SECOND FORM's CARD OF 'plumblinelaw04.RelKeeps'. -/
def relKeepsUptoCard : Claim7 := { stood := { row := relKeepsUptoRow, standIns := [], harness := (true, "1e388f6c2f49011f1998e21a8857611a1c73276d0f64d618b63bd7b4c7cc9c29"), looks := false }, kinds := [], alts := [], laidByText := true, laidKinds := [.data, .data, .data], laidTests := true, laidLooks := .later }
def RelKeepsUptoCardSaid : Prop := Claim7.holds Tryz.pinned (.plain (OpenSpec.upto relKeepsSpec)) relKeepsUptoCard

/-- THE SECOND FORM's CARD OF 'plumblinelaw04.RelDenies'. -/
def relDeniesUptoCard : Claim7 := { stood := { row := relDeniesUptoRow, standIns := [], harness := (true, "1e388f6c2f49011f1998e21a8857611a1c73276d0f64d618b63bd7b4c7cc9c29"), looks := false }, kinds := [], alts := [], laidByText := true, laidKinds := [.data, .data, .data], laidTests := true, laidLooks := .later }
def RelDeniesUptoCardSaid : Prop := Claim7.holds Tryz.pinned (.plain (OpenSpec.upto relDeniesSpec)) relDeniesUptoCard

/-- THE SECOND FORM's CARD OF 'plumblinelaw04.RelOnce'. -/
def relOnceUptoCard : Claim7 := { stood := { row := relOnceUptoRow, standIns := [], harness := (true, "1e388f6c2f49011f1998e21a8857611a1c73276d0f64d618b63bd7b4c7cc9c29"), looks := false }, kinds := [], alts := [], laidByText := true, laidKinds := [.data, .data, .data], laidTests := true, laidLooks := .later }
def RelOnceUptoCardSaid : Prop := Claim7.holds Tryz.pinned (.plain (OpenSpec.upto relOnceSpec)) relOnceUptoCard
end Rows
end Go.Proofs.YtdeakieenppmiaaGreatDoor
