/-
  NARROWER THAN 'FOR EVERY INPUT', by the rows' own cells (each row's printed sentence says how): WordShifts: loops · WordUnfolds: loops · WordTurns: loops · WordPlains: loops · WordHolds: loops.
  DERIVED. THE GIVEN ROWS OF THIS SEAT. 5 by the template 'for every input the law returns true; each argument reads behind the call as it read before'; 0 by the template 'total and deterministic' (their statements: YtljocjjdfgpbaaaTotals.lean).
  GIVEN WITH THE SEED: the statements are not yours to turn. If you find one false, say at which input.
  Laid BY PROGRAM, IN A SANDBOX (cutbox-rows.mjs): the forced cells as the released guide's own fill.sh prints them over the translation 66c72649792e4ab0… (all of the seat's roots in one cut). By AI agents, Wed Nov 11 2026. No macro, syntax, notation, axiom, sorry.
-/
import Derived.Test.YtljocjjdfgpbaaaChecked
import GoSem.Claim
import GoSem.ClaimJoined
import GoSem.ClaimMapViews
import Derived.JoinedTies
import Derived.KernelRfl
namespace Go.Proofs.Ytljocjjdfgpbaaa
/- THE CELL 'sum', in the pinned program and in every row, IS THE sha256 OF THE DUMP (.gsa) THAT YtljocjjdfgpbaaaProg.lean LOADS. Nothing in Lean hashes anything: it is a label: what it is worth is what the hold of that sum in a sandbox is worth. -/
noncomputable def Try.pinned : Pinned := { name := "ytljocjjdfgpbaaa", sum := "66c72649792e4ab0a5582d0f752a4780f00e3ca85996b01d0a70307ae803aa08", checked := Try.checked }
namespace Rows
def none {H : Type} : Left H := { results := [], args := [] }

/-- 'plumblinelaw15.WordShifts': WHATEVER THE INPUT: true; the input reads as it did. -/
def wordShiftsSpec : ChangeSpec := { name := "wordShifts", fn := fun _ => fun
  | [d1, d2, d3] => { results := [.lit (.bool true)], args := [d1, d2, d3] }
  | _ => none }
def wordShiftsRow : OpenClaim := { program := "ytljocjjdfgpbaaa", sum := "66c72649792e4ab0a5582d0f752a4780f00e3ca85996b01d0a70307ae803aa08", func := "plumbline/plumblinelaw15.WordShifts", spec := "wordShifts", unfollowed := true, recurses := true, loops := true, apart := false }
def WordShiftsSaid : Prop := wordShiftsRow.holds Try.pinned (OpenSpec.ofChange wordShiftsSpec)

/-- ITS FALSE NEIGHBOUR: 'it returns false'. Refute it at one input. -/
def wordShiftsWrong : ChangeSpec := { name := "wordShifts", fn := fun _ => fun
  | [d1, d2, d3] => { results := [.lit (.bool false)], args := [d1, d2, d3] }
  | _ => none }
def WordShiftsWrongFalsely : Prop := wordShiftsRow.holds Try.pinned (OpenSpec.ofChange wordShiftsWrong)

/-- 'plumblinelaw15.WordUnfolds': WHATEVER THE INPUT: true; the input reads as it did. -/
def wordUnfoldsSpec : ChangeSpec := { name := "wordUnfolds", fn := fun _ => fun
  | [d1, d2, d3, d4] => { results := [.lit (.bool true)], args := [d1, d2, d3, d4] }
  | _ => none }
def wordUnfoldsRow : OpenClaim := { program := "ytljocjjdfgpbaaa", sum := "66c72649792e4ab0a5582d0f752a4780f00e3ca85996b01d0a70307ae803aa08", func := "plumbline/plumblinelaw15.WordUnfolds", spec := "wordUnfolds", unfollowed := true, recurses := true, loops := true, apart := false }
def WordUnfoldsSaid : Prop := wordUnfoldsRow.holds Try.pinned (OpenSpec.ofChange wordUnfoldsSpec)

/-- ITS FALSE NEIGHBOUR: 'it returns false'. Refute it at one input. -/
def wordUnfoldsWrong : ChangeSpec := { name := "wordUnfolds", fn := fun _ => fun
  | [d1, d2, d3, d4] => { results := [.lit (.bool false)], args := [d1, d2, d3, d4] }
  | _ => none }
def WordUnfoldsWrongFalsely : Prop := wordUnfoldsRow.holds Try.pinned (OpenSpec.ofChange wordUnfoldsWrong)

/-- 'plumblinelaw15.WordTurns': WHATEVER THE INPUT: true; the input reads as it did. -/
def wordTurnsSpec : ChangeSpec := { name := "wordTurns", fn := fun _ => fun
  | [d1, d2, d3] => { results := [.lit (.bool true)], args := [d1, d2, d3] }
  | _ => none }
def wordTurnsRow : OpenClaim := { program := "ytljocjjdfgpbaaa", sum := "66c72649792e4ab0a5582d0f752a4780f00e3ca85996b01d0a70307ae803aa08", func := "plumbline/plumblinelaw15.WordTurns", spec := "wordTurns", unfollowed := true, recurses := true, loops := true, apart := false }
def WordTurnsSaid : Prop := wordTurnsRow.holds Try.pinned (OpenSpec.ofChange wordTurnsSpec)

/-- ITS FALSE NEIGHBOUR: 'it returns false'. Refute it at one input. -/
def wordTurnsWrong : ChangeSpec := { name := "wordTurns", fn := fun _ => fun
  | [d1, d2, d3] => { results := [.lit (.bool false)], args := [d1, d2, d3] }
  | _ => none }
def WordTurnsWrongFalsely : Prop := wordTurnsRow.holds Try.pinned (OpenSpec.ofChange wordTurnsWrong)

/-- 'plumblinelaw15.WordPlains': WHATEVER THE INPUT: true; the input reads as it did. -/
def wordPlainsSpec : ChangeSpec := { name := "wordPlains", fn := fun _ => fun
  | [d1, d2, d3] => { results := [.lit (.bool true)], args := [d1, d2, d3] }
  | _ => none }
def wordPlainsRow : OpenClaim := { program := "ytljocjjdfgpbaaa", sum := "66c72649792e4ab0a5582d0f752a4780f00e3ca85996b01d0a70307ae803aa08", func := "plumbline/plumblinelaw15.WordPlains", spec := "wordPlains", unfollowed := true, recurses := true, loops := true, apart := false }
def WordPlainsSaid : Prop := wordPlainsRow.holds Try.pinned (OpenSpec.ofChange wordPlainsSpec)

/-- ITS FALSE NEIGHBOUR: 'it returns false'. Refute it at one input. -/
def wordPlainsWrong : ChangeSpec := { name := "wordPlains", fn := fun _ => fun
  | [d1, d2, d3] => { results := [.lit (.bool false)], args := [d1, d2, d3] }
  | _ => none }
def WordPlainsWrongFalsely : Prop := wordPlainsRow.holds Try.pinned (OpenSpec.ofChange wordPlainsWrong)

/-- 'plumblinelaw15.WordHolds': WHATEVER THE INPUT: true; the input reads as it did. -/
def wordHoldsSpec : ChangeSpec := { name := "wordHolds", fn := fun _ => fun
  | [d1, d2, d3] => { results := [.lit (.bool true)], args := [d1, d2, d3] }
  | _ => none }
def wordHoldsRow : OpenClaim := { program := "ytljocjjdfgpbaaa", sum := "66c72649792e4ab0a5582d0f752a4780f00e3ca85996b01d0a70307ae803aa08", func := "plumbline/plumblinelaw15.WordHolds", spec := "wordHolds", unfollowed := true, recurses := true, loops := true, apart := false }
def WordHoldsSaid : Prop := wordHoldsRow.holds Try.pinned (OpenSpec.ofChange wordHoldsSpec)

/-- ITS FALSE NEIGHBOUR: 'it returns false'. Refute it at one input. -/
def wordHoldsWrong : ChangeSpec := { name := "wordHolds", fn := fun _ => fun
  | [d1, d2, d3] => { results := [.lit (.bool false)], args := [d1, d2, d3] }
  | _ => none }
def WordHoldsWrongFalsely : Prop := wordHoldsRow.holds Try.pinned (OpenSpec.ofChange wordHoldsWrong)

/- THE SECOND FORM. 'bulk': how many values and letters a reading holds, each counted each time it is reached (what is shared counts as often as it is met; a slice's spare places count too). A statement '..UptoSaid' is the law's where the arguments, and the package variables that the reading takes, are together of bulk at most 1048576: NARROWER than '..Said'. Prove '..Said' where nothing that the law and all that it calls make is longer than what came in: it says more and counts as full. Else prove '..UptoSaid'. A law counts once. -/
mutual
def uptoBulk {H : Type} : DataW H → Nat
  | .lit (.string bytes) => bytes.length + 1
  | .lit _ => 1
  | .nil => 1
  | .ptr d => uptoBulk d + 1
  | .slice elems spare => uptoBulkAll elems + uptoBulkAll spare + 1
  | .agg parts => uptoBulkAll parts + 1
  | .iface _ d => uptoBulk d + 1
  | .map entries => uptoBulkEntries entries + 1
  | .held _ => 1
def uptoBulkAll {H : Type} : List (DataW H) → Nat
  | [] => 0
  | d :: r => uptoBulk d + uptoBulkAll r
def uptoBulkEntries {H : Type} : List (Lit × DataW H) → Nat
  | [] => 0
  | x :: r => uptoBulkEntry x + uptoBulkEntries r
def uptoBulkEntry {H : Type} : Lit × DataW H → Nat
  | (.string bytes, d) => bytes.length + uptoBulk d + 1
  | (_, d) => uptoBulk d + 1
 end
def uptoSmall : (H : Type) → List (DataW H) → Bool := fun _ ds => decide (uptoBulkAll ds ≤ 1048576)
def OpenSpec.upto (s : _root_.Go.ChangeSpec) : _root_.Go.OpenSpec := { _root_.Go.OpenSpec.ofChange s with cond := some uptoSmall }

/-- 'plumblinelaw15.WordShifts', WHERE WHAT IT READS IS OF BULK AT MOST 1048576: true; the input reads as it did. -/
def wordShiftsUptoRow : OpenClaim := { program := "ytljocjjdfgpbaaa", sum := "66c72649792e4ab0a5582d0f752a4780f00e3ca85996b01d0a70307ae803aa08", func := "plumbline/plumblinelaw15.WordShifts", spec := "wordShifts", unfollowed := true, recurses := true, loops := true, apart := false, narrowed := true }
def WordShiftsUptoSaid : Prop := wordShiftsUptoRow.holds Try.pinned (OpenSpec.upto wordShiftsSpec)

/-- 'plumblinelaw15.WordUnfolds', WHERE WHAT IT READS IS OF BULK AT MOST 1048576: true; the input reads as it did. -/
def wordUnfoldsUptoRow : OpenClaim := { program := "ytljocjjdfgpbaaa", sum := "66c72649792e4ab0a5582d0f752a4780f00e3ca85996b01d0a70307ae803aa08", func := "plumbline/plumblinelaw15.WordUnfolds", spec := "wordUnfolds", unfollowed := true, recurses := true, loops := true, apart := false, narrowed := true }
def WordUnfoldsUptoSaid : Prop := wordUnfoldsUptoRow.holds Try.pinned (OpenSpec.upto wordUnfoldsSpec)

/-- 'plumblinelaw15.WordTurns', WHERE WHAT IT READS IS OF BULK AT MOST 1048576: true; the input reads as it did. -/
def wordTurnsUptoRow : OpenClaim := { program := "ytljocjjdfgpbaaa", sum := "66c72649792e4ab0a5582d0f752a4780f00e3ca85996b01d0a70307ae803aa08", func := "plumbline/plumblinelaw15.WordTurns", spec := "wordTurns", unfollowed := true, recurses := true, loops := true, apart := false, narrowed := true }
def WordTurnsUptoSaid : Prop := wordTurnsUptoRow.holds Try.pinned (OpenSpec.upto wordTurnsSpec)

/-- 'plumblinelaw15.WordPlains', WHERE WHAT IT READS IS OF BULK AT MOST 1048576: true; the input reads as it did. -/
def wordPlainsUptoRow : OpenClaim := { program := "ytljocjjdfgpbaaa", sum := "66c72649792e4ab0a5582d0f752a4780f00e3ca85996b01d0a70307ae803aa08", func := "plumbline/plumblinelaw15.WordPlains", spec := "wordPlains", unfollowed := true, recurses := true, loops := true, apart := false, narrowed := true }
def WordPlainsUptoSaid : Prop := wordPlainsUptoRow.holds Try.pinned (OpenSpec.upto wordPlainsSpec)

/-- 'plumblinelaw15.WordHolds', WHERE WHAT IT READS IS OF BULK AT MOST 1048576: true; the input reads as it did. -/
def wordHoldsUptoRow : OpenClaim := { program := "ytljocjjdfgpbaaa", sum := "66c72649792e4ab0a5582d0f752a4780f00e3ca85996b01d0a70307ae803aa08", func := "plumbline/plumblinelaw15.WordHolds", spec := "wordHolds", unfollowed := true, recurses := true, loops := true, apart := false, narrowed := true }
def WordHoldsUptoSaid : Prop := wordHoldsUptoRow.holds Try.pinned (OpenSpec.upto wordHoldsSpec)

end Rows
end Go.Proofs.Ytljocjjdfgpbaaa
