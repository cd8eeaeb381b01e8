/-
  No cell of these rows narrows 'for every input' (looked for: loops, veiled, ifaces, maps, wideKeys, modest, calm, conditions, laid).
  DERIVED. THE GIVEN ROWS OF THIS SEAT. 7 by the template 'for every input the law returns true; each argument reads behind the call as it read before'; 0 by the template 'total and deterministic' (their statements: YtlihnagfmfpdcaaTotals.lean).
  GIVEN WITH THE SEED: the statements are not yours to turn. If you find one false, say at which input.
  Laid BY PROGRAM, IN A SANDBOX (cutbox-rows.mjs): the forced cells as the released guide's own fill.sh prints them over the translation b248d1a2517d54d3… (all of the seat's roots in one cut). By AI agents, Wed Nov 11 2026. No macro, syntax, notation, axiom, sorry.
-/
import Derived.Test.YtlihnagfmfpdcaaChecked
import GoSem.Claim
import GoSem.ClaimJoined
import GoSem.ClaimMapViews
import Derived.JoinedTies
import Derived.KernelRfl
namespace Go.Proofs.Ytlihnagfmfpdcaa
/- THE CELL 'sum', in the pinned program and in every row, IS THE sha256 OF THE DUMP (.gsa) THAT YtlihnagfmfpdcaaProg.lean LOADS. Nothing in Lean hashes anything: it is a label: what it is worth is what the hold of that sum in a sandbox is worth. -/
noncomputable def Try.pinned : Pinned := { name := "ytlihnagfmfpdcaa", sum := "b248d1a2517d54d3054d0830e4f5741cbad824fde49d105953ffa293ed354dd3", checked := Try.checked }
namespace Rows
def none {H : Type} : Left H := { results := [], args := [] }

/-- 'plumblinelaw01.NatMuls': WHATEVER THE INPUT: true; the input reads as it did. -/
def natMulsSpec : ChangeSpec := { name := "natMuls", fn := fun _ => fun
  | [d1, d2] => { results := [.lit (.bool true)], args := [d1, d2] }
  | _ => none }
def natMulsRow : OpenClaim := { program := "ytlihnagfmfpdcaa", sum := "b248d1a2517d54d3054d0830e4f5741cbad824fde49d105953ffa293ed354dd3", func := "plumbline/plumblinelaw01.NatMuls", spec := "natMuls", recurses := true, apart := false }
def NatMulsSaid : Prop := natMulsRow.holds Try.pinned (OpenSpec.ofChange natMulsSpec)

/-- ITS FALSE NEIGHBOUR: 'it returns false'. Refute it at one input. -/
def natMulsWrong : ChangeSpec := { name := "natMuls", fn := fun _ => fun
  | [d1, d2] => { results := [.lit (.bool false)], args := [d1, d2] }
  | _ => none }
def NatMulsWrongFalsely : Prop := natMulsRow.holds Try.pinned (OpenSpec.ofChange natMulsWrong)

/-- 'plumblinelaw01.NatTexts': WHATEVER THE INPUT: true; the input reads as it did. -/
def natTextsSpec : ChangeSpec := { name := "natTexts", fn := fun _ => fun
  | [d1, d2] => { results := [.lit (.bool true)], args := [d1, d2] }
  | _ => none }
def natTextsRow : OpenClaim := { program := "ytlihnagfmfpdcaa", sum := "b248d1a2517d54d3054d0830e4f5741cbad824fde49d105953ffa293ed354dd3", func := "plumbline/plumblinelaw01.NatTexts", spec := "natTexts", apart := false }
def NatTextsSaid : Prop := natTextsRow.holds Try.pinned (OpenSpec.ofChange natTextsSpec)

/-- ITS FALSE NEIGHBOUR: 'it returns false'. Refute it at one input. -/
def natTextsWrong : ChangeSpec := { name := "natTexts", fn := fun _ => fun
  | [d1, d2] => { results := [.lit (.bool false)], args := [d1, d2] }
  | _ => none }
def NatTextsWrongFalsely : Prop := natTextsRow.holds Try.pinned (OpenSpec.ofChange natTextsWrong)

/-- 'plumblinelaw01.NatTold': WHATEVER THE INPUT: true; the input reads as it did. -/
def natToldSpec : ChangeSpec := { name := "natTold", fn := fun _ => fun
  | [d1, d2, d3] => { results := [.lit (.bool true)], args := [d1, d2, d3] }
  | _ => none }
def natToldRow : OpenClaim := { program := "ytlihnagfmfpdcaa", sum := "b248d1a2517d54d3054d0830e4f5741cbad824fde49d105953ffa293ed354dd3", func := "plumbline/plumblinelaw01.NatTold", spec := "natTold", apart := false }
def NatToldSaid : Prop := natToldRow.holds Try.pinned (OpenSpec.ofChange natToldSpec)

/-- ITS FALSE NEIGHBOUR: 'it returns false'. Refute it at one input. -/
def natToldWrong : ChangeSpec := { name := "natTold", fn := fun _ => fun
  | [d1, d2, d3] => { results := [.lit (.bool false)], args := [d1, d2, d3] }
  | _ => none }
def NatToldWrongFalsely : Prop := natToldRow.holds Try.pinned (OpenSpec.ofChange natToldWrong)

/-- 'plumblinelaw02.ZintShares': WHATEVER THE INPUT: true; the input reads as it did. -/
def zintSharesSpec : ChangeSpec := { name := "zintShares", fn := fun _ => fun
  | [d1, d2] => { results := [.lit (.bool true)], args := [d1, d2] }
  | _ => none }
def zintSharesRow : OpenClaim := { program := "ytlihnagfmfpdcaa", sum := "b248d1a2517d54d3054d0830e4f5741cbad824fde49d105953ffa293ed354dd3", func := "plumbline/plumblinelaw02.ZintShares", spec := "zintShares", recurses := true, apart := false }
def ZintSharesSaid : Prop := zintSharesRow.holds Try.pinned (OpenSpec.ofChange zintSharesSpec)

/-- ITS FALSE NEIGHBOUR: 'it returns false'. Refute it at one input. -/
def zintSharesWrong : ChangeSpec := { name := "zintShares", fn := fun _ => fun
  | [d1, d2] => { results := [.lit (.bool false)], args := [d1, d2] }
  | _ => none }
def ZintSharesWrongFalsely : Prop := zintSharesRow.holds Try.pinned (OpenSpec.ofChange zintSharesWrong)

/-- 'plumblinelaw02.ZintTexts': WHATEVER THE INPUT: true; the input reads as it did. -/
def zintTextsSpec : ChangeSpec := { name := "zintTexts", fn := fun _ => fun
  | [d1, d2] => { results := [.lit (.bool true)], args := [d1, d2] }
  | _ => none }
def zintTextsRow : OpenClaim := { program := "ytlihnagfmfpdcaa", sum := "b248d1a2517d54d3054d0830e4f5741cbad824fde49d105953ffa293ed354dd3", func := "plumbline/plumblinelaw02.ZintTexts", spec := "zintTexts", apart := false }
def ZintTextsSaid : Prop := zintTextsRow.holds Try.pinned (OpenSpec.ofChange zintTextsSpec)

/-- ITS FALSE NEIGHBOUR: 'it returns false'. Refute it at one input. -/
def zintTextsWrong : ChangeSpec := { name := "zintTexts", fn := fun _ => fun
  | [d1, d2] => { results := [.lit (.bool false)], args := [d1, d2] }
  | _ => none }
def ZintTextsWrongFalsely : Prop := zintTextsRow.holds Try.pinned (OpenSpec.ofChange zintTextsWrong)

/-- 'plumblinelaw02.ZintEuclid': WHATEVER THE INPUT: true; the input reads as it did. -/
def zintEuclidSpec : ChangeSpec := { name := "zintEuclid", fn := fun _ => fun
  | [d1, d2] => { results := [.lit (.bool true)], args := [d1, d2] }
  | _ => none }
def zintEuclidRow : OpenClaim := { program := "ytlihnagfmfpdcaa", sum := "b248d1a2517d54d3054d0830e4f5741cbad824fde49d105953ffa293ed354dd3", func := "plumbline/plumblinelaw02.ZintEuclid", spec := "zintEuclid", recurses := true, apart := false }
def ZintEuclidSaid : Prop := zintEuclidRow.holds Try.pinned (OpenSpec.ofChange zintEuclidSpec)

/-- ITS FALSE NEIGHBOUR: 'it returns false'. Refute it at one input. -/
def zintEuclidWrong : ChangeSpec := { name := "zintEuclid", fn := fun _ => fun
  | [d1, d2] => { results := [.lit (.bool false)], args := [d1, d2] }
  | _ => none }
def ZintEuclidWrongFalsely : Prop := zintEuclidRow.holds Try.pinned (OpenSpec.ofChange zintEuclidWrong)

/-- 'plumblinelaw02.ZintTold': WHATEVER THE INPUT: true; the input reads as it did. -/
def zintToldSpec : ChangeSpec := { name := "zintTold", fn := fun _ => fun
  | [d] => { results := [.lit (.bool true)], args := [d] }
  | _ => none }
def zintToldRow : OpenClaim := { program := "ytlihnagfmfpdcaa", sum := "b248d1a2517d54d3054d0830e4f5741cbad824fde49d105953ffa293ed354dd3", func := "plumbline/plumblinelaw02.ZintTold", spec := "zintTold", recurses := true, apart := false }
def ZintToldSaid : Prop := zintToldRow.holds Try.pinned (OpenSpec.ofChange zintToldSpec)

/-- ITS FALSE NEIGHBOUR: 'it returns false'. Refute it at one input. -/
def zintToldWrong : ChangeSpec := { name := "zintTold", fn := fun _ => fun
  | [d] => { results := [.lit (.bool false)], args := [d] }
  | _ => none }
def ZintToldWrongFalsely : Prop := zintToldRow.holds Try.pinned (OpenSpec.ofChange zintToldWrong)

/- THE SECOND FORM. 'bulk': how many values and letters a reading holds, each counted each time it is reached (what is shared counts as often as it is met; a slice's spare places count too). A statement '..UptoSaid' is the law's where the arguments, and the package variables that the reading takes, are together of bulk at most 1048576: NARROWER than '..Said'. Prove '..Said' where nothing that the law and all that it calls make is longer than what came in: it says more and counts as full. Else prove '..UptoSaid'. A law counts once. -/
mutual
def uptoBulk {H : Type} : DataW H → Nat
  | .lit (.string bytes) => bytes.length + 1
  | .lit _ => 1
  | .nil => 1
  | .ptr d => uptoBulk d + 1
  | .slice elems spare => uptoBulkAll elems + uptoBulkAll spare + 1
  | .agg parts => uptoBulkAll parts + 1
  | .iface _ d => uptoBulk d + 1
  | .map entries => uptoBulkEntries entries + 1
  | .held _ => 1
def uptoBulkAll {H : Type} : List (DataW H) → Nat
  | [] => 0
  | d :: r => uptoBulk d + uptoBulkAll r
def uptoBulkEntries {H : Type} : List (Lit × DataW H) → Nat
  | [] => 0
  | x :: r => uptoBulkEntry x + uptoBulkEntries r
def uptoBulkEntry {H : Type} : Lit × DataW H → Nat
  | (.string bytes, d) => bytes.length + uptoBulk d + 1
  | (_, d) => uptoBulk d + 1
 end
def uptoSmall : (H : Type) → List (DataW H) → Bool := fun _ ds => decide (uptoBulkAll ds ≤ 1048576)
def OpenSpec.upto (s : _root_.Go.ChangeSpec) : _root_.Go.OpenSpec := { _root_.Go.OpenSpec.ofChange s with cond := some uptoSmall }

/-- 'plumblinelaw01.NatMuls', WHERE WHAT IT READS IS OF BULK AT MOST 1048576: true; the input reads as it did. -/
def natMulsUptoRow : OpenClaim := { program := "ytlihnagfmfpdcaa", sum := "b248d1a2517d54d3054d0830e4f5741cbad824fde49d105953ffa293ed354dd3", func := "plumbline/plumblinelaw01.NatMuls", spec := "natMuls", recurses := true, apart := false, narrowed := true }
def NatMulsUptoSaid : Prop := natMulsUptoRow.holds Try.pinned (OpenSpec.upto natMulsSpec)

/-- 'plumblinelaw01.NatTexts', WHERE WHAT IT READS IS OF BULK AT MOST 1048576: true; the input reads as it did. -/
def natTextsUptoRow : OpenClaim := { program := "ytlihnagfmfpdcaa", sum := "b248d1a2517d54d3054d0830e4f5741cbad824fde49d105953ffa293ed354dd3", func := "plumbline/plumblinelaw01.NatTexts", spec := "natTexts", apart := false, narrowed := true }
def NatTextsUptoSaid : Prop := natTextsUptoRow.holds Try.pinned (OpenSpec.upto natTextsSpec)

/-- 'plumblinelaw01.NatTold', WHERE WHAT IT READS IS OF BULK AT MOST 1048576: true; the input reads as it did. -/
def natToldUptoRow : OpenClaim := { program := "ytlihnagfmfpdcaa", sum := "b248d1a2517d54d3054d0830e4f5741cbad824fde49d105953ffa293ed354dd3", func := "plumbline/plumblinelaw01.NatTold", spec := "natTold", apart := false, narrowed := true }
def NatToldUptoSaid : Prop := natToldUptoRow.holds Try.pinned (OpenSpec.upto natToldSpec)

/-- 'plumblinelaw02.ZintShares', WHERE WHAT IT READS IS OF BULK AT MOST 1048576: true; the input reads as it did. -/
def zintSharesUptoRow : OpenClaim := { program := "ytlihnagfmfpdcaa", sum := "b248d1a2517d54d3054d0830e4f5741cbad824fde49d105953ffa293ed354dd3", func := "plumbline/plumblinelaw02.ZintShares", spec := "zintShares", recurses := true, apart := false, narrowed := true }
def ZintSharesUptoSaid : Prop := zintSharesUptoRow.holds Try.pinned (OpenSpec.upto zintSharesSpec)

/-- 'plumblinelaw02.ZintTexts', WHERE WHAT IT READS IS OF BULK AT MOST 1048576: true; the input reads as it did. -/
def zintTextsUptoRow : OpenClaim := { program := "ytlihnagfmfpdcaa", sum := "b248d1a2517d54d3054d0830e4f5741cbad824fde49d105953ffa293ed354dd3", func := "plumbline/plumblinelaw02.ZintTexts", spec := "zintTexts", apart := false, narrowed := true }
def ZintTextsUptoSaid : Prop := zintTextsUptoRow.holds Try.pinned (OpenSpec.upto zintTextsSpec)

/-- 'plumblinelaw02.ZintEuclid', WHERE WHAT IT READS IS OF BULK AT MOST 1048576: true; the input reads as it did. -/
def zintEuclidUptoRow : OpenClaim := { program := "ytlihnagfmfpdcaa", sum := "b248d1a2517d54d3054d0830e4f5741cbad824fde49d105953ffa293ed354dd3", func := "plumbline/plumblinelaw02.ZintEuclid", spec := "zintEuclid", recurses := true, apart := false, narrowed := true }
def ZintEuclidUptoSaid : Prop := zintEuclidUptoRow.holds Try.pinned (OpenSpec.upto zintEuclidSpec)

/-- 'plumblinelaw02.ZintTold', WHERE WHAT IT READS IS OF BULK AT MOST 1048576: true; the input reads as it did. -/
def zintToldUptoRow : OpenClaim := { program := "ytlihnagfmfpdcaa", sum := "b248d1a2517d54d3054d0830e4f5741cbad824fde49d105953ffa293ed354dd3", func := "plumbline/plumblinelaw02.ZintTold", spec := "zintTold", recurses := true, apart := false, narrowed := true }
def ZintToldUptoSaid : Prop := zintToldUptoRow.holds Try.pinned (OpenSpec.upto zintToldSpec)

end Rows
end Go.Proofs.Ytlihnagfmfpdcaa
