/-
  NARROWER THAN 'FOR EVERY INPUT', by the rows' own cells (each row's printed sentence says how): ExprParses: laid · ExprBack: loops, laid · ExprTwice: laid · ExprHolds: loops, laid · ExprDeep: laid.
  DERIVED. THE GIVEN ROWS OF THIS SEAT. 5 by the template 'for every input the law returns true; each argument reads behind the call as it read before'; 0 by the template 'total and deterministic' (their statements: YtgohmojcopajoaaGreatDoorTotals.lean).
  GIVEN WITH THE SEED: the statements are not yours to turn. If you find one false, say at which input.
  Laid BY PROGRAM, IN A SANDBOX (cutbox-rows.mjs): the forced cells as the released guide's own fill.sh prints them over the translation 2039676e32daeafc… (all of the seat's roots in one cut). By AI agents, Wed Nov 11 2026. No macro, syntax, notation, axiom, sorry.
-/
import Derived.Test.YtgohmojcopajoaaGreatDoorChecked
import GoSem.Claim
import GoSem.ClaimJoined
import GoSem.ClaimMapViews
import Derived.JoinedTies
import Derived.KernelRfl
namespace Go.Proofs.YtgohmojcopajoaaGreatDoor
/- THE CELL 'sum', in the pinned program and in every row, IS THE sha256 OF THE DUMP (.gsa) THAT YtgohmojcopajoaaGreatDoorProg.lean LOADS. Nothing in Lean hashes anything: it is a label: what it is worth is what the hold of that sum in a sandbox is worth. -/
noncomputable def Tryz.pinned : Pinned := { name := "ytgohmojcopajoaagreatdoor", sum := "2039676e32daeafcde7d6b9f3bc757419523d482f471d3a19a8d5f0e47c433c5", checked := Tryz.checked }
namespace Rows
def none {H : Type} : Left H := { results := [], args := [] }

/- WHAT THE LISTED PACKAGE-LEVEL VARIABLES READ AS WHEN THE CALL BEGINS. Each datum BY PROGRAM (the guide's laid-datum.mjs) off the statement by which the dump's own 'gosem.cut.vars' lays the variable. In a bare row this is a premise. The card (YtgohmojcopajoaaGreatDoorCards.lean) ties it to the program's text. -/
def laid_plumbline_expr_operators {H : Type} : DataW H := .agg [.lit (.string [61]), .lit (.string [33, 61]), .lit (.string [60]), .lit (.string [60, 61]), .lit (.string [62]), .lit (.string [62, 61])]

/-- 'plumblinelaw11.ExprParses': WHATEVER THE INPUT: true; the input reads as it did. -/
def exprParsesSpec : ChangeSpec := { name := "exprParses", fn := fun _ => fun
  | [d] => { results := [.lit (.bool true)], args := [d] }
  | _ => none }
def exprParsesRow : OpenClaim := { program := "ytgohmojcopajoaagreatdoor", sum := "2039676e32daeafcde7d6b9f3bc757419523d482f471d3a19a8d5f0e47c433c5", func := "plumbline/plumblinelaw11.ExprParses", spec := "exprParses", inPlace := ["internal/bytealg.IndexByteString", "internal/abi.NoEscape"], unfollowed := true, recurses := true, named := ["plumbline/expr.operators"], apart := false, laid := [("plumbline/expr.operators", laid_plumbline_expr_operators)] }
def ExprParsesSaid : Prop := exprParsesRow.holds Tryz.pinned (OpenSpec.ofChange exprParsesSpec)

/-- ITS FALSE NEIGHBOUR: 'it returns false'. Refute it at one input. -/
def exprParsesWrong : ChangeSpec := { name := "exprParses", fn := fun _ => fun
  | [d] => { results := [.lit (.bool false)], args := [d] }
  | _ => none }
def ExprParsesWrongFalsely : Prop := exprParsesRow.holds Tryz.pinned (OpenSpec.ofChange exprParsesWrong)

/-- 'plumblinelaw11.ExprBack': WHATEVER THE INPUT: true; the input reads as it did. -/
def exprBackSpec : ChangeSpec := { name := "exprBack", fn := fun _ => fun
  | [d1, d2] => { results := [.lit (.bool true)], args := [d1, d2] }
  | _ => none }
def exprBackRow : OpenClaim := { program := "ytgohmojcopajoaagreatdoor", sum := "2039676e32daeafcde7d6b9f3bc757419523d482f471d3a19a8d5f0e47c433c5", func := "plumbline/plumblinelaw11.ExprBack", spec := "exprBack", inPlace := ["internal/bytealg.IndexByteString", "internal/abi.NoEscape"], unfollowed := true, recurses := true, named := ["plumbline/expr.operators"], loops := true, apart := false, laid := [("plumbline/expr.operators", laid_plumbline_expr_operators)] }
def ExprBackSaid : Prop := exprBackRow.holds Tryz.pinned (OpenSpec.ofChange exprBackSpec)

/-- ITS FALSE NEIGHBOUR: 'it returns false'. Refute it at one input. -/
def exprBackWrong : ChangeSpec := { name := "exprBack", fn := fun _ => fun
  | [d1, d2] => { results := [.lit (.bool false)], args := [d1, d2] }
  | _ => none }
def ExprBackWrongFalsely : Prop := exprBackRow.holds Tryz.pinned (OpenSpec.ofChange exprBackWrong)

/-- 'plumblinelaw11.ExprTwice': WHATEVER THE INPUT: true; the input reads as it did. -/
def exprTwiceSpec : ChangeSpec := { name := "exprTwice", fn := fun _ => fun
  | [d] => { results := [.lit (.bool true)], args := [d] }
  | _ => none }
def exprTwiceRow : OpenClaim := { program := "ytgohmojcopajoaagreatdoor", sum := "2039676e32daeafcde7d6b9f3bc757419523d482f471d3a19a8d5f0e47c433c5", func := "plumbline/plumblinelaw11.ExprTwice", spec := "exprTwice", inPlace := ["internal/bytealg.IndexByteString", "internal/abi.NoEscape"], unfollowed := true, recurses := true, named := ["plumbline/expr.operators"], apart := false, laid := [("plumbline/expr.operators", laid_plumbline_expr_operators)] }
def ExprTwiceSaid : Prop := exprTwiceRow.holds Tryz.pinned (OpenSpec.ofChange exprTwiceSpec)

/-- ITS FALSE NEIGHBOUR: 'it returns false'. Refute it at one input. -/
def exprTwiceWrong : ChangeSpec := { name := "exprTwice", fn := fun _ => fun
  | [d] => { results := [.lit (.bool false)], args := [d] }
  | _ => none }
def ExprTwiceWrongFalsely : Prop := exprTwiceRow.holds Tryz.pinned (OpenSpec.ofChange exprTwiceWrong)

/-- 'plumblinelaw11.ExprHolds': WHATEVER THE INPUT: true; the input reads as it did. -/
def exprHoldsSpec : ChangeSpec := { name := "exprHolds", fn := fun _ => fun
  | [d1, d2, d3] => { results := [.lit (.bool true)], args := [d1, d2, d3] }
  | _ => none }
def exprHoldsRow : OpenClaim := { program := "ytgohmojcopajoaagreatdoor", sum := "2039676e32daeafcde7d6b9f3bc757419523d482f471d3a19a8d5f0e47c433c5", func := "plumbline/plumblinelaw11.ExprHolds", spec := "exprHolds", inPlace := ["internal/bytealg.IndexByteString", "internal/abi.NoEscape"], unfollowed := true, recurses := true, named := ["plumbline/expr.operators"], loops := true, apart := false, laid := [("plumbline/expr.operators", laid_plumbline_expr_operators)] }
def ExprHoldsSaid : Prop := exprHoldsRow.holds Tryz.pinned (OpenSpec.ofChange exprHoldsSpec)

/-- ITS FALSE NEIGHBOUR: 'it returns false'. Refute it at one input. -/
def exprHoldsWrong : ChangeSpec := { name := "exprHolds", fn := fun _ => fun
  | [d1, d2, d3] => { results := [.lit (.bool false)], args := [d1, d2, d3] }
  | _ => none }
def ExprHoldsWrongFalsely : Prop := exprHoldsRow.holds Tryz.pinned (OpenSpec.ofChange exprHoldsWrong)

/-- 'plumblinelaw11.ExprDeep': WHATEVER THE INPUT: true; the input reads as it did. -/
def exprDeepSpec : ChangeSpec := { name := "exprDeep", fn := fun _ => fun
  | [d1, d2] => { results := [.lit (.bool true)], args := [d1, d2] }
  | _ => none }
def exprDeepRow : OpenClaim := { program := "ytgohmojcopajoaagreatdoor", sum := "2039676e32daeafcde7d6b9f3bc757419523d482f471d3a19a8d5f0e47c433c5", func := "plumbline/plumblinelaw11.ExprDeep", spec := "exprDeep", inPlace := ["internal/bytealg.IndexByteString", "internal/abi.NoEscape"], unfollowed := true, recurses := true, named := ["plumbline/expr.operators"], apart := false, laid := [("plumbline/expr.operators", laid_plumbline_expr_operators)] }
def ExprDeepSaid : Prop := exprDeepRow.holds Tryz.pinned (OpenSpec.ofChange exprDeepSpec)

/-- ITS FALSE NEIGHBOUR: 'it returns false'. Refute it at one input. -/
def exprDeepWrong : ChangeSpec := { name := "exprDeep", fn := fun _ => fun
  | [d1, d2] => { results := [.lit (.bool false)], args := [d1, d2] }
  | _ => none }
def ExprDeepWrongFalsely : Prop := exprDeepRow.holds Tryz.pinned (OpenSpec.ofChange exprDeepWrong)

/- THE SECOND FORM. 'bulk': how many values and letters a reading holds, each counted each time it is reached (what is shared counts as often as it is met; a slice's spare places count too). A statement '..UptoSaid' is the law's where the arguments, and the package variables that the reading takes, are together of bulk at most 1048576: NARROWER than '..Said'. Prove '..Said' where nothing that the law and all that it calls make is longer than what came in: it says more and counts as full. Else prove '..UptoSaid'. A law counts once. -/
mutual
def uptoBulk {H : Type} : DataW H → Nat
  | .lit (.string bytes) => bytes.length + 1
  | .lit _ => 1
  | .nil => 1
  | .ptr d => uptoBulk d + 1
  | .slice elems spare => uptoBulkAll elems + uptoBulkAll spare + 1
  | .agg parts => uptoBulkAll parts + 1
  | .iface _ d => uptoBulk d + 1
  | .map entries => uptoBulkEntries entries + 1
  | .held _ => 1
def uptoBulkAll {H : Type} : List (DataW H) → Nat
  | [] => 0
  | d :: r => uptoBulk d + uptoBulkAll r
def uptoBulkEntries {H : Type} : List (Lit × DataW H) → Nat
  | [] => 0
  | x :: r => uptoBulkEntry x + uptoBulkEntries r
def uptoBulkEntry {H : Type} : Lit × DataW H → Nat
  | (.string bytes, d) => bytes.length + uptoBulk d + 1
  | (_, d) => uptoBulk d + 1
 end
def uptoSmall : (H : Type) → List (DataW H) → Bool := fun _ ds => decide (uptoBulkAll ds ≤ 1048576)
def OpenSpec.upto (s : _root_.Go.ChangeSpec) : _root_.Go.OpenSpec := { _root_.Go.OpenSpec.ofChange s with cond := some uptoSmall }

/-- 'plumblinelaw11.ExprParses', WHERE WHAT IT READS IS OF BULK AT MOST 1048576: true; the input reads as it did. -/
def exprParsesUptoRow : OpenClaim := { program := "ytgohmojcopajoaagreatdoor", sum := "2039676e32daeafcde7d6b9f3bc757419523d482f471d3a19a8d5f0e47c433c5", func := "plumbline/plumblinelaw11.ExprParses", spec := "exprParses", inPlace := ["internal/bytealg.IndexByteString", "internal/abi.NoEscape"], unfollowed := true, recurses := true, named := ["plumbline/expr.operators"], apart := false, laid := [("plumbline/expr.operators", laid_plumbline_expr_operators)], narrowed := true }
def ExprParsesUptoSaid : Prop := exprParsesUptoRow.holds Tryz.pinned (OpenSpec.upto exprParsesSpec)

/-- 'plumblinelaw11.ExprBack', WHERE WHAT IT READS IS OF BULK AT MOST 1048576: true; the input reads as it did. -/
def exprBackUptoRow : OpenClaim := { program := "ytgohmojcopajoaagreatdoor", sum := "2039676e32daeafcde7d6b9f3bc757419523d482f471d3a19a8d5f0e47c433c5", func := "plumbline/plumblinelaw11.ExprBack", spec := "exprBack", inPlace := ["internal/bytealg.IndexByteString", "internal/abi.NoEscape"], unfollowed := true, recurses := true, named := ["plumbline/expr.operators"], loops := true, apart := false, laid := [("plumbline/expr.operators", laid_plumbline_expr_operators)], narrowed := true }
def ExprBackUptoSaid : Prop := exprBackUptoRow.holds Tryz.pinned (OpenSpec.upto exprBackSpec)

/-- 'plumblinelaw11.ExprTwice', WHERE WHAT IT READS IS OF BULK AT MOST 1048576: true; the input reads as it did. -/
def exprTwiceUptoRow : OpenClaim := { program := "ytgohmojcopajoaagreatdoor", sum := "2039676e32daeafcde7d6b9f3bc757419523d482f471d3a19a8d5f0e47c433c5", func := "plumbline/plumblinelaw11.ExprTwice", spec := "exprTwice", inPlace := ["internal/bytealg.IndexByteString", "internal/abi.NoEscape"], unfollowed := true, recurses := true, named := ["plumbline/expr.operators"], apart := false, laid := [("plumbline/expr.operators", laid_plumbline_expr_operators)], narrowed := true }
def ExprTwiceUptoSaid : Prop := exprTwiceUptoRow.holds Tryz.pinned (OpenSpec.upto exprTwiceSpec)

/-- 'plumblinelaw11.ExprHolds', WHERE WHAT IT READS IS OF BULK AT MOST 1048576: true; the input reads as it did. -/
def exprHoldsUptoRow : OpenClaim := { program := "ytgohmojcopajoaagreatdoor", sum := "2039676e32daeafcde7d6b9f3bc757419523d482f471d3a19a8d5f0e47c433c5", func := "plumbline/plumblinelaw11.ExprHolds", spec := "exprHolds", inPlace := ["internal/bytealg.IndexByteString", "internal/abi.NoEscape"], unfollowed := true, recurses := true, named := ["plumbline/expr.operators"], loops := true, apart := false, laid := [("plumbline/expr.operators", laid_plumbline_expr_operators)], narrowed := true }
def ExprHoldsUptoSaid : Prop := exprHoldsUptoRow.holds Tryz.pinned (OpenSpec.upto exprHoldsSpec)

/-- 'plumblinelaw11.ExprDeep', WHERE WHAT IT READS IS OF BULK AT MOST 1048576: true; the input reads as it did. -/
def exprDeepUptoRow : OpenClaim := { program := "ytgohmojcopajoaagreatdoor", sum := "2039676e32daeafcde7d6b9f3bc757419523d482f471d3a19a8d5f0e47c433c5", func := "plumbline/plumblinelaw11.ExprDeep", spec := "exprDeep", inPlace := ["internal/bytealg.IndexByteString", "internal/abi.NoEscape"], unfollowed := true, recurses := true, named := ["plumbline/expr.operators"], apart := false, laid := [("plumbline/expr.operators", laid_plumbline_expr_operators)], narrowed := true }
def ExprDeepUptoSaid : Prop := exprDeepUptoRow.holds Tryz.pinned (OpenSpec.upto exprDeepSpec)

end Rows
end Go.Proofs.YtgohmojcopajoaaGreatDoor
