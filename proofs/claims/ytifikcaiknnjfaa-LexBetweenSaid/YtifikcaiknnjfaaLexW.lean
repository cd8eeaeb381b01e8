/- plumblineref10.All. -/
import Derived.Test.YtifikcaiknnjfaaLexV
import Derived.Test.YtifikcaiknnjfaaLexTwo
import Derived.Test.YtifikcaiknnjfaaLexI
import Derived.Test.YtifikcaiknnjfaaLexAgain
import Derived.BigRegion
namespace Go.Proofs.Ytifikcaiknnjfaa
open Go.RowKit
open Lx

theorem cls5_eq {c : Nat} (hc : c < 256) : decide (clsB c = 5) = blk c := by
  have h : allC (fun c => decide (clsB c = 5) == blk c) 256 = true := by decide +kernel
  exact eq_of_beq (allC_spec h hc)
theorem cls_let {c : Nat} (h : letB c = true) : clsB c = 1 := by unfold clsB; rw [if_pos h]
theorem cls_dig {c : Nat} (hc : c < 256) (h : digB c = true) : clsB c = 2 := by
  have k : allC (fun c => !digB c || decide (clsB c = 2)) 256 = true := by decide +kernel
  have := allC_spec k hc
  rw [h] at this; simpa using this
theorem cls_big {c : Nat} (hc : c < 256) (h : bigB c = true) : clsB c = 4 := by
  have k : allC (fun c => !bigB c || decide (clsB c = 4)) 256 = true := by decide +kernel
  have := allC_spec k hc
  rw [h] at this; simpa using this
theorem cls_sgn {c : Nat} (hc : c < 256) (h : sgnB c = true) : clsB c = 6 := by
  have k : allC (fun c => !sgnB c || decide (clsB c = 6)) 256 = true := by decide +kernel
  have := allC_spec k hc
  rw [h] at this; simpa using this
theorem cls_none {c : Nat} (hc : c < 256) (h1 : letB c = false) (h2 : digB c = false) (h3 : bigB c = false) (h4 : sgnB c = false) (h5 : blk c = false) : clsB c = 0 ∨ clsB c = 3 := by
  have k : allC (fun c => letB c || digB c || bigB c || sgnB c || blk c || decide (clsB c = 0 ∨ clsB c = 3)) 256 = true := by decide +kernel
  have := allC_spec k hc
  rw [h1, h2, h3, h4, h5] at this; simpa using this
/-- What the loop of plumblineref10.All keeps: its list, its result's variable, and all that was there. -/
def RSt (s : ByteArray) (w wr : World) (c : Value) (acc : List Tok) : Prop :=
  LRow 38 4 wr (w.heap.size + 1) c acc.length (flatK (acc.map (tk s))) ∧ PBox wr w.heap.size (.int .i64 0) (.int .i64 0) ∧ Below w.heap.size w wr
theorem RSt.mk {s : ByteArray} {w wr : World} {c : Value} {acc : List Tok} (h1 : LRow 38 4 wr (w.heap.size + 1) c acc.length (flatK (acc.map (tk s)))) (h2 : PBox wr w.heap.size (.int .i64 0) (.int .i64 0)) (h3 : Below w.heap.size w wr) : RSt s w wr c acc := ⟨h1, h2, h3⟩
theorem RSt.next {s : ByteArray} {w wr wr' : World} {c : Value} {acc : List Tok} (h : RSt s w wr c acc) (hb : Below wr.heap.size wr wr') : RSt s w wr' c acc :=
  ⟨h.1.below hb, h.2.1.next hb, h.2.2.next hb⟩
def RAllPost (s : ByteArray) (w : World) (e : Ending) (w' : World) : Prop :=
  ∃ v, e = .returned (.tuple #[v, .agg #[.int .i64 ((resPos s (lexAll (byteAt s) s.size)).1 : Nat), .int .i64 ((resPos s (lexAll (byteAt s) s.size)).2 : Nat)], .int .i64 ((lexAll (byteAt s) s.size).code : Nat)]) ∧ Below w.heap.size w w' ∧
    LRow 38 4 w' w.heap.size v (lexAll (byteAt s) s.size).toks.length (flatK ((lexAll (byteAt s) s.size).toks.map (tk s)))
theorem go_err {f : Nat → Nat} {n m i j er : Nat} {acc : List Tok} (hs : skip f n i false = j) (hj : j < n) (hm : 0 < m) (he : tokErr f n j = er) (h0 : er ≠ 0) : lexGo f n m i acc = ⟨[], er, j⟩ := by
  obtain ⟨k, rfl⟩ : ∃ k, m = k + 1 := ⟨m - 1, by omega⟩
  rw [lexGo, hs, if_neg (by omega), he, if_pos h0]
theorem go_tok {f : Nat → Nat} {n m i j E kk : Nat} {acc : List Tok} (hs : skip f n i false = j) (hj : j < n) (hm : 0 < m) (he : tokErr f n j = 0) (hE : tokEnd f n j = E) (hk : tokKind (f j) = kk) : lexGo f n m i acc = lexGo f n (m - 1) E (acc ++ [(kk, j, E)]) := by
  obtain ⟨k, rfl⟩ : ∃ k, m = k + 1 := ⟨m - 1, by omega⟩
  rw [lexGo, hs, if_neg (by omega), he, if_neg (fun h => h rfl), hE, hk]
  rfl
theorem grown2 {w0 w w' : World} {row : Option Nat} (h : Below w0.heap.size w0 w) (k : w.grownBy w' row) : w0.grownBy w' row :=
  ⟨k.os.trans h.os, k.tape.trans h.tape, k.output.trans h.output, Nat.le_trans h.size k.size, fun i hi hne => (k.block i (Nat.lt_of_lt_of_le hi h.size) hne).trans (h.block i hi)⟩
theorem PBox.cells {w : World} {g : Nat} {x y : Value} (h : PBox w g x y) : w.cell? ⟨g, 0, none⟩ = some x ∧ w.cell? ⟨g, 1, none⟩ = some y := by
  unfold PBox at h
  constructor <;> simp [World.cell?, h]
set_option maxRecDepth 100000 in
set_option maxHeartbeats 2000000 in
theorem rall_long (s : ByteArray) (w : World) (hs : s.size ≤ 9223372036854775807) (hl : 16384 < s.size) : Calls Try.prog 19 #[.string s] w (RAllPost s w) := by
  have e : lexAll (byteAt s) s.size = ⟨[], 2, 0⟩ := if_pos hl
  have HP := hide (show ∀ v w', (v = .slice none 0 0) → Below w.heap.size w w' → RAllPost s w (.returned (.tuple #[v, .agg #[.int .i64 (1 : Int), .int .i64 (1 : Int)], .int .i64 (2 : Int)])) w' from by
    intro v w' hv hb
    subst hv
    refine ⟨.slice none 0 0, ?_, hb, ?_⟩
    · rw [e]; rfl
    · rw [e]; exact LRow.nil _ _ _ _)
  have x1 : (w.alloc (.cells #[.int .i64 0, .int .i64 0] 25)).heap[w.heap.size]? = some (.cells #[.int .i64 0, .int .i64 0] 25 (0, 0)) := heap_alloc_new w _
  have b0 := hide (bl_alloc w (.cells #[.int .i64 0, .int .i64 0] 25))
  clear e
  go_enter Try.func19, Try.ntmps19
  go_wp2_with (with_reducible refine wpList_store_row rfl 25 _ _ rfl w.heap.size #[.int .i64 (1 : Int), .int .i64 (1 : Int)] rfl rfl 25 #[.int .i64 0, .int .i64 0] x1 (by kernel_rfl) rfl (by simp [Value.oneCell']) ?_)
  refine bodyPost_all (g := w.heap.size) (x := .int .i64 (1 : Int)) (y := .int .i64 (1 : Int)) rfl rfl rfl rfl (setRow_heap _ _ _ _ _ _ x1) rfl ?_
  exact HP.out _ _ rfl (b0.out.trans ((only_setRow' _ _ _).below b0.out.size (Nat.le_refl _)))
end Go.Proofs.Ytifikcaiknnjfaa
