/- lex.All: what it hands back; a text that is too long. -/
import Derived.Test.YtifikcaiknnjfaaLexT
import Derived.Test.YtifikcaiknnjfaaLexTok
namespace Go.Proofs.Ytifikcaiknnjfaa
open Go.RowKit
open Lx

theorem only_setRow' (w : World) (g : Nat) (cs : Array Value) : Only g w (w.setRow g cs) :=
  ⟨rfl, rfl, rfl, by simp [World.setRow], fun k _ hne => setRow_other w g k cs (fun hh => hne (by rw [hh]))⟩
def PBox (w : World) (g : Nat) (x y : Value) : Prop := w.heap[g]? = some (.cells #[x, y] 25 (0, 0))
theorem results_all {fn : Func} {p q t : Tmp} (h : fn.results = #[.tmp p, .cell q 25, .tmp t]) (tmps : Array Value) (w : World) (g : Nat) (x y : Value)
    (hq : tmps.getD q undef = .pointer (some ⟨g, 0, none⟩)) (hg : PBox w g x y) :
    (results fn tmps).run Try.prog w = .ok (.tuple #[tmps.getD p undef, .agg #[x, y], tmps.getD t undef]) w := by
  have hq' : tmps[q]?.getD undef = .pointer (some ⟨g, 0, none⟩) := by simpa using hq
  simp [results, h, hq', asAddr, run_loadVar_row w g 25 25 #[x, y] (0, 0) _ hg Try.underlying25 rfl (by kernel_rfl)]
theorem bodyPost_all {fn : Func} {R : Ending → World → Prop} {a : Act} {w : World} {g p q t : Nat} {x y u v : Value} (hres : fn.results = #[.tmp p, .cell q 25, .tmp t]) (hq : a.tmps.getD q undef = .pointer (some ⟨g, 0, none⟩))
    (hu : a.tmps.getD p undef = u) (hv : a.tmps.getD t undef = v) (hb : PBox w g x y) (hd : a.defers = []) (hR : R (.returned (.tuple #[u, .agg #[x, y], v])) w) : bodyPost Try.prog fn R .ret a w :=
  bodyPost_ret (by rw [results_all hres _ _ g x y hq hb, hu, hv]) hd hR
def tk (s : ByteArray) (t : Tok) : TK := ⟨t.1, s.extract t.2.1 t.2.2, (posAt (byteAt s) t.2.1).1, (posAt (byteAt s) t.2.1).2⟩
def resPos (s : ByteArray) (r : Res) : Nat × Nat := if r.code = 0 then (0, 0) else posAt (byteAt s) r.off
def AllPost (s : ByteArray) (w : World) (e : Ending) (w' : World) : Prop :=
  ∃ v, e = .returned (.tuple #[v, .agg #[.int .i64 ((resPos s (lexAll (byteAt s) s.size)).1 : Nat), .int .i64 ((resPos s (lexAll (byteAt s) s.size)).2 : Nat)], .int .i64 ((lexAll (byteAt s) s.size).code : Nat)]) ∧ Below w.heap.size w w' ∧
    LRow 33 4 w' w.heap.size v (lexAll (byteAt s) s.size).toks.length (flatK ((lexAll (byteAt s) s.size).toks.map (tk s)))
theorem PBox.next {w w' : World} {g : Nat} {x y : Value} (h : PBox w g x y) (hb : Below w.heap.size w w') : PBox w' g x y :=
  (hb.block g (Array.getElem?_eq_some_iff.1 h).1).trans h
set_option maxHeartbeats 2000000 in
theorem all_long (s : ByteArray) (w : World) (hs : s.size ≤ 9223372036854775807) (hl : 16384 < s.size) : Calls Try.prog 10 #[.string s] w (AllPost s w) := by
  have e : lexAll (byteAt s) s.size = ⟨[], 2, 0⟩ := if_pos hl
  have HP := hide (show ∀ v w', (v = .slice none 0 0) → Below w.heap.size w w' → AllPost s w (.returned (.tuple #[v, .agg #[.int .i64 (1 : Int), .int .i64 (1 : Int)], .int .i64 (2 : Int)])) w' from by
    intro v w' hv hb
    subst hv
    refine ⟨.slice none 0 0, ?_, hb, ?_⟩
    · rw [e]; rfl
    · rw [e]; exact LRow.nil _ _ _ _)
  have x0 : PBox (w.alloc (.cells #[.int .i64 0, .int .i64 0] 25)) w.heap.size (.int .i64 0) (.int .i64 0) := heap_alloc_new w _
  have hp := pos_any (1, 1) (w.alloc (.cells #[.int .i64 0, .int .i64 0] 25)) (by decide) (by decide)
  unfold cx at hp
  simp only [show FL ((1 : Nat) : Int) = 4607182418800017408 from FL_one] at hp
  go_enter Try.func10, Try.ntmps10
  go_wp2_with fail
  refine hp.mono ?_
  rintro en w1 ⟨rfl, b1⟩
  have x1 : w1.heap[w.heap.size]? = some (.cells #[.int .i64 0, .int .i64 0] 25 (0, 0)) := x0.next b1
  have b0 := (bl_alloc w (.cells #[.int .i64 0, .int .i64 0] 25)).trans (b1.mono (bl_alloc w (.cells #[.int .i64 0, .int .i64 0] 25)).size)
  go_wp2_with (with_reducible refine wpList_store_row rfl 25 _ _ rfl w.heap.size #[.int .i64 (1 : Int), .int .i64 (1 : Int)] rfl rfl 25 #[.int .i64 0, .int .i64 0] x1 (by kernel_rfl) rfl (by simp [Value.oneCell']) ?_)
  refine bodyPost_all (g := w.heap.size) (x := .int .i64 (1 : Int)) (y := .int .i64 (1 : Int)) rfl rfl rfl rfl (setRow_heap _ _ _ _ _ _ x1) rfl ?_
  exact HP.out _ _ rfl (b0.trans ((only_setRow' _ _ _).below b0.size (Nat.le_refl _)))
end Go.Proofs.Ytifikcaiknnjfaa
