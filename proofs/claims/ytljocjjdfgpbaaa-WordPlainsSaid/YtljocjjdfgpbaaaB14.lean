/- Texts of one seat, put together: WordJ WordK. -/
import Derived.Test.YtljocjjdfgpbaaaB12
import Derived.Laws.MakeOwn
set_option linter.unusedVariables false
/- word.has, track.next, track.each. -/
namespace Go.Proofs.Ytljocjjdfgpbaaa
open Go.RowKit
open Wo

set_option maxHeartbeats 4000000 in
theorem has_any (S : Nat → Prop) (A : Option Addr) (n c : Nat) (l : List Bool) (pr : Int) (w : World) (h : BIn S w A n l) : Calls Try.prog 45 #[.slice A n c, .int .i64 pr] w (fun e w' => e = .returned (.bool (hasB l pr)) ∧ Below w.heap.size w w') := by
  obtain ⟨res, hres⟩ : ∃ res, res = hasB l pr := ⟨_, rfl⟩
  rw [← hres]
  have hl := h.1
  by_cases hp0 : 0 ≤ pr
  · by_cases hpl : pr < (n : Int)
    · obtain ⟨pn, rfl⟩ : ∃ pn : Nat, pr = (pn : Int) := ⟨pr.toNat, by omega⟩
      obtain ⟨be, oe, v, rfl, hlt2, hv, dv⟩ := h.at_ (j := pn) (by omega)
      have HE := hide (show res = v from by rw [hres]; unfold hasB; rw [List.getD_eq_getElem?_getD]; simp [hv])
      clear hv hres h hl
      go_enter Try.func45, Try.ntmps45
      go_wp2_with fail
      go_ret
      exact ⟨by rw [HE.out]; rfl, Below.refl _ _⟩
    · have HE := hide (show res = false from by rw [hres]; unfold hasB; rw [List.getD_eq_getElem?_getD, List.getElem?_eq_none (by omega)]; simp)
      clear hres h hl
      go_enter Try.func45, Try.ntmps45
      go_wp2_with fail
      go_ret
      exact ⟨by rw [HE.out]; rfl, Below.refl _ _⟩
  · have HE := hide (show res = false from by rw [hres]; unfold hasB; simp; omega)
    clear hres h hl
    go_enter Try.func45, Try.ntmps45
    go_wp2_with fail
    go_ret
    exact ⟨by rw [HE.out]; rfl, Below.refl _ _⟩
/-- The letter behind one. -/
def nxt (b n i : Nat) : Nat := if i + 1 = n then b else i + 1
set_option maxHeartbeats 4000000 in
theorem next_any (A : Option Addr) (n c b i : Nat) (w : World) (hn : n ≤ 1000000) (hi : i < n) : Calls Try.prog 47 #[.agg #[.slice A n c, .int .i64 (b : Int)], .int .i64 (i : Int)] w (fun e w' => e = .returned (.int .i64 (nxt b n i : Nat)) ∧ Below w.heap.size w w') := by
  obtain ⟨r, hr⟩ : ∃ r, r = nxt b n i := ⟨_, rfl⟩
  rw [← hr]
  have hb := bl_alloc w (.cells #[.slice A n c, .int .i64 (b : Int)] 53)
  have HB := hide hb
  by_cases h : i + 1 = n
  · have HE := hide (show r = b from by rw [hr]; unfold nxt; rw [if_pos h])
    have g1 : ((i : Int) == (n : Int) - 1) = true := by simp; omega
    clear h hb hr
    go_enter Try.func47, Try.ntmps47
    go_wp2_with fail
    go_ret
    exact ⟨by rw [HE.out]; rfl, HB.out⟩
  · have HE := hide (show r = i + 1 from by rw [hr]; unfold nxt; rw [if_neg h])
    have g1 : ((i : Int) == (n : Int) - 1) = false := by simp; omega
    clear h hb hr
    go_enter Try.func47, Try.ntmps47
    go_wp2_with fail
    go_ret
    exact ⟨by rw [HE.out]; rfl, HB.out⟩
/-- A list of Booleans of the call's own. -/
def ABox (w : World) (g : Nat) (l : List Bool) : Prop := Box 4 w g (l.map fun b => Value.bool b).toArray
theorem ABox.cell {w : World} {g : Nat} {l : List Bool} (h : ABox w g l) {i : Nat} {b : Bool} (hi : l[i]? = some b) : w.cell? ⟨g, i, none⟩ = some (.bool b) := Box.cell h i _ (by simp [hi])
theorem ABox.set {w : World} {g : Nat} {l : List Bool} (h : ABox w g l) (i : Nat) (b : Bool) : ABox (w.setCell ⟨g, i, none⟩ (.bool b)) g (l.set i b) := by
  unfold ABox Box at h ⊢
  simp [World.setCell, Array.getElem?_modify, h]
/-- The first q are there. -/
def filled (K : Nat → Bool) (n q : Nat) : List Bool := (List.range n).map fun i => if i < q then K i else false
theorem filled_zero (K : Nat → Bool) (n : Nat) : filled K n 0 = List.replicate n false := by
  apply List.ext_getElem?
  intro i
  unfold filled
  rcases Nat.lt_or_ge i n with q | q
  · simp [q]
  · rw [List.getElem?_eq_none (by simpa using q), List.getElem?_eq_none (by simpa using q)]
theorem filled_all (K : Nat → Bool) (n : Nat) : filled K n n = (List.range n).map K := by
  unfold filled
  apply List.map_congr_left
  intro i hi
  rw [if_pos (List.mem_range.1 hi)]
theorem filled_get (K : Nat → Bool) {n q : Nat} (h : q < n) : (filled K n q)[q]? = some false := by simp [filled, h]
theorem filled_set (K : Nat → Bool) {n q : Nat} (h : q < n) : (filled K n q).set q (K q) = filled K n (q + 1) := by
  apply List.ext_getElem?
  intro i
  unfold filled
  rw [List.getElem?_set]
  by_cases hi : q = i
  · subst hi; simp [h]
  · rw [if_neg hi]
    rcases Nat.lt_or_ge i n with hn | hn
    · simp [hn]
      have e : decide (i < q) = decide (i < q + 1) := by by_cases h1 : i < q <;> simp [h1] <;> omega
      rw [e]
    · rw [List.getElem?_eq_none (by simpa using hn), List.getElem?_eq_none (by simpa using hn)]
theorem bool_info : (Try.prog.info? 4).map (fun i => (i.zero, i.size, i.bytes)) = some (some (.bool false), 1, 1) := by kernel_rfl
theorem run_make_bools (n : Nat) (hn : n ≤ 1000000) (w : World) : (Instr.makeSlice 47 (.int .i64 (n : Int)) (.int .i64 (n : Int))).run Try.prog w = .ok (.slice (some ⟨w.heap.size, 0, none⟩) n n) (w.alloc (.cells (Array.replicate n (Value.bool false)) 4)) := by
  obtain ⟨i0, hi0, hz0, hz1, hz2⟩ := info_parts bool_info
  have h := run_make (P := Try.prog) w 47 4 i0 _ Try.underlying47 hi0 hz0 .i64 .i64 (n : Int) (n : Int) (by omega) (Int.le_refl _) (by rw [hz2]; omega) (by omega)
  rw [h, hz1]
  have e : madeCells (Value.bool false).cells ((n : Int).toNat * 1) = (Array.replicate n (Value.bool false)) := by
    apply Array.ext'
    apply List.ext_getElem?
    intro j
    simp [madeCells, Value.cells]
    rcases Nat.lt_or_ge j n with q | q
    · rw [List.getElem?_eq_getElem (by simpa using q), List.getElem?_eq_getElem (by simpa using q)]
      simp [Nat.mod_one]
    · rw [List.getElem?_eq_none (by simpa using q), List.getElem?_eq_none (by simpa using q)]
      rfl
  rw [e]
  simp
set_option maxRecDepth 100000 in
set_option maxHeartbeats 8000000 in
theorem each_any (F : Nat) (caps : Array Value) (hF : ∀ args W, (callFunc F args).run Try.prog W = .ok (.enter F args) W) (K : Nat → Bool) (A : Option Addr) (n c : Nat) (b : Int) (w : World) (hn : n ≤ 1000000)
    (hK : ∀ (i : Nat) W, i < n → Below w.heap.size w W → Calls Try.prog F (#[.int .i64 (i : Int)] ++ caps) W (fun e w' => e = .returned (.bool (K i)) ∧ Below W.heap.size W w')) :
    Calls Try.prog 43 #[.agg #[.slice A n c, .int .i64 b], .func (.func F) #[] caps] w (fun e w' => ∃ g, e = .returned (.slice (some ⟨g, 0, none⟩) n n) ∧ ABox w' g ((List.range n).map K) ∧ w.heap.size ≤ g ∧ Below w.heap.size w w') := by
  have hb := bl_alloc w (.cells #[.slice A n c, .int .i64 b] 53)
  have HB := hide hb
  have HK := hide hK
  have hmk := fun W => run_make_bools n hn W
  clear hK hb
  go_enter Try.func43, Try.ntmps43
  go_wp2_with fail
  have HW := hide (show ABox ((w.alloc (.cells #[.slice A n c, .int .i64 b] 53)).alloc (.cells (Array.replicate n (Value.bool false)) 4)) (w.heap.size + 1) (filled K n 0) ∧ Below w.heap.size w ((w.alloc (.cells #[.slice A n c, .int .i64 b] 53)).alloc (.cells (Array.replicate n (Value.bool false)) 4)) from by
    refine ⟨?_, HB.out.next (bl_alloc _ _)⟩
    have := Box.new 4 (w.alloc (.cells #[.slice A n c, .int .i64 b] 53)) (Array.replicate n (Value.bool false))
    rw [size_alloc2] at this
    rw [filled_zero]
    unfold ABox
    rw [show ((List.replicate n false).map fun b => Value.bool b).toArray = Array.replicate n (Value.bool false) by simp]
    exact this)
  generalize hW : (w.alloc (.cells #[.slice A n c, .int .i64 b] 53)).alloc (.cells (Array.replicate n (Value.bool false)) 4) = W1 at *
  clear hW hmk HB
  go_loopw [13, 6] (fun k i wr => ∃ q : Nat, q ≤ n ∧ k = .int .i64 q ∧ Hid (ABox wr (w.heap.size + 1) (filled K n q) ∧ Below w.heap.size w wr)) (fun k _ _ => n - (intOf k).toNat)
  case atStart => exact ⟨0, Nat.zero_le _, rfl, HW⟩
  case round =>
    obtain ⟨q, hq, rfl, HR⟩ := hrel
    by_cases hqn : q < n
    · go_wp2_with fail
      refine (HK.out q _ hqn HR.out.2).mono ?_
      rintro e w2 ⟨rfl, b2⟩
      have HR2 := hide (show ABox w2 (w.heap.size + 1) (filled K n q) ∧ Below w.heap.size w w2 from ⟨Box.next HR.out.1 b2, HR.out.2.next b2⟩)
      have cc := HR2.out.1.cell (filled_get K hqn)
      have fr := Box.fr HR2.out.1 q
      clear b2 HR
      go_wp2_with fail
      have HR3 := hide (show ABox (w2.setCell ⟨w.heap.size + 1, q, none⟩ (.bool (K q))) (w.heap.size + 1) (filled K n (q + 1)) ∧ Below w.heap.size w (w2.setCell ⟨w.heap.size + 1, q, none⟩ (.bool (K q))) from ⟨by rw [← filled_set K hqn]; exact HR2.out.1.set q (K q), HR2.out.2.trans ((only_set1 w2 (w.heap.size + 1) q (.bool (K q))).below HR2.out.2.size (by omega))⟩)
      go_roundw
      case rel => exact ⟨q + 1, by omega, by go_num, HR3⟩
      case measure => simp [intOf]; omega
    · obtain rfl : q = n := by omega
      go_wp2_with fail
      go_ret
      exact ⟨_, rfl, by rw [← filled_all K q]; exact HR.out.1, by omega, HR.out.2⟩
end Go.Proofs.Ytljocjjdfgpbaaa
/- word.index, truth. -/
namespace Go.Proofs.Ytljocjjdfgpbaaa
open Go.RowKit
open Wo

set_option maxRecDepth 100000 in
set_option maxHeartbeats 8000000 in
theorem index_any (A1 : Option Addr) (n1 c1 : Nat) (A2 : Option Addr) (n2 c2 : Nat) (at_ : Int) (w0 : World) (h2 : 0 < n2) (h9 : n1 + n2 ≤ 1000000) (hx9 : at_ ≤ 9223372036854775807) :
    Calls Try.prog 28 #[.agg #[.slice A1 n1 c1, .slice A2 n2 c2], .int .i64 at_] w0 (fun e w' => e = .returned (.int .i64 (pos n1 n2 at_.toNat : Nat)) ∧ Below w0.heap.size w0 w') := by
  obtain ⟨x0, hb, -⟩ := bstart1 27 w0 #[.slice A1 n1 c1, .slice A2 n2 c2]
  have cc0 := x0.cell 0 _ rfl
  have cc1 := x0.cell 1 _ rfl
  have HX := hide x0
  have HB := hide hb
  obtain ⟨x, hx⟩ : ∃ x, x = at_.toNat := ⟨_, rfl⟩
  obtain ⟨y, hy⟩ : ∃ y, y = pos n1 n2 x := ⟨_, rfl⟩
  rw [← hx, ← hy]
  have hmx : ∀ (w : World) (ts : Array TypeId) (t : TypeId) (k k' : IntKind), (Builtin.max_ ts t #[.int k at_, .int k' 0]).run Try.prog w = .ok (.int k (x : Int)) w := fun w ts t k k' => by
    rw [run_max_int2]; congr 2; split <;> omega
  have hx9 : x ≤ 9223372036854775807 := by omega
  have HY := hide hy
  clear hx hy hb
  by_cases hxn : x < n1
  · have HE := hide (show y = x from by rw [HY.out, pos_self (by omega)])
    have g1 : (x : Int) < (n1 : Int) := by omega
    go_enter Try.func28, Try.ntmps28
    go_wp2_with fail
    go_ret
    exact ⟨by rw [HE.out]; rfl, HB.out⟩
  · have g1 : ¬ (x : Int) < (n1 : Int) := by omega
    obtain ⟨yy, hyy⟩ : ∃ yy, yy = (x - n1) % n2 := ⟨_, rfl⟩
    have hyl2 : yy < n2 := by rw [hyy]; exact Nat.mod_lt _ h2
    have hyx : y = n1 + yy := by rw [HY.out, hyy]; unfold pos; rw [if_neg hxn]
    have G11 := hide (show ((x : Int) - (n1 : Int)).tmod (n2 : Int) = (yy : Int) from by rw [hyy, Int.tmod_eq_emod_of_nonneg (by omega), show (x : Int) - (n1 : Int) = ((x - n1 : Nat) : Int) by omega]; rfl)
    have G12 := hide (show (n1 : Int) + (yy : Int) = (y : Int) from by omega)
    have SOF := hide (show ∀ W, Below (w0.alloc (.cells #[.slice A1 n1 c1, .slice A2 n2 c2] 27)).heap.size (w0.alloc (.cells #[.slice A1 n1 c1, .slice A2 n2 c2] 27)) W → (W.cell? ⟨w0.heap.size, 0, none⟩ = some (.slice A1 n1 c1) ∧ W.cell? ⟨w0.heap.size, 1, none⟩ = some (.slice A2 n2 c2)) from fun W h => ⟨(HX.out.next h).cell 0 _ rfl, (HX.out.next h).cell 1 _ rfl⟩)
    clear hyx hyy
    go_enter Try.func28, Try.ntmps28
    go_upto_region 4 with fail
    generalize hW : w0.alloc (.cells #[.slice A1 n1 c1, .slice A2 n2 c2] 27) = W1 at *
    clear hW cc0 cc1 x0 HX
    refine wp_drawn (by kernel_rfl) (by kernel_rfl) (by kernel_rfl) (fun w w' => Below w.heap.size w w') (fun j v w => match j with | 0 => v = .pointer (some ⟨w0.heap.size, 0, none⟩) | 1 => v = .slice A1 n1 c1 | 2 => v = .int .i64 n1 | 3 => v = .int .i64 (x : Int) | 4 => v = .pointer (some ⟨w0.heap.size, 0, none⟩) | 5 => v = .slice A1 n1 c1 | 6 => v = .int .i64 n1 | 7 => v = .int .i64 ((x : Int) - (n1 : Int)) | 8 => v = .pointer (some ⟨w0.heap.size, 1, none⟩) | 9 => v = .slice A2 n2 c2 | 10 => v = .int .i64 n2 | 11 => v = .int .i64 (yy : Int) | 12 => v = .int .i64 (y : Int) | 13 => v = .int .i64 (y : Int) | _ => True) (fun _ _ w => Below W1.heap.size W1 w) ?_ (fun _ => bl_drewN W1 1) ?_ ?_
    · intro j v w w' hT h
      match j, h with
      | 0, h => exact h
      | 1, h => exact h
      | 2, h => exact h
      | 3, h => exact h
      | 4, h => exact h
      | 5, h => exact h
      | 6, h => exact h
      | 7, h => exact h
      | 8, h => exact h
      | 9, h => exact h
      | 10, h => exact h
      | 11, h => exact h
      | 12, h => exact h
      | 13, h => exact h
      | j + 14, h => trivial
    · refine ⟨?_, ?_, ?_, ?_, ?_, ?_, ?_, ?_, ?_, ?_, ?_, ?_, ?_, ?_, trivial⟩
      · intro listed σ w a hin hout hl hc hp hG hF
        refine Guarded.none rfl ?_
        have e2 : a.tmps.getD 2 undef = .pointer (some ⟨w0.heap.size, 0, none⟩) := hout 2 (outB_spec (by kernel_rfl))
        refine Does.val (.pointer (some ⟨w0.heap.size, 0, none⟩)) (w' := w) ?_ ⟨Below.refl _ _, rfl, hG⟩
        simp only [Array.getD_eq_getD_getElem?] at e2
        go_simp
      · intro listed σ w a hin hout hl hc hp hG hF
        refine Guarded.none rfl ?_
        have e13 : a.tmps.getD 13 undef = .pointer (some ⟨w0.heap.size, 0, none⟩) := (hin 0 13 rfl (hp ⟨0, .data⟩ (by simp) rfl)).trans (hF 0 (hp ⟨0, .data⟩ (by simp) rfl))
        have CC := SOF.out w hG; obtain ⟨C0, C1⟩ := CC
        refine Does.val (.slice A1 n1 c1) (w' := w) ?_ ⟨Below.refl _ _, rfl, hG⟩
        go_simp
      · intro listed σ w a hin hout hl hc hp hG hF
        refine Guarded.none rfl ?_
        have e14 : a.tmps.getD 14 undef = .slice A1 n1 c1 := (hin 1 14 rfl (hp ⟨1, .data⟩ (by simp) rfl)).trans (hF 1 (hp ⟨1, .data⟩ (by simp) rfl))
        refine Does.val (.int .i64 n1) (w' := w) ?_ ⟨Below.refl _ _, rfl, hG⟩
        simp only [Array.getD_eq_getD_getElem?] at e14
        go_simp
      · intro listed σ w a hin hout hl hc hp hG hF
        refine Guarded.none rfl ?_
        have e1 : a.tmps.getD 1 undef = .int .i64 (x : Int) := hout 1 (outB_spec (by kernel_rfl))
        refine Does.val (.int .i64 (x : Int)) (w' := w) ?_ ⟨Below.refl _ _, rfl, hG⟩
        simp only [Array.getD_eq_getD_getElem?] at e1
        go_simp
      · intro listed σ w a hin hout hl hc hp hG hF
        refine Guarded.none rfl ?_
        have e2 : a.tmps.getD 2 undef = .pointer (some ⟨w0.heap.size, 0, none⟩) := hout 2 (outB_spec (by kernel_rfl))
        refine Does.val (.pointer (some ⟨w0.heap.size, 0, none⟩)) (w' := w) ?_ ⟨Below.refl _ _, rfl, hG⟩
        simp only [Array.getD_eq_getD_getElem?] at e2
        go_simp
      · intro listed σ w a hin hout hl hc hp hG hF
        refine Guarded.none rfl ?_
        have e17 : a.tmps.getD 17 undef = .pointer (some ⟨w0.heap.size, 0, none⟩) := (hin 4 17 rfl (hp ⟨4, .data⟩ (by simp) rfl)).trans (hF 4 (hp ⟨4, .data⟩ (by simp) rfl))
        have CC := SOF.out w hG; obtain ⟨C0, C1⟩ := CC
        refine Does.val (.slice A1 n1 c1) (w' := w) ?_ ⟨Below.refl _ _, rfl, hG⟩
        go_simp
      · intro listed σ w a hin hout hl hc hp hG hF
        refine Guarded.none rfl ?_
        have e18 : a.tmps.getD 18 undef = .slice A1 n1 c1 := (hin 5 18 rfl (hp ⟨5, .data⟩ (by simp) rfl)).trans (hF 5 (hp ⟨5, .data⟩ (by simp) rfl))
        refine Does.val (.int .i64 n1) (w' := w) ?_ ⟨Below.refl _ _, rfl, hG⟩
        simp only [Array.getD_eq_getD_getElem?] at e18
        go_simp
      · intro listed σ w a hin hout hl hc hp hG hF
        refine Guarded.none rfl ?_
        have e16 : a.tmps.getD 16 undef = .int .i64 (x : Int) := (hin 3 16 rfl (hp ⟨3, .data⟩ (by simp) rfl)).trans (hF 3 (hp ⟨3, .data⟩ (by simp) rfl))
        have e19 : a.tmps.getD 19 undef = .int .i64 n1 := (hin 6 19 rfl (hp ⟨6, .data⟩ (by simp) rfl)).trans (hF 6 (hp ⟨6, .data⟩ (by simp) rfl))
        refine Does.val (.int .i64 ((x : Int) - (n1 : Int))) (w' := w) ?_ ⟨Below.refl _ _, rfl, hG⟩
        simp only [Array.getD_eq_getD_getElem?] at e16 e19
        go_simp
        exact i64w (by omega) (by omega)
      · intro listed σ w a hin hout hl hc hp hG hF
        refine Guarded.none rfl ?_
        have e2 : a.tmps.getD 2 undef = .pointer (some ⟨w0.heap.size, 0, none⟩) := hout 2 (outB_spec (by kernel_rfl))
        refine Does.val (.pointer (some ⟨w0.heap.size, 1, none⟩)) (w' := w) ?_ ⟨Below.refl _ _, rfl, hG⟩
        simp only [Array.getD_eq_getD_getElem?] at e2
        go_simp
      · intro listed σ w a hin hout hl hc hp hG hF
        refine Guarded.none rfl ?_
        have e21 : a.tmps.getD 21 undef = .pointer (some ⟨w0.heap.size, 1, none⟩) := (hin 8 21 rfl (hp ⟨8, .data⟩ (by simp) rfl)).trans (hF 8 (hp ⟨8, .data⟩ (by simp) rfl))
        have CC := SOF.out w hG; obtain ⟨C0, C1⟩ := CC
        refine Does.val (.slice A2 n2 c2) (w' := w) ?_ ⟨Below.refl _ _, rfl, hG⟩
        go_simp
      · intro listed σ w a hin hout hl hc hp hG hF
        refine Guarded.none rfl ?_
        have e22 : a.tmps.getD 22 undef = .slice A2 n2 c2 := (hin 9 22 rfl (hp ⟨9, .data⟩ (by simp) rfl)).trans (hF 9 (hp ⟨9, .data⟩ (by simp) rfl))
        refine Does.val (.int .i64 n2) (w' := w) ?_ ⟨Below.refl _ _, rfl, hG⟩
        simp only [Array.getD_eq_getD_getElem?] at e22
        go_simp
      · intro listed σ w a hin hout hl hc hp hG hF
        refine Guarded.none rfl ?_
        have e20 : a.tmps.getD 20 undef = .int .i64 ((x : Int) - (n1 : Int)) := (hin 7 20 rfl (hp ⟨7, .data⟩ (by simp) rfl)).trans (hF 7 (hp ⟨7, .data⟩ (by simp) rfl))
        have e23 : a.tmps.getD 23 undef = .int .i64 n2 := (hin 10 23 rfl (hp ⟨10, .data⟩ (by simp) rfl)).trans (hF 10 (hp ⟨10, .data⟩ (by simp) rfl))
        refine Does.val (.int .i64 (yy : Int)) (w' := w) ?_ ⟨Below.refl _ _, rfl, hG⟩
        simp only [Array.getD_eq_getD_getElem?] at e20 e23
        go_simp
        rw [if_neg (by omega), G11.out]
      · intro listed σ w a hin hout hl hc hp hG hF
        refine Guarded.none rfl ?_
        have e15 : a.tmps.getD 15 undef = .int .i64 n1 := (hin 2 15 rfl (hp ⟨2, .data⟩ (by simp) rfl)).trans (hF 2 (hp ⟨2, .data⟩ (by simp) rfl))
        have e24 : a.tmps.getD 24 undef = .int .i64 (yy : Int) := (hin 11 24 rfl (hp ⟨11, .data⟩ (by simp) rfl)).trans (hF 11 (hp ⟨11, .data⟩ (by simp) rfl))
        refine Does.val (.int .i64 (y : Int)) (w' := w) ?_ ⟨Below.refl _ _, rfl, hG⟩
        simp only [Array.getD_eq_getD_getElem?] at e15 e24
        go_simp
        rw [← G12.out]; exact i64w (by omega) (by omega)
      · intro listed σ w a hin hout hl hc hp hG hF
        refine Guarded.none rfl ?_
        have e25 : a.tmps.getD 25 undef = .int .i64 (y : Int) := (hin 12 25 rfl (hp ⟨12, .data⟩ (by simp) rfl)).trans (hF 12 (hp ⟨12, .data⟩ (by simp) rfl))
        refine Does.val (.int .i64 (y : Int)) (w' := w) ?_ ⟨Below.refl _ _, rfl, hG⟩
        simp only [Array.getD_eq_getD_getElem?] at e25
        go_simp
    · intro listed σ W9 hall hG hF
      rw [show mid _ σ listed _ = (Act.put (Act.put (Act.put (Act.put (Act.put (Act.put (Act.put (Act.put (Act.put (Act.put (Act.put (Act.put (Act.put (Act.put _ (some 13) (σ 0)) (some 14) (σ 1)) (some 15) (σ 2)) (some 16) (σ 3)) (some 17) (σ 4)) (some 18) (σ 5)) (some 19) (σ 6)) (some 20) (σ 7)) (some 21) (σ 8)) (some 22) (σ 9)) (some 23) (σ 10)) (some 24) (σ 11)) (some 25) (σ 12)) (some 4) (σ 13)) from (mid_all hall).trans rfl]
      generalize σ 0 = tt0
      generalize σ 1 = tt1
      generalize σ 2 = tt2
      generalize σ 3 = tt3
      generalize σ 4 = tt4
      generalize σ 5 = tt5
      generalize σ 6 = tt6
      generalize σ 7 = tt7
      generalize σ 8 = tt8
      generalize σ 9 = tt9
      generalize σ 10 = tt10
      generalize σ 11 = tt11
      generalize σ 12 = tt12
      rw [show σ 13 = .int .i64 (y : Int) from hF 13 (by decide)]
      simp only [Act.put, List.setIfInBounds_toArray, List.set_cons_zero, List.set_cons_succ]
      have TG := hG
      clear hF hG hall
      clear σ
      have HQ := hide (HB.out.next TG)
      clear TG SOF
      go_wp2_with fail
      go_ret
      exact ⟨rfl, HQ.out⟩
theorem run_eql_two (a b c d : Bool) (W : World) : (binOp .eql 70 (.agg #[.bool a, .bool b]) (.agg #[.bool c, .bool d])).run Try.prog W = .ok (.bool (a == c && b == d)) W := by
  cases a <;> cases b <;> cases c <;> cases d <;> kernel_rfl
theorem run_neq_two (a b c d : Bool) (W : World) : (binOp .neq 70 (.agg #[.bool a, .bool b]) (.agg #[.bool c, .bool d])).run Try.prog W = .ok (.bool (!(a == c && b == d))) W := by
  cases a <;> cases b <;> cases c <;> cases d <;> kernel_rfl
set_option maxRecDepth 100000 in
set_option maxHeartbeats 16000000 in
theorem truth_any (k : Nat) (a b nx : Bool) (w : World) : Calls Try.prog 50 #[.int .i64 (k : Int), .agg #[.bool a, .bool b], .bool nx] w (fun e w' => e = .returned (.bool (truthB k a b nx)) ∧ Below w.heap.size w w') := by
  have HB := hide (bl_alloc w (.cells #[.bool a, .bool b] 70))
  have hq1 := fun a b c d W => run_eql_two a b c d W
  have hq2 := fun a b c d W => run_neq_two a b c d W
  by_cases h3 : k = 3
  · subst h3
    cases a <;> cases b <;> cases nx <;>
    · go_enter Try.func50, Try.ntmps50
      go_wp2_with fail
      go_ret
      exact ⟨rfl, HB.out⟩
  · have g3 : ((k : Int) == 3) = false := by simp; omega
    by_cases h4 : k = 4
    · subst h4
      cases a <;> cases b <;> cases nx <;>
      · go_enter Try.func50, Try.ntmps50
        go_wp2_with fail
        go_ret
        exact ⟨rfl, HB.out⟩
    · have g4 : ((k : Int) == 4) = false := by simp; omega
      by_cases h5 : k = 5
      · subst h5
        cases a <;> cases b <;> cases nx <;>
        · go_enter Try.func50, Try.ntmps50
          go_wp2_with fail
          go_ret
          exact ⟨rfl, HB.out⟩
      · have g5 : ((k : Int) == 5) = false := by simp; omega
        by_cases h7 : k = 7
        · subst h7
          cases a <;> cases b <;> cases nx <;>
          · go_enter Try.func50, Try.ntmps50
            go_wp2_with fail
            go_ret
            exact ⟨rfl, HB.out⟩
        · have g7 : ((k : Int) == 7) = false := by simp; omega
          by_cases h9 : k = 9
          · subst h9
            cases a <;> cases b <;> cases nx <;>
            · go_enter Try.func50, Try.ntmps50
              go_wp2_with fail
              go_ret
              exact ⟨rfl, HB.out⟩
          · have g9 : ((k : Int) == 9) = false := by simp; omega
            by_cases h10 : k = 10
            · subst h10
              cases a <;> cases b <;> cases nx <;>
              · go_enter Try.func50, Try.ntmps50
                go_wp2_with fail
                go_ret
                exact ⟨rfl, HB.out⟩
            · have g10 : ((k : Int) == 10) = false := by simp; omega
              by_cases h11 : k = 11
              · subst h11
                cases a <;> cases b <;> cases nx <;>
                · go_enter Try.func50, Try.ntmps50
                  go_wp2_with fail
                  go_ret
                  exact ⟨rfl, HB.out⟩
              · have g11 : ((k : Int) == 11) = false := by simp; omega
                by_cases h12 : k = 12
                · subst h12
                  cases a <;> cases b <;> cases nx <;>
                  · go_enter Try.func50, Try.ntmps50
                    go_wp2_with fail
                    go_ret
                    exact ⟨rfl, HB.out⟩
                · have g12 : ((k : Int) == 12) = false := by simp; omega
                  have HE := hide (show truthB k a b nx = decide (k = 0) from by unfold truthB; rw [if_neg h3, if_neg h4, if_neg h5, if_neg h7, if_neg h9, if_neg h10, if_neg h11, if_neg h12])
                  clear h3 h4 h5 h7 h9 h10 h11 h12
                  by_cases h0 : k = 0
                  · have HE2 := hide (show truthB k a b nx = true from by rw [HE.out]; simp [h0])
                    have g0 : ((k : Int) == 0) = true := by simp; omega
                    clear h0
                    go_enter Try.func50, Try.ntmps50
                    go_wp2_with fail
                    go_ret
                    exact ⟨by rw [HE2.out]; rfl, HB.out⟩
                  · have HE2 := hide (show truthB k a b nx = false from by rw [HE.out]; simp [h0])
                    have g0 : ((k : Int) == 0) = false := by simp; omega
                    clear h0
                    go_enter Try.func50, Try.ntmps50
                    go_wp2_with fail
                    go_ret
                    exact ⟨by rw [HE2.out]; rfl, HB.out⟩
end Go.Proofs.Ytljocjjdfgpbaaa
