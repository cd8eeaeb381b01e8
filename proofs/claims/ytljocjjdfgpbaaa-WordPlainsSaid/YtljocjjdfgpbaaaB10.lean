/- Texts of one seat, put together: WordD. -/
import Derived.Test.YtljocjjdfgpbaaaB09
set_option linter.unusedVariables false
/- plumblineref15.Letter. -/
namespace Go.Proofs.Ytljocjjdfgpbaaa
open Go.RowKit
open Wo

theorem ltrOf_stem {L1 L2 : List (List Bool)} {x : Nat} {l : List Bool} (hx : x < L1.length) (h : L1[x]? = some l) : ltrOf (L1 ++ L2) L1.length x = l := by
  unfold ltrOf
  rw [pos_self (by rw [List.length_append]; omega), List.getD_eq_getElem?_getD, List.getElem?_append_left hx, h]; rfl
theorem ltrOf_cycle {L1 L2 : List (List Bool)} {x : Nat} {l : List Bool} (hx : ¬ x < L1.length) (h : L2[(x - L1.length) % L2.length]? = some l) : ltrOf (L1 ++ L2) L1.length x = l := by
  unfold ltrOf pos
  rw [if_neg hx, List.getD_eq_getElem?_getD, List.getElem?_append_right (by omega), List.length_append, Nat.add_sub_cancel_left, Nat.add_sub_cancel_left, h]; rfl
set_option maxRecDepth 100000 in
set_option maxHeartbeats 8000000 in
theorem letter_any (S : Nat → Prop) (A B : Option Addr) (n c m d : Nat) (L1 L2 : List (List Bool)) (x : Nat) (pr : Int) (w0 : World) (h1 : LsIn S w0 A n L1) (h2 : LsIn S w0 B m L2) (hm : 0 < m) (hn9 : n ≤ 4611686018427387903) (hm9 : m ≤ 4611686018427387903) (hx : x ≤ 4611686018427387903) :
    Calls Try.prog 41 #[.agg #[.slice A n c, .slice B m d], .int .i64 (x : Int), .int .i64 pr] w0 (fun e w' => e = .returned (.bool (hasB (ltrOf (L1 ++ L2) L1.length x) pr)) ∧ Below w0.heap.size w0 w') := by
  obtain ⟨x0, hb, hz⟩ := bstart1 34 w0 #[.slice A n c, .slice B m d]
  have u0 := x0.cell 0 _ rfl
  have u1 := x0.cell 1 _ rfl
  have hl1 := h1.1
  have hl2 := h2.1
  by_cases hxn : x < n
  · obtain ⟨bb, o, A1, c1, l, hA, hlt, hl, d0, -, -, hbl⟩ := h1.at_ hxn
    have HL := hide (ltrOf_stem (L1 := L1) (L2 := L2) (by rw [hl1]; exact hxn) hl)
    have g1 : (x : Int) < (n : Int) := by omega
    obtain ⟨ll, hll⟩ : ∃ ll, ll = l.length := ⟨_, rfl⟩
    rw [← hll] at d0 hbl
    have HLL := hide hll.symm
    have HB1 := hide (fun W (h : Below w0.heap.size w0 W) => hbl.keep (Keep.of_below h))
    subst hA
    have hb2 := hb.next (bl_alloc (w0.alloc (.cells #[.slice (some ⟨bb, o, none⟩) n c, .slice B m d] 34)) (.cells #[] 4))
    have d0 := (below_cell hb2 hlt).trans d0
    have HBB := hide hb2
    generalize hq : hasB (ltrOf (L1 ++ L2) L1.length x) pr = res
    have HL := hide (show res = hasB l pr from by rw [← hq, HL.out])
    clear hq h1 h2 hb x0 hl hbl hb2 hll hl1 hl2
    by_cases hp0 : 0 ≤ pr
    · by_cases hpl : pr < (ll : Int)
      · obtain ⟨pn, rfl⟩ : ∃ pn : Nat, pr = (pn : Int) := ⟨pr.toNat, by omega⟩
        obtain ⟨be, oe, v, rfl, hlt2, hv, dv⟩ := (HB1.out w0 (Below.refl _ _)).at_ (j := pn) (by omega)
        have HE := hide (show res = v from by rw [HL.out]; unfold hasB; rw [List.getD_eq_getElem?_getD]; simp [hv])
        have dv := (below_cell HBB.out hlt2).trans dv
        clear hv HL
        go_enter Try.func41, Try.ntmps41
        go_wp2_with fail
        go_ret
        exact ⟨by rw [HE.out]; rfl, HBB.out⟩
      · have HE := hide (show res = false from by rw [HL.out]; unfold hasB; rw [List.getD_eq_getElem?_getD, List.getElem?_eq_none (by rw [HLL.out]; omega)]; simp)
        clear HL
        go_enter Try.func41, Try.ntmps41
        go_wp2_with fail
        go_ret
        exact ⟨by rw [HE.out]; rfl, HBB.out⟩
    · have HE := hide (show res = false from by rw [HL.out]; unfold hasB; simp; omega)
      clear HL
      go_enter Try.func41, Try.ntmps41
      go_wp2_with fail
      go_ret
      exact ⟨by rw [HE.out]; rfl, HBB.out⟩
  · have hy : (x - n) % m < m := Nat.mod_lt _ hm
    obtain ⟨bb, o, A1, c1, l, hA, hlt, hl, d0, -, -, hbl⟩ := h2.at_ hy
    have HL := hide (ltrOf_cycle (L1 := L1) (L2 := L2) (by rw [hl1]; exact hxn) (by rw [hl1, hl2]; exact hl))
    have g1 : ¬ (x : Int) < (n : Int) := by omega
    obtain ⟨ll, hll⟩ : ∃ ll, ll = l.length := ⟨_, rfl⟩
    rw [← hll] at d0 hbl
    have HLL := hide hll.symm
    have HB1 := hide (fun W (h : Below w0.heap.size w0 W) => hbl.keep (Keep.of_below h))
    subst hA
    have hb2 := hb.next (bl_alloc (w0.alloc (.cells #[.slice A n c, .slice (some ⟨bb, o, none⟩) m d] 34)) (.cells #[] 4))
    have HBB := hide hb2
    have x2 := x0.next (bl_alloc (w0.alloc (.cells #[.slice A n c, .slice (some ⟨bb, o, none⟩) m d] 34)) (.cells #[] 4))
    have hlt9 := Nat.lt_of_lt_of_le hlt hb2.size
    obtain ⟨y, hyy⟩ : ∃ y, y = (x - n) % m := ⟨_, rfl⟩
    rw [← hyy] at d0 hy
    have d0 := (below_cell hb2 hlt).trans d0
    have G10 := hide (show ((x : Int) - (n : Int)).tmod (m : Int) = (y : Int) from by rw [hyy, Int.tmod_eq_emod_of_nonneg (by omega), show (x : Int) - (n : Int) = ((x - n : Nat) : Int) by omega]; rfl)
    have SOF := hide (show ∀ W, Below ((w0.alloc (.cells #[.slice A n c, .slice (some ⟨bb, o, none⟩) m d] 34)).alloc (.cells #[] 4)).heap.size ((w0.alloc (.cells #[.slice A n c, .slice (some ⟨bb, o, none⟩) m d] 34)).alloc (.cells #[] 4)) W → (W.cell? ⟨w0.heap.size, 0, none⟩ = some (.slice A n c) ∧ W.cell? ⟨w0.heap.size, 1, none⟩ = some (.slice (some ⟨bb, o, none⟩) m d) ∧ W.cell? ⟨bb, o + y, none⟩ = some (.slice A1 ll c1)) from fun W h => ⟨(x2.next h).cell 0 _ rfl, (x2.next h).cell 1 _ rfl, (below_cell h hlt9).trans d0⟩)
    generalize hq : hasB (ltrOf (L1 ++ L2) L1.length x) pr = res
    have HL := hide (show res = hasB l pr from by rw [← hq, HL.out])
    clear hq h1 h2 hb x0 hl hbl hb2 hll hl1 hl2 x2 hyy d0
    by_cases hp0 : 0 ≤ pr
    · by_cases hpl : pr < (ll : Int)
      · obtain ⟨pn, rfl⟩ : ∃ pn : Nat, pr = (pn : Int) := ⟨pr.toNat, by omega⟩
        obtain ⟨be, oe, v, rfl, hlt2, hv, dv⟩ := (HB1.out w0 (Below.refl _ _)).at_ (j := pn) (by omega)
        have HE := hide (show res = v from by rw [HL.out]; unfold hasB; rw [List.getD_eq_getElem?_getD]; simp [hv])
        have dv := (below_cell HBB.out hlt2).trans dv
        clear hv HL
        go_enter Try.func41, Try.ntmps41
        go_upto_region 4 with fail
        generalize hW : (w0.alloc (.cells #[.slice A n c, .slice (some ⟨bb, o, none⟩) m d] 34)).alloc (.cells #[] 4) = W1 at *
        clear hW u0 u1
        refine wp_drawn (by kernel_rfl) (by kernel_rfl) (by kernel_rfl) (fun w w' => Below w.heap.size w w') (fun j v w => match j with | 0 => v = .pointer (some ⟨w0.heap.size, 1, none⟩) | 1 => v = .slice (some ⟨bb, o, none⟩) m d | 2 => v = .int .i64 (x : Int) | 3 => v = .pointer (some ⟨w0.heap.size, 0, none⟩) | 4 => v = .slice A n c | 5 => v = .int .i64 n | 6 => v = .int .i64 ((x : Int) - (n : Int)) | 7 => v = .pointer (some ⟨w0.heap.size, 1, none⟩) | 8 => v = .slice (some ⟨bb, o, none⟩) m d | 9 => v = .int .i64 m | 10 => v = .int .i64 (y : Int) | 11 => v = .pointer (some ⟨bb, o + y, none⟩) | 12 => v = .slice (some ⟨be, oe, none⟩) ll c1 | 13 => v = .slice (some ⟨be, oe, none⟩) ll c1 | _ => True) (fun _ _ w => Below W1.heap.size W1 w) ?_ (fun _ => bl_drewN W1 1) ?_ ?_
        · intro j v w w' hT h
          match j, h with
          | 0, h => exact h
          | 1, h => exact h
          | 2, h => exact h
          | 3, h => exact h
          | 4, h => exact h
          | 5, h => exact h
          | 6, h => exact h
          | 7, h => exact h
          | 8, h => exact h
          | 9, h => exact h
          | 10, h => exact h
          | 11, h => exact h
          | 12, h => exact h
          | 13, h => exact h
          | j + 14, h => trivial
        · refine ⟨?_, ?_, ?_, ?_, ?_, ?_, ?_, ?_, ?_, ?_, ?_, ?_, ?_, ?_, trivial⟩
          · intro listed σ w a hin hout hl hc hp hG hF
            refine Guarded.none rfl ?_
            have e3 : a.tmps.getD 3 undef = .pointer (some ⟨w0.heap.size, 0, none⟩) := hout 3 (outB_spec (by kernel_rfl))
            refine Does.val (.pointer (some ⟨w0.heap.size, 1, none⟩)) (w' := w) ?_ ⟨Below.refl _ _, rfl, hG⟩
            simp only [Array.getD_eq_getD_getElem?] at e3
            go_simp
          · intro listed σ w a hin hout hl hc hp hG hF
            refine Guarded.none rfl ?_
            have e19 : a.tmps.getD 19 undef = .pointer (some ⟨w0.heap.size, 1, none⟩) := (hin 0 19 rfl (hp ⟨0, .data⟩ (by simp) rfl)).trans (hF 0 (hp ⟨0, .data⟩ (by simp) rfl))
            have CC := SOF.out w hG; obtain ⟨C0, C1, C2⟩ := CC
            refine Does.val (.slice (some ⟨bb, o, none⟩) m d) (w' := w) ?_ ⟨Below.refl _ _, rfl, hG⟩
            go_simp
          · intro listed σ w a hin hout hl hc hp hG hF
            refine Guarded.none rfl ?_
            have e1 : a.tmps.getD 1 undef = .int .i64 (x : Int) := hout 1 (outB_spec (by kernel_rfl))
            refine Does.val (.int .i64 (x : Int)) (w' := w) ?_ ⟨Below.refl _ _, rfl, hG⟩
            simp only [Array.getD_eq_getD_getElem?] at e1
            go_simp
          · intro listed σ w a hin hout hl hc hp hG hF
            refine Guarded.none rfl ?_
            have e3 : a.tmps.getD 3 undef = .pointer (some ⟨w0.heap.size, 0, none⟩) := hout 3 (outB_spec (by kernel_rfl))
            refine Does.val (.pointer (some ⟨w0.heap.size, 0, none⟩)) (w' := w) ?_ ⟨Below.refl _ _, rfl, hG⟩
            simp only [Array.getD_eq_getD_getElem?] at e3
            go_simp
          · intro listed σ w a hin hout hl hc hp hG hF
            refine Guarded.none rfl ?_
            have e22 : a.tmps.getD 22 undef = .pointer (some ⟨w0.heap.size, 0, none⟩) := (hin 3 22 rfl (hp ⟨3, .data⟩ (by simp) rfl)).trans (hF 3 (hp ⟨3, .data⟩ (by simp) rfl))
            have CC := SOF.out w hG; obtain ⟨C0, C1, C2⟩ := CC
            refine Does.val (.slice A n c) (w' := w) ?_ ⟨Below.refl _ _, rfl, hG⟩
            go_simp
          · intro listed σ w a hin hout hl hc hp hG hF
            refine Guarded.none rfl ?_
            have e23 : a.tmps.getD 23 undef = .slice A n c := (hin 4 23 rfl (hp ⟨4, .data⟩ (by simp) rfl)).trans (hF 4 (hp ⟨4, .data⟩ (by simp) rfl))
            refine Does.val (.int .i64 n) (w' := w) ?_ ⟨Below.refl _ _, rfl, hG⟩
            simp only [Array.getD_eq_getD_getElem?] at e23
            go_simp
          · intro listed σ w a hin hout hl hc hp hG hF
            refine Guarded.none rfl ?_
            have e21 : a.tmps.getD 21 undef = .int .i64 (x : Int) := (hin 2 21 rfl (hp ⟨2, .data⟩ (by simp) rfl)).trans (hF 2 (hp ⟨2, .data⟩ (by simp) rfl))
            have e24 : a.tmps.getD 24 undef = .int .i64 n := (hin 5 24 rfl (hp ⟨5, .data⟩ (by simp) rfl)).trans (hF 5 (hp ⟨5, .data⟩ (by simp) rfl))
            refine Does.val (.int .i64 ((x : Int) - (n : Int))) (w' := w) ?_ ⟨Below.refl _ _, rfl, hG⟩
            simp only [Array.getD_eq_getD_getElem?] at e21 e24
            go_simp
            (try exact IntWalk.i64_in _ (by omega))
          · intro listed σ w a hin hout hl hc hp hG hF
            refine Guarded.none rfl ?_
            have e3 : a.tmps.getD 3 undef = .pointer (some ⟨w0.heap.size, 0, none⟩) := hout 3 (outB_spec (by kernel_rfl))
            refine Does.val (.pointer (some ⟨w0.heap.size, 1, none⟩)) (w' := w) ?_ ⟨Below.refl _ _, rfl, hG⟩
            simp only [Array.getD_eq_getD_getElem?] at e3
            go_simp
          · intro listed σ w a hin hout hl hc hp hG hF
            refine Guarded.none rfl ?_
            have e26 : a.tmps.getD 26 undef = .pointer (some ⟨w0.heap.size, 1, none⟩) := (hin 7 26 rfl (hp ⟨7, .data⟩ (by simp) rfl)).trans (hF 7 (hp ⟨7, .data⟩ (by simp) rfl))
            have CC := SOF.out w hG; obtain ⟨C0, C1, C2⟩ := CC
            refine Does.val (.slice (some ⟨bb, o, none⟩) m d) (w' := w) ?_ ⟨Below.refl _ _, rfl, hG⟩
            go_simp
          · intro listed σ w a hin hout hl hc hp hG hF
            refine Guarded.none rfl ?_
            have e27 : a.tmps.getD 27 undef = .slice (some ⟨bb, o, none⟩) m d := (hin 8 27 rfl (hp ⟨8, .data⟩ (by simp) rfl)).trans (hF 8 (hp ⟨8, .data⟩ (by simp) rfl))
            refine Does.val (.int .i64 m) (w' := w) ?_ ⟨Below.refl _ _, rfl, hG⟩
            simp only [Array.getD_eq_getD_getElem?] at e27
            go_simp
          · intro listed σ w a hin hout hl hc hp hG hF
            refine Guarded.none rfl ?_
            have e25 : a.tmps.getD 25 undef = .int .i64 ((x : Int) - (n : Int)) := (hin 6 25 rfl (hp ⟨6, .data⟩ (by simp) rfl)).trans (hF 6 (hp ⟨6, .data⟩ (by simp) rfl))
            have e28 : a.tmps.getD 28 undef = .int .i64 m := (hin 9 28 rfl (hp ⟨9, .data⟩ (by simp) rfl)).trans (hF 9 (hp ⟨9, .data⟩ (by simp) rfl))
            refine Does.val (.int .i64 (y : Int)) (w' := w) ?_ ⟨Below.refl _ _, rfl, hG⟩
            simp only [Array.getD_eq_getD_getElem?] at e25 e28
            go_simp
            rw [if_neg (by omega), G10.out]
          · intro listed σ w a hin hout hl hc hp hG hF
            refine Guarded.none rfl ?_
            have e20 : a.tmps.getD 20 undef = .slice (some ⟨bb, o, none⟩) m d := (hin 1 20 rfl (hp ⟨1, .data⟩ (by simp) rfl)).trans (hF 1 (hp ⟨1, .data⟩ (by simp) rfl))
            have e29 : a.tmps.getD 29 undef = .int .i64 (y : Int) := (hin 10 29 rfl (hp ⟨10, .data⟩ (by simp) rfl)).trans (hF 10 (hp ⟨10, .data⟩ (by simp) rfl))
            refine Does.val (.pointer (some ⟨bb, o + y, none⟩)) (w' := w) ?_ ⟨Below.refl _ _, rfl, hG⟩
            simp only [Array.getD_eq_getD_getElem?] at e20 e29
            go_simp
            (try (intro hh; exfalso; omega))
          · intro listed σ w a hin hout hl hc hp hG hF
            refine Guarded.none rfl ?_
            have e30 : a.tmps.getD 30 undef = .pointer (some ⟨bb, o + y, none⟩) := (hin 11 30 rfl (hp ⟨11, .data⟩ (by simp) rfl)).trans (hF 11 (hp ⟨11, .data⟩ (by simp) rfl))
            have CC := SOF.out w hG; obtain ⟨C0, C1, C2⟩ := CC
            refine Does.val (.slice (some ⟨be, oe, none⟩) ll c1) (w' := w) ?_ ⟨Below.refl _ _, rfl, hG⟩
            go_simp
          · intro listed σ w a hin hout hl hc hp hG hF
            refine Guarded.none rfl ?_
            have e31 : a.tmps.getD 31 undef = .slice (some ⟨be, oe, none⟩) ll c1 := (hin 12 31 rfl (hp ⟨12, .data⟩ (by simp) rfl)).trans (hF 12 (hp ⟨12, .data⟩ (by simp) rfl))
            refine Does.val (.slice (some ⟨be, oe, none⟩) ll c1) (w' := w) ?_ ⟨Below.refl _ _, rfl, hG⟩
            simp only [Array.getD_eq_getD_getElem?] at e31
            go_simp
        · intro listed σ W9 hall hG hF
          rw [show mid _ σ listed _ = (Act.put (Act.put (Act.put (Act.put (Act.put (Act.put (Act.put (Act.put (Act.put (Act.put (Act.put (Act.put (Act.put (Act.put _ (some 19) (σ 0)) (some 20) (σ 1)) (some 21) (σ 2)) (some 22) (σ 3)) (some 23) (σ 4)) (some 24) (σ 5)) (some 25) (σ 6)) (some 26) (σ 7)) (some 27) (σ 8)) (some 28) (σ 9)) (some 29) (σ 10)) (some 30) (σ 11)) (some 31) (σ 12)) (some 7) (σ 13)) from (mid_all hall).trans rfl]
          generalize σ 0 = tt0
          generalize σ 1 = tt1
          generalize σ 2 = tt2
          generalize σ 3 = tt3
          generalize σ 4 = tt4
          generalize σ 5 = tt5
          generalize σ 6 = tt6
          generalize σ 7 = tt7
          generalize σ 8 = tt8
          generalize σ 9 = tt9
          generalize σ 10 = tt10
          generalize σ 11 = tt11
          generalize σ 12 = tt12
          rw [show σ 13 = .slice (some ⟨be, oe, none⟩) ll c1 from hF 13 (by decide)]
          simp only [Act.put, List.setIfInBounds_toArray, List.set_cons_zero, List.set_cons_succ]
          have TG := hG
          clear hF hG hall
          clear σ
          have HQ := hide (HBB.out.next TG)
          (try have dv := (below_cell TG (by have := HBB.out.size; omega)).trans dv)
          clear TG SOF
          go_wp2_with fail
          go_ret
          exact ⟨by rw [HE.out]; rfl, HQ.out⟩
      · have HE := hide (show res = false from by rw [HL.out]; unfold hasB; rw [List.getD_eq_getElem?_getD, List.getElem?_eq_none (by rw [HLL.out]; omega)]; simp)
        clear HL
        go_enter Try.func41, Try.ntmps41
        go_upto_region 4 with fail
        generalize hW : (w0.alloc (.cells #[.slice A n c, .slice (some ⟨bb, o, none⟩) m d] 34)).alloc (.cells #[] 4) = W1 at *
        clear hW u0 u1
        refine wp_drawn (by kernel_rfl) (by kernel_rfl) (by kernel_rfl) (fun w w' => Below w.heap.size w w') (fun j v w => match j with | 0 => v = .pointer (some ⟨w0.heap.size, 1, none⟩) | 1 => v = .slice (some ⟨bb, o, none⟩) m d | 2 => v = .int .i64 (x : Int) | 3 => v = .pointer (some ⟨w0.heap.size, 0, none⟩) | 4 => v = .slice A n c | 5 => v = .int .i64 n | 6 => v = .int .i64 ((x : Int) - (n : Int)) | 7 => v = .pointer (some ⟨w0.heap.size, 1, none⟩) | 8 => v = .slice (some ⟨bb, o, none⟩) m d | 9 => v = .int .i64 m | 10 => v = .int .i64 (y : Int) | 11 => v = .pointer (some ⟨bb, o + y, none⟩) | 12 => v = .slice A1 ll c1 | 13 => v = .slice A1 ll c1 | _ => True) (fun _ _ w => Below W1.heap.size W1 w) ?_ (fun _ => bl_drewN W1 1) ?_ ?_
        · intro j v w w' hT h
          match j, h with
          | 0, h => exact h
          | 1, h => exact h
          | 2, h => exact h
          | 3, h => exact h
          | 4, h => exact h
          | 5, h => exact h
          | 6, h => exact h
          | 7, h => exact h
          | 8, h => exact h
          | 9, h => exact h
          | 10, h => exact h
          | 11, h => exact h
          | 12, h => exact h
          | 13, h => exact h
          | j + 14, h => trivial
        · refine ⟨?_, ?_, ?_, ?_, ?_, ?_, ?_, ?_, ?_, ?_, ?_, ?_, ?_, ?_, trivial⟩
          · intro listed σ w a hin hout hl hc hp hG hF
            refine Guarded.none rfl ?_
            have e3 : a.tmps.getD 3 undef = .pointer (some ⟨w0.heap.size, 0, none⟩) := hout 3 (outB_spec (by kernel_rfl))
            refine Does.val (.pointer (some ⟨w0.heap.size, 1, none⟩)) (w' := w) ?_ ⟨Below.refl _ _, rfl, hG⟩
            simp only [Array.getD_eq_getD_getElem?] at e3
            go_simp
          · intro listed σ w a hin hout hl hc hp hG hF
            refine Guarded.none rfl ?_
            have e19 : a.tmps.getD 19 undef = .pointer (some ⟨w0.heap.size, 1, none⟩) := (hin 0 19 rfl (hp ⟨0, .data⟩ (by simp) rfl)).trans (hF 0 (hp ⟨0, .data⟩ (by simp) rfl))
            have CC := SOF.out w hG; obtain ⟨C0, C1, C2⟩ := CC
            refine Does.val (.slice (some ⟨bb, o, none⟩) m d) (w' := w) ?_ ⟨Below.refl _ _, rfl, hG⟩
            go_simp
          · intro listed σ w a hin hout hl hc hp hG hF
            refine Guarded.none rfl ?_
            have e1 : a.tmps.getD 1 undef = .int .i64 (x : Int) := hout 1 (outB_spec (by kernel_rfl))
            refine Does.val (.int .i64 (x : Int)) (w' := w) ?_ ⟨Below.refl _ _, rfl, hG⟩
            simp only [Array.getD_eq_getD_getElem?] at e1
            go_simp
          · intro listed σ w a hin hout hl hc hp hG hF
            refine Guarded.none rfl ?_
            have e3 : a.tmps.getD 3 undef = .pointer (some ⟨w0.heap.size, 0, none⟩) := hout 3 (outB_spec (by kernel_rfl))
            refine Does.val (.pointer (some ⟨w0.heap.size, 0, none⟩)) (w' := w) ?_ ⟨Below.refl _ _, rfl, hG⟩
            simp only [Array.getD_eq_getD_getElem?] at e3
            go_simp
          · intro listed σ w a hin hout hl hc hp hG hF
            refine Guarded.none rfl ?_
            have e22 : a.tmps.getD 22 undef = .pointer (some ⟨w0.heap.size, 0, none⟩) := (hin 3 22 rfl (hp ⟨3, .data⟩ (by simp) rfl)).trans (hF 3 (hp ⟨3, .data⟩ (by simp) rfl))
            have CC := SOF.out w hG; obtain ⟨C0, C1, C2⟩ := CC
            refine Does.val (.slice A n c) (w' := w) ?_ ⟨Below.refl _ _, rfl, hG⟩
            go_simp
          · intro listed σ w a hin hout hl hc hp hG hF
            refine Guarded.none rfl ?_
            have e23 : a.tmps.getD 23 undef = .slice A n c := (hin 4 23 rfl (hp ⟨4, .data⟩ (by simp) rfl)).trans (hF 4 (hp ⟨4, .data⟩ (by simp) rfl))
            refine Does.val (.int .i64 n) (w' := w) ?_ ⟨Below.refl _ _, rfl, hG⟩
            simp only [Array.getD_eq_getD_getElem?] at e23
            go_simp
          · intro listed σ w a hin hout hl hc hp hG hF
            refine Guarded.none rfl ?_
            have e21 : a.tmps.getD 21 undef = .int .i64 (x : Int) := (hin 2 21 rfl (hp ⟨2, .data⟩ (by simp) rfl)).trans (hF 2 (hp ⟨2, .data⟩ (by simp) rfl))
            have e24 : a.tmps.getD 24 undef = .int .i64 n := (hin 5 24 rfl (hp ⟨5, .data⟩ (by simp) rfl)).trans (hF 5 (hp ⟨5, .data⟩ (by simp) rfl))
            refine Does.val (.int .i64 ((x : Int) - (n : Int))) (w' := w) ?_ ⟨Below.refl _ _, rfl, hG⟩
            simp only [Array.getD_eq_getD_getElem?] at e21 e24
            go_simp
            (try exact IntWalk.i64_in _ (by omega))
          · intro listed σ w a hin hout hl hc hp hG hF
            refine Guarded.none rfl ?_
            have e3 : a.tmps.getD 3 undef = .pointer (some ⟨w0.heap.size, 0, none⟩) := hout 3 (outB_spec (by kernel_rfl))
            refine Does.val (.pointer (some ⟨w0.heap.size, 1, none⟩)) (w' := w) ?_ ⟨Below.refl _ _, rfl, hG⟩
            simp only [Array.getD_eq_getD_getElem?] at e3
            go_simp
          · intro listed σ w a hin hout hl hc hp hG hF
            refine Guarded.none rfl ?_
            have e26 : a.tmps.getD 26 undef = .pointer (some ⟨w0.heap.size, 1, none⟩) := (hin 7 26 rfl (hp ⟨7, .data⟩ (by simp) rfl)).trans (hF 7 (hp ⟨7, .data⟩ (by simp) rfl))
            have CC := SOF.out w hG; obtain ⟨C0, C1, C2⟩ := CC
            refine Does.val (.slice (some ⟨bb, o, none⟩) m d) (w' := w) ?_ ⟨Below.refl _ _, rfl, hG⟩
            go_simp
          · intro listed σ w a hin hout hl hc hp hG hF
            refine Guarded.none rfl ?_
            have e27 : a.tmps.getD 27 undef = .slice (some ⟨bb, o, none⟩) m d := (hin 8 27 rfl (hp ⟨8, .data⟩ (by simp) rfl)).trans (hF 8 (hp ⟨8, .data⟩ (by simp) rfl))
            refine Does.val (.int .i64 m) (w' := w) ?_ ⟨Below.refl _ _, rfl, hG⟩
            simp only [Array.getD_eq_getD_getElem?] at e27
            go_simp
          · intro listed σ w a hin hout hl hc hp hG hF
            refine Guarded.none rfl ?_
            have e25 : a.tmps.getD 25 undef = .int .i64 ((x : Int) - (n : Int)) := (hin 6 25 rfl (hp ⟨6, .data⟩ (by simp) rfl)).trans (hF 6 (hp ⟨6, .data⟩ (by simp) rfl))
            have e28 : a.tmps.getD 28 undef = .int .i64 m := (hin 9 28 rfl (hp ⟨9, .data⟩ (by simp) rfl)).trans (hF 9 (hp ⟨9, .data⟩ (by simp) rfl))
            refine Does.val (.int .i64 (y : Int)) (w' := w) ?_ ⟨Below.refl _ _, rfl, hG⟩
            simp only [Array.getD_eq_getD_getElem?] at e25 e28
            go_simp
            rw [if_neg (by omega), G10.out]
          · intro listed σ w a hin hout hl hc hp hG hF
            refine Guarded.none rfl ?_
            have e20 : a.tmps.getD 20 undef = .slice (some ⟨bb, o, none⟩) m d := (hin 1 20 rfl (hp ⟨1, .data⟩ (by simp) rfl)).trans (hF 1 (hp ⟨1, .data⟩ (by simp) rfl))
            have e29 : a.tmps.getD 29 undef = .int .i64 (y : Int) := (hin 10 29 rfl (hp ⟨10, .data⟩ (by simp) rfl)).trans (hF 10 (hp ⟨10, .data⟩ (by simp) rfl))
            refine Does.val (.pointer (some ⟨bb, o + y, none⟩)) (w' := w) ?_ ⟨Below.refl _ _, rfl, hG⟩
            simp only [Array.getD_eq_getD_getElem?] at e20 e29
            go_simp
            (try (intro hh; exfalso; omega))
          · intro listed σ w a hin hout hl hc hp hG hF
            refine Guarded.none rfl ?_
            have e30 : a.tmps.getD 30 undef = .pointer (some ⟨bb, o + y, none⟩) := (hin 11 30 rfl (hp ⟨11, .data⟩ (by simp) rfl)).trans (hF 11 (hp ⟨11, .data⟩ (by simp) rfl))
            have CC := SOF.out w hG; obtain ⟨C0, C1, C2⟩ := CC
            refine Does.val (.slice A1 ll c1) (w' := w) ?_ ⟨Below.refl _ _, rfl, hG⟩
            go_simp
          · intro listed σ w a hin hout hl hc hp hG hF
            refine Guarded.none rfl ?_
            have e31 : a.tmps.getD 31 undef = .slice A1 ll c1 := (hin 12 31 rfl (hp ⟨12, .data⟩ (by simp) rfl)).trans (hF 12 (hp ⟨12, .data⟩ (by simp) rfl))
            refine Does.val (.slice A1 ll c1) (w' := w) ?_ ⟨Below.refl _ _, rfl, hG⟩
            simp only [Array.getD_eq_getD_getElem?] at e31
            go_simp
        · intro listed σ W9 hall hG hF
          rw [show mid _ σ listed _ = (Act.put (Act.put (Act.put (Act.put (Act.put (Act.put (Act.put (Act.put (Act.put (Act.put (Act.put (Act.put (Act.put (Act.put _ (some 19) (σ 0)) (some 20) (σ 1)) (some 21) (σ 2)) (some 22) (σ 3)) (some 23) (σ 4)) (some 24) (σ 5)) (some 25) (σ 6)) (some 26) (σ 7)) (some 27) (σ 8)) (some 28) (σ 9)) (some 29) (σ 10)) (some 30) (σ 11)) (some 31) (σ 12)) (some 7) (σ 13)) from (mid_all hall).trans rfl]
          generalize σ 0 = tt0
          generalize σ 1 = tt1
          generalize σ 2 = tt2
          generalize σ 3 = tt3
          generalize σ 4 = tt4
          generalize σ 5 = tt5
          generalize σ 6 = tt6
          generalize σ 7 = tt7
          generalize σ 8 = tt8
          generalize σ 9 = tt9
          generalize σ 10 = tt10
          generalize σ 11 = tt11
          generalize σ 12 = tt12
          rw [show σ 13 = .slice A1 ll c1 from hF 13 (by decide)]
          simp only [Act.put, List.setIfInBounds_toArray, List.set_cons_zero, List.set_cons_succ]
          have TG := hG
          clear hF hG hall
          clear σ
          have HQ := hide (HBB.out.next TG)
          (try have dv := (below_cell TG (by have := HBB.out.size; omega)).trans dv)
          clear TG SOF
          go_wp2_with fail
          go_ret
          exact ⟨by rw [HE.out]; rfl, HQ.out⟩
    · have HE := hide (show res = false from by rw [HL.out]; unfold hasB; simp; omega)
      clear HL
      go_enter Try.func41, Try.ntmps41
      go_upto_region 4 with fail
      generalize hW : (w0.alloc (.cells #[.slice A n c, .slice (some ⟨bb, o, none⟩) m d] 34)).alloc (.cells #[] 4) = W1 at *
      clear hW u0 u1
      refine wp_drawn (by kernel_rfl) (by kernel_rfl) (by kernel_rfl) (fun w w' => Below w.heap.size w w') (fun j v w => match j with | 0 => v = .pointer (some ⟨w0.heap.size, 1, none⟩) | 1 => v = .slice (some ⟨bb, o, none⟩) m d | 2 => v = .int .i64 (x : Int) | 3 => v = .pointer (some ⟨w0.heap.size, 0, none⟩) | 4 => v = .slice A n c | 5 => v = .int .i64 n | 6 => v = .int .i64 ((x : Int) - (n : Int)) | 7 => v = .pointer (some ⟨w0.heap.size, 1, none⟩) | 8 => v = .slice (some ⟨bb, o, none⟩) m d | 9 => v = .int .i64 m | 10 => v = .int .i64 (y : Int) | 11 => v = .pointer (some ⟨bb, o + y, none⟩) | 12 => v = .slice A1 ll c1 | 13 => v = .slice A1 ll c1 | _ => True) (fun _ _ w => Below W1.heap.size W1 w) ?_ (fun _ => bl_drewN W1 1) ?_ ?_
      · intro j v w w' hT h
        match j, h with
        | 0, h => exact h
        | 1, h => exact h
        | 2, h => exact h
        | 3, h => exact h
        | 4, h => exact h
        | 5, h => exact h
        | 6, h => exact h
        | 7, h => exact h
        | 8, h => exact h
        | 9, h => exact h
        | 10, h => exact h
        | 11, h => exact h
        | 12, h => exact h
        | 13, h => exact h
        | j + 14, h => trivial
      · refine ⟨?_, ?_, ?_, ?_, ?_, ?_, ?_, ?_, ?_, ?_, ?_, ?_, ?_, ?_, trivial⟩
        · intro listed σ w a hin hout hl hc hp hG hF
          refine Guarded.none rfl ?_
          have e3 : a.tmps.getD 3 undef = .pointer (some ⟨w0.heap.size, 0, none⟩) := hout 3 (outB_spec (by kernel_rfl))
          refine Does.val (.pointer (some ⟨w0.heap.size, 1, none⟩)) (w' := w) ?_ ⟨Below.refl _ _, rfl, hG⟩
          simp only [Array.getD_eq_getD_getElem?] at e3
          go_simp
        · intro listed σ w a hin hout hl hc hp hG hF
          refine Guarded.none rfl ?_
          have e19 : a.tmps.getD 19 undef = .pointer (some ⟨w0.heap.size, 1, none⟩) := (hin 0 19 rfl (hp ⟨0, .data⟩ (by simp) rfl)).trans (hF 0 (hp ⟨0, .data⟩ (by simp) rfl))
          have CC := SOF.out w hG; obtain ⟨C0, C1, C2⟩ := CC
          refine Does.val (.slice (some ⟨bb, o, none⟩) m d) (w' := w) ?_ ⟨Below.refl _ _, rfl, hG⟩
          go_simp
        · intro listed σ w a hin hout hl hc hp hG hF
          refine Guarded.none rfl ?_
          have e1 : a.tmps.getD 1 undef = .int .i64 (x : Int) := hout 1 (outB_spec (by kernel_rfl))
          refine Does.val (.int .i64 (x : Int)) (w' := w) ?_ ⟨Below.refl _ _, rfl, hG⟩
          simp only [Array.getD_eq_getD_getElem?] at e1
          go_simp
        · intro listed σ w a hin hout hl hc hp hG hF
          refine Guarded.none rfl ?_
          have e3 : a.tmps.getD 3 undef = .pointer (some ⟨w0.heap.size, 0, none⟩) := hout 3 (outB_spec (by kernel_rfl))
          refine Does.val (.pointer (some ⟨w0.heap.size, 0, none⟩)) (w' := w) ?_ ⟨Below.refl _ _, rfl, hG⟩
          simp only [Array.getD_eq_getD_getElem?] at e3
          go_simp
        · intro listed σ w a hin hout hl hc hp hG hF
          refine Guarded.none rfl ?_
          have e22 : a.tmps.getD 22 undef = .pointer (some ⟨w0.heap.size, 0, none⟩) := (hin 3 22 rfl (hp ⟨3, .data⟩ (by simp) rfl)).trans (hF 3 (hp ⟨3, .data⟩ (by simp) rfl))
          have CC := SOF.out w hG; obtain ⟨C0, C1, C2⟩ := CC
          refine Does.val (.slice A n c) (w' := w) ?_ ⟨Below.refl _ _, rfl, hG⟩
          go_simp
        · intro listed σ w a hin hout hl hc hp hG hF
          refine Guarded.none rfl ?_
          have e23 : a.tmps.getD 23 undef = .slice A n c := (hin 4 23 rfl (hp ⟨4, .data⟩ (by simp) rfl)).trans (hF 4 (hp ⟨4, .data⟩ (by simp) rfl))
          refine Does.val (.int .i64 n) (w' := w) ?_ ⟨Below.refl _ _, rfl, hG⟩
          simp only [Array.getD_eq_getD_getElem?] at e23
          go_simp
        · intro listed σ w a hin hout hl hc hp hG hF
          refine Guarded.none rfl ?_
          have e21 : a.tmps.getD 21 undef = .int .i64 (x : Int) := (hin 2 21 rfl (hp ⟨2, .data⟩ (by simp) rfl)).trans (hF 2 (hp ⟨2, .data⟩ (by simp) rfl))
          have e24 : a.tmps.getD 24 undef = .int .i64 n := (hin 5 24 rfl (hp ⟨5, .data⟩ (by simp) rfl)).trans (hF 5 (hp ⟨5, .data⟩ (by simp) rfl))
          refine Does.val (.int .i64 ((x : Int) - (n : Int))) (w' := w) ?_ ⟨Below.refl _ _, rfl, hG⟩
          simp only [Array.getD_eq_getD_getElem?] at e21 e24
          go_simp
          (try exact IntWalk.i64_in _ (by omega))
        · intro listed σ w a hin hout hl hc hp hG hF
          refine Guarded.none rfl ?_
          have e3 : a.tmps.getD 3 undef = .pointer (some ⟨w0.heap.size, 0, none⟩) := hout 3 (outB_spec (by kernel_rfl))
          refine Does.val (.pointer (some ⟨w0.heap.size, 1, none⟩)) (w' := w) ?_ ⟨Below.refl _ _, rfl, hG⟩
          simp only [Array.getD_eq_getD_getElem?] at e3
          go_simp
        · intro listed σ w a hin hout hl hc hp hG hF
          refine Guarded.none rfl ?_
          have e26 : a.tmps.getD 26 undef = .pointer (some ⟨w0.heap.size, 1, none⟩) := (hin 7 26 rfl (hp ⟨7, .data⟩ (by simp) rfl)).trans (hF 7 (hp ⟨7, .data⟩ (by simp) rfl))
          have CC := SOF.out w hG; obtain ⟨C0, C1, C2⟩ := CC
          refine Does.val (.slice (some ⟨bb, o, none⟩) m d) (w' := w) ?_ ⟨Below.refl _ _, rfl, hG⟩
          go_simp
        · intro listed σ w a hin hout hl hc hp hG hF
          refine Guarded.none rfl ?_
          have e27 : a.tmps.getD 27 undef = .slice (some ⟨bb, o, none⟩) m d := (hin 8 27 rfl (hp ⟨8, .data⟩ (by simp) rfl)).trans (hF 8 (hp ⟨8, .data⟩ (by simp) rfl))
          refine Does.val (.int .i64 m) (w' := w) ?_ ⟨Below.refl _ _, rfl, hG⟩
          simp only [Array.getD_eq_getD_getElem?] at e27
          go_simp
        · intro listed σ w a hin hout hl hc hp hG hF
          refine Guarded.none rfl ?_
          have e25 : a.tmps.getD 25 undef = .int .i64 ((x : Int) - (n : Int)) := (hin 6 25 rfl (hp ⟨6, .data⟩ (by simp) rfl)).trans (hF 6 (hp ⟨6, .data⟩ (by simp) rfl))
          have e28 : a.tmps.getD 28 undef = .int .i64 m := (hin 9 28 rfl (hp ⟨9, .data⟩ (by simp) rfl)).trans (hF 9 (hp ⟨9, .data⟩ (by simp) rfl))
          refine Does.val (.int .i64 (y : Int)) (w' := w) ?_ ⟨Below.refl _ _, rfl, hG⟩
          simp only [Array.getD_eq_getD_getElem?] at e25 e28
          go_simp
          rw [if_neg (by omega), G10.out]
        · intro listed σ w a hin hout hl hc hp hG hF
          refine Guarded.none rfl ?_
          have e20 : a.tmps.getD 20 undef = .slice (some ⟨bb, o, none⟩) m d := (hin 1 20 rfl (hp ⟨1, .data⟩ (by simp) rfl)).trans (hF 1 (hp ⟨1, .data⟩ (by simp) rfl))
          have e29 : a.tmps.getD 29 undef = .int .i64 (y : Int) := (hin 10 29 rfl (hp ⟨10, .data⟩ (by simp) rfl)).trans (hF 10 (hp ⟨10, .data⟩ (by simp) rfl))
          refine Does.val (.pointer (some ⟨bb, o + y, none⟩)) (w' := w) ?_ ⟨Below.refl _ _, rfl, hG⟩
          simp only [Array.getD_eq_getD_getElem?] at e20 e29
          go_simp
          (try (intro hh; exfalso; omega))
        · intro listed σ w a hin hout hl hc hp hG hF
          refine Guarded.none rfl ?_
          have e30 : a.tmps.getD 30 undef = .pointer (some ⟨bb, o + y, none⟩) := (hin 11 30 rfl (hp ⟨11, .data⟩ (by simp) rfl)).trans (hF 11 (hp ⟨11, .data⟩ (by simp) rfl))
          have CC := SOF.out w hG; obtain ⟨C0, C1, C2⟩ := CC
          refine Does.val (.slice A1 ll c1) (w' := w) ?_ ⟨Below.refl _ _, rfl, hG⟩
          go_simp
        · intro listed σ w a hin hout hl hc hp hG hF
          refine Guarded.none rfl ?_
          have e31 : a.tmps.getD 31 undef = .slice A1 ll c1 := (hin 12 31 rfl (hp ⟨12, .data⟩ (by simp) rfl)).trans (hF 12 (hp ⟨12, .data⟩ (by simp) rfl))
          refine Does.val (.slice A1 ll c1) (w' := w) ?_ ⟨Below.refl _ _, rfl, hG⟩
          simp only [Array.getD_eq_getD_getElem?] at e31
          go_simp
      · intro listed σ W9 hall hG hF
        rw [show mid _ σ listed _ = (Act.put (Act.put (Act.put (Act.put (Act.put (Act.put (Act.put (Act.put (Act.put (Act.put (Act.put (Act.put (Act.put (Act.put _ (some 19) (σ 0)) (some 20) (σ 1)) (some 21) (σ 2)) (some 22) (σ 3)) (some 23) (σ 4)) (some 24) (σ 5)) (some 25) (σ 6)) (some 26) (σ 7)) (some 27) (σ 8)) (some 28) (σ 9)) (some 29) (σ 10)) (some 30) (σ 11)) (some 31) (σ 12)) (some 7) (σ 13)) from (mid_all hall).trans rfl]
        generalize σ 0 = tt0
        generalize σ 1 = tt1
        generalize σ 2 = tt2
        generalize σ 3 = tt3
        generalize σ 4 = tt4
        generalize σ 5 = tt5
        generalize σ 6 = tt6
        generalize σ 7 = tt7
        generalize σ 8 = tt8
        generalize σ 9 = tt9
        generalize σ 10 = tt10
        generalize σ 11 = tt11
        generalize σ 12 = tt12
        rw [show σ 13 = .slice A1 ll c1 from hF 13 (by decide)]
        simp only [Act.put, List.setIfInBounds_toArray, List.set_cons_zero, List.set_cons_succ]
        have TG := hG
        clear hF hG hall
        clear σ
        have HQ := hide (HBB.out.next TG)
        (try have dv := (below_cell TG (by have := HBB.out.size; omega)).trans dv)
        clear TG SOF
        go_wp2_with fail
        go_ret
        exact ⟨by rw [HE.out]; rfl, HQ.out⟩
end Go.Proofs.Ytljocjjdfgpbaaa
