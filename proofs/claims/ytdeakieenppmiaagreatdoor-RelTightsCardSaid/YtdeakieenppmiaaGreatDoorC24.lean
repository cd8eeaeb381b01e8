/- Texts of one seat, put together: RSame LSame Region3 LOf. -/
import Derived.Test.YtdeakieenppmiaaGreatDoorC23
import Derived.Test.YtdeakieenppmiaaGreatDoorC14
import Derived.Test.YtdeakieenppmiaaGreatDoorC16
set_option linter.unusedVariables false
set_option linter.unusedSimpArgs false
set_option maxRecDepth 100000
set_option maxHeartbeats 16000000
/- plumblineref03.Same of equal terms. -/
namespace Go.Proofs.YtdeakieenppmiaaGreatDoor
open Go.RowKit
open Tm

theorem rtsame_yes (v u : Value) (L : List (Int × Int)) (K : Int) (k ku : Nat) (w0 : World) (hv : TRes w0 v L K k) (hu : TRes w0 u L K ku) (hl : L.length ≤ 1099511) : Calls Tryz.prog 47 #[v, u] w0 (YesPost w0) := by
 obtain ⟨A, n, c, s, B, m, d, rfl, ⟨ps, hps, hlp, hzp⟩, hc1, hc2, hK⟩ := hv
 obtain ⟨A2, n2, c2, s2, B2, m2, d2, rfl, ⟨qs, hqs, hlq, hzq⟩, hc3, hc4, hK2⟩ := hu
 have hn : L.length = n := by rw [← hlp, ← hps.1]; simp [lin]
 have hn2 : L.length = n2 := by rw [← hlq, ← hqs.1]; simp [lin]
 obtain rfl : n = n2 := by omega
 obtain ⟨z0, z1, z2, z3⟩ := bstart2 28 28 w0 #[.slice A n c, .bool s, .slice B m d] #[.slice A2 n c2, .bool s2, .slice B2 m2 d2]
 have x0 := z0.c0
 have x1 := z0.c1
 have x2 := z0.c2
 have y0 := z1.c0
 have y1 := z1.c1
 have y2 := z1.c2
 have hsm := zsame_yes _ _ K k ku _ (hK.below z2) (hK2.below z2)
 have hnn : (((n : Int)) != (n : Int)) = false := by simp
 have HP := hide hps
 have HQ := hide hqs
 have HZP := hide hzp
 have HZQ := hide hzq
 have HLP := hide hlp
 have HLQ := hide hlq
 have X := hide z0
 have Y := hide z1
 have T := hide z2
 have HN := hide hn
 have hn1 : n ≤ 1099511 := by omega
 clear hps hqs hzp hzq hlp hlq z0 z1 z2 z3 hK hK2 hn hn2
 go_enter Tryz.func47, Tryz.ntmps47
 go_wp2_with fail
 refine hsm.mono ?_
 rintro e w1 ⟨rfl, b1⟩
 have HX := hide (X.out.next b1)
 have HY := hide (Y.out.next b1)
 have HB := hide (T.out.next b1)
 clear hsm b1 x0 x1 x2 y0 y1 y2
 go_wp2_with fail
 go_loopw [5] (fun i wr => ∃ q : Nat, q ≤ n ∧ i = .int .i64 q ∧ Hid (Below w1.heap.size w1 wr)) (fun i _ => n - (intOf i).toNat)
 case atStart => exact ⟨0, Nat.zero_le _, rfl, hide (Below.refl _ _)⟩
 case round =>
  obtain ⟨q, hq, rfl, HR⟩ := hrel
  have hT := HB.out.next HR.out
  have X9 := hide (HX.out.next HR.out)
  have Y9 := hide (HY.out.next HR.out)
  have xa := X9.out.c0
  have ya := Y9.out.c0
  by_cases hqn : q < n
  · obtain ⟨bb, o, p, rfl, hlt, hp, c0, c1, d0, -⟩ := (HP.out.below hT).at3 hqn
    obtain ⟨bb2, o2, p2, rfl, hlt2, hp2, e0, e1, f0, -⟩ := (HQ.out.below hT).at3 hqn
    have hpe : p2.v = p.v ∧ p2.Z = p.Z := by
      have h1 : L[q]? = some (p.v, p.Z) := by rw [← HLP.out]; simp [lin, PV.part, hp]
      have h2 : L[q]? = some (p2.v, p2.Z) := by rw [← HLQ.out]; simp [lin, PV.part, hp2]
      rw [h1] at h2
      injection h2 with h2
      injection h2 with h3 h4
      exact ⟨h3.symm, h4.symm⟩
    have HTT := hide hT
    have HS := hide (fun W (h : Below wr.heap.size wr W) => zsame_yes (.agg #[.bool p.s, .slice p.B p.m p.d]) (.agg #[.bool p2.s, .slice p2.B p2.m p2.d]) p.Z k ku W ((HZP.out p (List.mem_of_getElem? hp)).below (HTT.out.next h)) (by rw [← hpe.2]; exact (HZQ.out p2 (List.mem_of_getElem? hp2)).below (HTT.out.next h)))
    unfold YesPost at HS
    rw [hpe.1] at e0
    have SOF := hide (show ∀ W, Below wr.heap.size wr W → (W.cell? ⟨w0.heap.size, 0, none⟩ = some (.slice (some ⟨bb, o, none⟩) n c) ∧ W.cell? ⟨w0.heap.size + 1, 0, none⟩ = some (.slice (some ⟨bb2, o2, none⟩) n c2) ∧ W.cell? ⟨bb, o + q * 3, none⟩ = some (.int .i64 p.v) ∧ W.cell? ⟨bb, o + q * 3 + 1, none⟩ = some (.bool p.s) ∧ W.cell? ⟨bb, o + q * 3 + 2, none⟩ = some (.slice p.B p.m p.d) ∧ W.cell? ⟨bb2, o2 + q * 3, none⟩ = some (.int .i64 p.v) ∧ W.cell? ⟨bb2, o2 + q * 3 + 1, none⟩ = some (.bool p2.s) ∧ W.cell? ⟨bb2, o2 + q * 3 + 2, none⟩ = some (.slice p2.B p2.m p2.d)) from fun W h => ⟨(X9.out.next h).c0, (Y9.out.next h).c0, (h.cell (p := ⟨bb, o + q * 3, none⟩) hlt).trans c0, (h.cell (p := ⟨bb, o + q * 3 + 1, none⟩) hlt).trans c1, (h.cell (p := ⟨bb, o + q * 3 + 2, none⟩) hlt).trans d0, (h.cell (p := ⟨bb2, o2 + q * 3, none⟩) hlt2).trans e0, (h.cell (p := ⟨bb2, o2 + q * 3 + 1, none⟩) hlt2).trans e1, (h.cell (p := ⟨bb2, o2 + q * 3 + 2, none⟩) hlt2).trans f0⟩)
    clear hT hp hp2 c0 c1 d0 e0 e1 f0 hpe
    go_wp2_with fail
    clear xa ya
    refine wp_drawn (by kernel_rfl) (by kernel_rfl) (by kernel_rfl) (fun w w' => Below w.heap.size w w') (fun j v w => match j with | 0 => v = .pointer (some ⟨w0.heap.size, 0, none⟩) | 1 => v = .slice (some ⟨bb, o, none⟩) n c | 2 => v = .int .i64 (q : Int) | 3 => v = .pointer (some ⟨bb, o + q * 3, none⟩) | 4 => v = .pointer (some ⟨bb, o + q * 3, none⟩) | 5 => v = .int .i64 p.v | 6 => v = .pointer (some ⟨w0.heap.size + 1, 0, none⟩) | 7 => v = .slice (some ⟨bb2, o2, none⟩) n c2 | 8 => v = .int .i64 (q : Int) | 9 => v = .pointer (some ⟨bb2, o2 + q * 3, none⟩) | 10 => v = .pointer (some ⟨bb2, o2 + q * 3, none⟩) | 11 => v = .int .i64 p.v | 12 => v = .bool false | 13 => v = .bool false | 14 => v = .pointer (some ⟨w0.heap.size, 0, none⟩) | 15 => v = .slice (some ⟨bb, o, none⟩) n c | 16 => v = .int .i64 (q : Int) | 17 => v = .pointer (some ⟨bb, o + q * 3, none⟩) | 18 => v = .pointer (some ⟨bb, o + q * 3 + 1, none⟩) | 19 => v = .agg #[.bool p.s, .slice p.B p.m p.d] | 20 => v = .pointer (some ⟨w0.heap.size + 1, 0, none⟩) | 21 => v = .slice (some ⟨bb2, o2, none⟩) n c2 | 22 => v = .int .i64 (q : Int) | 23 => v = .pointer (some ⟨bb2, o2 + q * 3, none⟩) | 24 => v = .pointer (some ⟨bb2, o2 + q * 3 + 1, none⟩) | 25 => v = .agg #[.bool p2.s, .slice p2.B p2.m p2.d] | 26 => v = .bool true | 27 => v = .bool false | 28 => v = .bool false | _ => True) (fun _ _ w => Below wr.heap.size wr w) ?_ (fun _ => bl_drewN wr 1) ?_ ?_
    · intro j v w w' hT h
      match j, h with
      | 0, h => exact h
      | 1, h => exact h
      | 2, h => exact h
      | 3, h => exact h
      | 4, h => exact h
      | 5, h => exact h
      | 6, h => exact h
      | 7, h => exact h
      | 8, h => exact h
      | 9, h => exact h
      | 10, h => exact h
      | 11, h => exact h
      | 12, h => exact h
      | 13, h => exact h
      | 14, h => exact h
      | 15, h => exact h
      | 16, h => exact h
      | 17, h => exact h
      | 18, h => exact h
      | 19, h => exact h
      | 20, h => exact h
      | 21, h => exact h
      | 22, h => exact h
      | 23, h => exact h
      | 24, h => exact h
      | 25, h => exact h
      | 26, h => exact h
      | 27, h => exact h
      | 28, h => exact h
      | j + 29, h => trivial
    · refine ⟨?_, ?_, ?_, ?_, ?_, ?_, ?_, ?_, ?_, ?_, ?_, ?_, ?_, ?_, ?_, ?_, ?_, ?_, ?_, ?_, ?_, ?_, ?_, ?_, ?_, ?_, ?_, ?_, ?_, trivial⟩
      · intro listed σ w a hin hout hl hc hp hG hF
        refine Guarded.none rfl ?_
        have e2 : a.tmps.getD 2 undef = .pointer (some ⟨w0.heap.size, 0, none⟩) := hout 2 (outB_spec (by kernel_rfl))
        refine Does.val (.pointer (some ⟨w0.heap.size, 0, none⟩)) (w' := w) ?_ ⟨Below.refl _ _, rfl, hG⟩
        simp only [Array.getD_eq_getD_getElem?] at e2
        go_simp
      · intro listed σ w a hin hout hl hc hp hG hF
        refine Guarded.none rfl ?_
        have e28 : a.tmps.getD 28 undef = .pointer (some ⟨w0.heap.size, 0, none⟩) := (hin 0 28 rfl (hp ⟨0, .data⟩ (by simp) rfl)).trans (hF 0 (hp ⟨0, .data⟩ (by simp) rfl))
        have CC := SOF.out w hG; obtain ⟨C0, C1, D0, D1, D2, E0, E1, E2⟩ := CC
        refine Does.val (.slice (some ⟨bb, o, none⟩) n c) (w' := w) ?_ ⟨Below.refl _ _, rfl, hG⟩
        go_simp
      · intro listed σ w a hin hout hl hc hp hG hF
        refine Guarded.none rfl ?_
        have e5 : a.tmps.getD 5 undef = .int .i64 (q : Int) := hout 5 (outB_spec (by kernel_rfl))
        refine Does.val (.int .i64 (q : Int)) (w' := w) ?_ ⟨Below.refl _ _, rfl, hG⟩
        simp only [Array.getD_eq_getD_getElem?] at e5
        go_simp
      · intro listed σ w a hin hout hl hc hp hG hF
        refine Guarded.none rfl ?_
        have e29 : a.tmps.getD 29 undef = .slice (some ⟨bb, o, none⟩) n c := (hin 1 29 rfl (hp ⟨1, .data⟩ (by simp) rfl)).trans (hF 1 (hp ⟨1, .data⟩ (by simp) rfl))
        have e30 : a.tmps.getD 30 undef = .int .i64 (q : Int) := (hin 2 30 rfl (hp ⟨2, .data⟩ (by simp) rfl)).trans (hF 2 (hp ⟨2, .data⟩ (by simp) rfl))
        refine Does.val (.pointer (some ⟨bb, o + q * 3, none⟩)) (w' := w) ?_ ⟨Below.refl _ _, rfl, hG⟩
        simp only [Array.getD_eq_getD_getElem?] at e29 e30
        go_simp
        (try (intro hh; exfalso; omega))
      · intro listed σ w a hin hout hl hc hp hG hF
        refine Guarded.none rfl ?_
        have e31 : a.tmps.getD 31 undef = .pointer (some ⟨bb, o + q * 3, none⟩) := (hin 3 31 rfl (hp ⟨3, .data⟩ (by simp) rfl)).trans (hF 3 (hp ⟨3, .data⟩ (by simp) rfl))
        refine Does.val (.pointer (some ⟨bb, o + q * 3, none⟩)) (w' := w) ?_ ⟨Below.refl _ _, rfl, hG⟩
        simp only [Array.getD_eq_getD_getElem?] at e31
        go_simp
      · intro listed σ w a hin hout hl hc hp hG hF
        refine Guarded.none rfl ?_
        have e32 : a.tmps.getD 32 undef = .pointer (some ⟨bb, o + q * 3, none⟩) := (hin 4 32 rfl (hp ⟨4, .data⟩ (by simp) rfl)).trans (hF 4 (hp ⟨4, .data⟩ (by simp) rfl))
        have CC := SOF.out w hG; obtain ⟨C0, C1, D0, D1, D2, E0, E1, E2⟩ := CC
        refine Does.val (.int .i64 p.v) (w' := w) ?_ ⟨Below.refl _ _, rfl, hG⟩
        go_simp
      · intro listed σ w a hin hout hl hc hp hG hF
        refine Guarded.none rfl ?_
        have e3 : a.tmps.getD 3 undef = .pointer (some ⟨w0.heap.size + 1, 0, none⟩) := hout 3 (outB_spec (by kernel_rfl))
        refine Does.val (.pointer (some ⟨w0.heap.size + 1, 0, none⟩)) (w' := w) ?_ ⟨Below.refl _ _, rfl, hG⟩
        simp only [Array.getD_eq_getD_getElem?] at e3
        go_simp
      · intro listed σ w a hin hout hl hc hp hG hF
        refine Guarded.none rfl ?_
        have e34 : a.tmps.getD 34 undef = .pointer (some ⟨w0.heap.size + 1, 0, none⟩) := (hin 6 34 rfl (hp ⟨6, .data⟩ (by simp) rfl)).trans (hF 6 (hp ⟨6, .data⟩ (by simp) rfl))
        have CC := SOF.out w hG; obtain ⟨C0, C1, D0, D1, D2, E0, E1, E2⟩ := CC
        refine Does.val (.slice (some ⟨bb2, o2, none⟩) n c2) (w' := w) ?_ ⟨Below.refl _ _, rfl, hG⟩
        go_simp
      · intro listed σ w a hin hout hl hc hp hG hF
        refine Guarded.none rfl ?_
        have e5 : a.tmps.getD 5 undef = .int .i64 (q : Int) := hout 5 (outB_spec (by kernel_rfl))
        refine Does.val (.int .i64 (q : Int)) (w' := w) ?_ ⟨Below.refl _ _, rfl, hG⟩
        simp only [Array.getD_eq_getD_getElem?] at e5
        go_simp
      · intro listed σ w a hin hout hl hc hp hG hF
        refine Guarded.none rfl ?_
        have e35 : a.tmps.getD 35 undef = .slice (some ⟨bb2, o2, none⟩) n c2 := (hin 7 35 rfl (hp ⟨7, .data⟩ (by simp) rfl)).trans (hF 7 (hp ⟨7, .data⟩ (by simp) rfl))
        have e36 : a.tmps.getD 36 undef = .int .i64 (q : Int) := (hin 8 36 rfl (hp ⟨8, .data⟩ (by simp) rfl)).trans (hF 8 (hp ⟨8, .data⟩ (by simp) rfl))
        refine Does.val (.pointer (some ⟨bb2, o2 + q * 3, none⟩)) (w' := w) ?_ ⟨Below.refl _ _, rfl, hG⟩
        simp only [Array.getD_eq_getD_getElem?] at e35 e36
        go_simp
        (try (intro hh; exfalso; omega))
      · intro listed σ w a hin hout hl hc hp hG hF
        refine Guarded.none rfl ?_
        have e37 : a.tmps.getD 37 undef = .pointer (some ⟨bb2, o2 + q * 3, none⟩) := (hin 9 37 rfl (hp ⟨9, .data⟩ (by simp) rfl)).trans (hF 9 (hp ⟨9, .data⟩ (by simp) rfl))
        refine Does.val (.pointer (some ⟨bb2, o2 + q * 3, none⟩)) (w' := w) ?_ ⟨Below.refl _ _, rfl, hG⟩
        simp only [Array.getD_eq_getD_getElem?] at e37
        go_simp
      · intro listed σ w a hin hout hl hc hp hG hF
        refine Guarded.none rfl ?_
        have e38 : a.tmps.getD 38 undef = .pointer (some ⟨bb2, o2 + q * 3, none⟩) := (hin 10 38 rfl (hp ⟨10, .data⟩ (by simp) rfl)).trans (hF 10 (hp ⟨10, .data⟩ (by simp) rfl))
        have CC := SOF.out w hG; obtain ⟨C0, C1, D0, D1, D2, E0, E1, E2⟩ := CC
        refine Does.val (.int .i64 p.v) (w' := w) ?_ ⟨Below.refl _ _, rfl, hG⟩
        go_simp
      · intro listed σ w a hin hout hl hc hp hG hF
        refine Guarded.none rfl ?_
        have e33 : a.tmps.getD 33 undef = .int .i64 p.v := (hin 5 33 rfl (hp ⟨5, .data⟩ (by simp) rfl)).trans (hF 5 (hp ⟨5, .data⟩ (by simp) rfl))
        have e39 : a.tmps.getD 39 undef = .int .i64 p.v := (hin 11 39 rfl (hp ⟨11, .data⟩ (by simp) rfl)).trans (hF 11 (hp ⟨11, .data⟩ (by simp) rfl))
        refine Does.val (.bool false) (w' := w) ?_ ⟨Below.refl _ _, rfl, hG⟩
        simp only [Array.getD_eq_getD_getElem?] at e33 e39
        go_simp
      · intro listed σ w a hin hout hl hc hp hG hF
        refine Guarded.none rfl ?_
        have e40 : a.tmps.getD 40 undef = .bool false := (hin 12 40 rfl (hp ⟨12, .data⟩ (by simp) rfl)).trans (hF 12 (hp ⟨12, .data⟩ (by simp) rfl))
        refine Does.val (.bool false) (w' := w) ?_ ⟨Below.refl _ _, rfl, hG⟩
        simp only [Array.getD_eq_getD_getElem?] at e40
        go_simp
      · intro listed σ w a hin hout hl hc hp hG hF
        refine Guarded.some (d := 41) (b := false) rfl rfl ((hin 13 41 rfl (hp ⟨13, .guard⟩ (by simp) rfl)).trans (hF 13 (hp ⟨13, .guard⟩ (by simp) rfl))) ?_
        refine Or.inl ⟨rfl, ?_⟩
        have e2 : a.tmps.getD 2 undef = .pointer (some ⟨w0.heap.size, 0, none⟩) := hout 2 (outB_spec (by kernel_rfl))
        refine Does.val (.pointer (some ⟨w0.heap.size, 0, none⟩)) (w' := w) ?_ ⟨Below.refl _ _, rfl, hG⟩
        simp only [Array.getD_eq_getD_getElem?] at e2
        go_simp
      · intro listed σ w a hin hout hl hc hp hG hF
        refine Guarded.some (d := 41) (b := false) rfl rfl ((hin 13 41 rfl (hp ⟨13, .guard⟩ (by simp) rfl)).trans (hF 13 (hp ⟨13, .guard⟩ (by simp) rfl))) ?_
        refine Or.inl ⟨rfl, ?_⟩
        have e42 : a.tmps.getD 42 undef = .pointer (some ⟨w0.heap.size, 0, none⟩) := (hin 14 42 rfl (hp ⟨14, .data⟩ (by simp) rfl)).trans (hF 14 (hp ⟨14, .data⟩ (by simp) rfl))
        have CC := SOF.out w hG; obtain ⟨C0, C1, D0, D1, D2, E0, E1, E2⟩ := CC
        refine Does.val (.slice (some ⟨bb, o, none⟩) n c) (w' := w) ?_ ⟨Below.refl _ _, rfl, hG⟩
        go_simp
      · intro listed σ w a hin hout hl hc hp hG hF
        refine Guarded.some (d := 41) (b := false) rfl rfl ((hin 13 41 rfl (hp ⟨13, .guard⟩ (by simp) rfl)).trans (hF 13 (hp ⟨13, .guard⟩ (by simp) rfl))) ?_
        refine Or.inl ⟨rfl, ?_⟩
        have e5 : a.tmps.getD 5 undef = .int .i64 (q : Int) := hout 5 (outB_spec (by kernel_rfl))
        refine Does.val (.int .i64 (q : Int)) (w' := w) ?_ ⟨Below.refl _ _, rfl, hG⟩
        simp only [Array.getD_eq_getD_getElem?] at e5
        go_simp
      · intro listed σ w a hin hout hl hc hp hG hF
        refine Guarded.some (d := 41) (b := false) rfl rfl ((hin 13 41 rfl (hp ⟨13, .guard⟩ (by simp) rfl)).trans (hF 13 (hp ⟨13, .guard⟩ (by simp) rfl))) ?_
        refine Or.inl ⟨rfl, ?_⟩
        have e43 : a.tmps.getD 43 undef = .slice (some ⟨bb, o, none⟩) n c := (hin 15 43 rfl (hp ⟨15, .data⟩ (by simp) rfl)).trans (hF 15 (hp ⟨15, .data⟩ (by simp) rfl))
        have e44 : a.tmps.getD 44 undef = .int .i64 (q : Int) := (hin 16 44 rfl (hp ⟨16, .data⟩ (by simp) rfl)).trans (hF 16 (hp ⟨16, .data⟩ (by simp) rfl))
        refine Does.val (.pointer (some ⟨bb, o + q * 3, none⟩)) (w' := w) ?_ ⟨Below.refl _ _, rfl, hG⟩
        simp only [Array.getD_eq_getD_getElem?] at e43 e44
        go_simp
        (try (intro hh; exfalso; omega))
      · intro listed σ w a hin hout hl hc hp hG hF
        refine Guarded.some (d := 41) (b := false) rfl rfl ((hin 13 41 rfl (hp ⟨13, .guard⟩ (by simp) rfl)).trans (hF 13 (hp ⟨13, .guard⟩ (by simp) rfl))) ?_
        refine Or.inl ⟨rfl, ?_⟩
        have e45 : a.tmps.getD 45 undef = .pointer (some ⟨bb, o + q * 3, none⟩) := (hin 17 45 rfl (hp ⟨17, .data⟩ (by simp) rfl)).trans (hF 17 (hp ⟨17, .data⟩ (by simp) rfl))
        refine Does.val (.pointer (some ⟨bb, o + q * 3 + 1, none⟩)) (w' := w) ?_ ⟨Below.refl _ _, rfl, hG⟩
        simp only [Array.getD_eq_getD_getElem?] at e45
        go_simp
      · intro listed σ w a hin hout hl hc hp hG hF
        refine Guarded.some (d := 41) (b := false) rfl rfl ((hin 13 41 rfl (hp ⟨13, .guard⟩ (by simp) rfl)).trans (hF 13 (hp ⟨13, .guard⟩ (by simp) rfl))) ?_
        refine Or.inl ⟨rfl, ?_⟩
        have e46 : a.tmps.getD 46 undef = .pointer (some ⟨bb, o + q * 3 + 1, none⟩) := (hin 18 46 rfl (hp ⟨18, .data⟩ (by simp) rfl)).trans (hF 18 (hp ⟨18, .data⟩ (by simp) rfl))
        have CC := SOF.out w hG; obtain ⟨C0, C1, D0, D1, D2, E0, E1, E2⟩ := CC
        refine Does.val (.agg #[.bool p.s, .slice p.B p.m p.d]) (w' := w) ?_ ⟨Below.refl _ _, rfl, hG⟩
        go_simp
      · intro listed σ w a hin hout hl hc hp hG hF
        refine Guarded.some (d := 41) (b := false) rfl rfl ((hin 13 41 rfl (hp ⟨13, .guard⟩ (by simp) rfl)).trans (hF 13 (hp ⟨13, .guard⟩ (by simp) rfl))) ?_
        refine Or.inl ⟨rfl, ?_⟩
        have e3 : a.tmps.getD 3 undef = .pointer (some ⟨w0.heap.size + 1, 0, none⟩) := hout 3 (outB_spec (by kernel_rfl))
        refine Does.val (.pointer (some ⟨w0.heap.size + 1, 0, none⟩)) (w' := w) ?_ ⟨Below.refl _ _, rfl, hG⟩
        simp only [Array.getD_eq_getD_getElem?] at e3
        go_simp
      · intro listed σ w a hin hout hl hc hp hG hF
        refine Guarded.some (d := 41) (b := false) rfl rfl ((hin 13 41 rfl (hp ⟨13, .guard⟩ (by simp) rfl)).trans (hF 13 (hp ⟨13, .guard⟩ (by simp) rfl))) ?_
        refine Or.inl ⟨rfl, ?_⟩
        have e48 : a.tmps.getD 48 undef = .pointer (some ⟨w0.heap.size + 1, 0, none⟩) := (hin 20 48 rfl (hp ⟨20, .data⟩ (by simp) rfl)).trans (hF 20 (hp ⟨20, .data⟩ (by simp) rfl))
        have CC := SOF.out w hG; obtain ⟨C0, C1, D0, D1, D2, E0, E1, E2⟩ := CC
        refine Does.val (.slice (some ⟨bb2, o2, none⟩) n c2) (w' := w) ?_ ⟨Below.refl _ _, rfl, hG⟩
        go_simp
      · intro listed σ w a hin hout hl hc hp hG hF
        refine Guarded.some (d := 41) (b := false) rfl rfl ((hin 13 41 rfl (hp ⟨13, .guard⟩ (by simp) rfl)).trans (hF 13 (hp ⟨13, .guard⟩ (by simp) rfl))) ?_
        refine Or.inl ⟨rfl, ?_⟩
        have e5 : a.tmps.getD 5 undef = .int .i64 (q : Int) := hout 5 (outB_spec (by kernel_rfl))
        refine Does.val (.int .i64 (q : Int)) (w' := w) ?_ ⟨Below.refl _ _, rfl, hG⟩
        simp only [Array.getD_eq_getD_getElem?] at e5
        go_simp
      · intro listed σ w a hin hout hl hc hp hG hF
        refine Guarded.some (d := 41) (b := false) rfl rfl ((hin 13 41 rfl (hp ⟨13, .guard⟩ (by simp) rfl)).trans (hF 13 (hp ⟨13, .guard⟩ (by simp) rfl))) ?_
        refine Or.inl ⟨rfl, ?_⟩
        have e49 : a.tmps.getD 49 undef = .slice (some ⟨bb2, o2, none⟩) n c2 := (hin 21 49 rfl (hp ⟨21, .data⟩ (by simp) rfl)).trans (hF 21 (hp ⟨21, .data⟩ (by simp) rfl))
        have e50 : a.tmps.getD 50 undef = .int .i64 (q : Int) := (hin 22 50 rfl (hp ⟨22, .data⟩ (by simp) rfl)).trans (hF 22 (hp ⟨22, .data⟩ (by simp) rfl))
        refine Does.val (.pointer (some ⟨bb2, o2 + q * 3, none⟩)) (w' := w) ?_ ⟨Below.refl _ _, rfl, hG⟩
        simp only [Array.getD_eq_getD_getElem?] at e49 e50
        go_simp
        (try (intro hh; exfalso; omega))
      · intro listed σ w a hin hout hl hc hp hG hF
        refine Guarded.some (d := 41) (b := false) rfl rfl ((hin 13 41 rfl (hp ⟨13, .guard⟩ (by simp) rfl)).trans (hF 13 (hp ⟨13, .guard⟩ (by simp) rfl))) ?_
        refine Or.inl ⟨rfl, ?_⟩
        have e51 : a.tmps.getD 51 undef = .pointer (some ⟨bb2, o2 + q * 3, none⟩) := (hin 23 51 rfl (hp ⟨23, .data⟩ (by simp) rfl)).trans (hF 23 (hp ⟨23, .data⟩ (by simp) rfl))
        refine Does.val (.pointer (some ⟨bb2, o2 + q * 3 + 1, none⟩)) (w' := w) ?_ ⟨Below.refl _ _, rfl, hG⟩
        simp only [Array.getD_eq_getD_getElem?] at e51
        go_simp
      · intro listed σ w a hin hout hl hc hp hG hF
        refine Guarded.some (d := 41) (b := false) rfl rfl ((hin 13 41 rfl (hp ⟨13, .guard⟩ (by simp) rfl)).trans (hF 13 (hp ⟨13, .guard⟩ (by simp) rfl))) ?_
        refine Or.inl ⟨rfl, ?_⟩
        have e52 : a.tmps.getD 52 undef = .pointer (some ⟨bb2, o2 + q * 3 + 1, none⟩) := (hin 24 52 rfl (hp ⟨24, .data⟩ (by simp) rfl)).trans (hF 24 (hp ⟨24, .data⟩ (by simp) rfl))
        have CC := SOF.out w hG; obtain ⟨C0, C1, D0, D1, D2, E0, E1, E2⟩ := CC
        refine Does.val (.agg #[.bool p2.s, .slice p2.B p2.m p2.d]) (w' := w) ?_ ⟨Below.refl _ _, rfl, hG⟩
        go_simp
      · intro listed σ w a hin hout hl hc hp hG hF
        refine Guarded.some (d := 41) (b := false) rfl rfl ((hin 13 41 rfl (hp ⟨13, .guard⟩ (by simp) rfl)).trans (hF 13 (hp ⟨13, .guard⟩ (by simp) rfl))) ?_
        refine Or.inl ⟨rfl, ?_⟩
        have e47 : a.tmps.getD 47 undef = .agg #[.bool p.s, .slice p.B p.m p.d] := (hin 19 47 rfl (hp ⟨19, .data⟩ (by simp) rfl)).trans (hF 19 (hp ⟨19, .data⟩ (by simp) rfl))
        have e53 : a.tmps.getD 53 undef = .agg #[.bool p2.s, .slice p2.B p2.m p2.d] := (hin 25 53 rfl (hp ⟨25, .data⟩ (by simp) rfl)).trans (hF 25 (hp ⟨25, .data⟩ (by simp) rfl))
        refine Does.call ?_ (HS.out w hG) ?_
        · go_simp
        · rintro e w' ⟨rfl, hb⟩
          exact ⟨_, rfl, hb, rfl, hG.next hb⟩
      · intro listed σ w a hin hout hl hc hp hG hF
        refine Guarded.some (d := 41) (b := false) rfl rfl ((hin 13 41 rfl (hp ⟨13, .guard⟩ (by simp) rfl)).trans (hF 13 (hp ⟨13, .guard⟩ (by simp) rfl))) ?_
        refine Or.inl ⟨rfl, ?_⟩
        have e54 : a.tmps.getD 54 undef = .bool true := (hin 26 54 rfl (hp ⟨26, .data⟩ (by simp) rfl)).trans (hF 26 (hp ⟨26, .data⟩ (by simp) rfl))
        refine Does.val (.bool false) (w' := w) ?_ ⟨Below.refl _ _, rfl, hG⟩
        simp only [Array.getD_eq_getD_getElem?] at e54
        go_simp
      · intro listed σ w a hin hout hl hc hp hG hF
        refine Guarded.none rfl ?_
        have e41 : a.tmps.getD 41 undef = .bool false := (hin 13 41 rfl (hp ⟨13, .data⟩ (by simp) rfl)).trans (hF 13 (hp ⟨13, .data⟩ (by simp) rfl))
        have e55 : a.tmps.getD 55 undef = .bool false := (hin 27 55 rfl (hp ⟨27, .data⟩ (by simp) rfl)).trans (hF 27 (hp ⟨27, .data⟩ (by simp) rfl))
        refine Does.val (.bool false) (w' := w) ?_ ⟨Below.refl _ _, rfl, hG⟩
        simp only [Array.getD_eq_getD_getElem?] at e41 e55
        go_simp
    · intro listed σ W9 hall hG hF
      rw [show mid _ σ listed _ = (Act.put (Act.put (Act.put (Act.put (Act.put (Act.put (Act.put (Act.put (Act.put (Act.put (Act.put (Act.put (Act.put (Act.put (Act.put (Act.put (Act.put (Act.put (Act.put (Act.put (Act.put (Act.put (Act.put (Act.put (Act.put (Act.put (Act.put (Act.put (Act.put _ (some 28) (σ 0)) (some 29) (σ 1)) (some 30) (σ 2)) (some 31) (σ 3)) (some 32) (σ 4)) (some 33) (σ 5)) (some 34) (σ 6)) (some 35) (σ 7)) (some 36) (σ 8)) (some 37) (σ 9)) (some 38) (σ 10)) (some 39) (σ 11)) (some 40) (σ 12)) (some 41) (σ 13)) (some 42) (σ 14)) (some 43) (σ 15)) (some 44) (σ 16)) (some 45) (σ 17)) (some 46) (σ 18)) (some 47) (σ 19)) (some 48) (σ 20)) (some 49) (σ 21)) (some 50) (σ 22)) (some 51) (σ 23)) (some 52) (σ 24)) (some 53) (σ 25)) (some 54) (σ 26)) (some 55) (σ 27)) (some 56) (σ 28)) from (mid_all hall).trans rfl]
      generalize σ 0 = tt0
      generalize σ 1 = tt1
      generalize σ 2 = tt2
      generalize σ 3 = tt3
      generalize σ 4 = tt4
      generalize σ 5 = tt5
      generalize σ 6 = tt6
      generalize σ 7 = tt7
      generalize σ 8 = tt8
      generalize σ 9 = tt9
      generalize σ 10 = tt10
      generalize σ 11 = tt11
      generalize σ 12 = tt12
      generalize σ 13 = tt13
      generalize σ 14 = tt14
      generalize σ 15 = tt15
      generalize σ 16 = tt16
      generalize σ 17 = tt17
      generalize σ 18 = tt18
      generalize σ 19 = tt19
      generalize σ 20 = tt20
      generalize σ 21 = tt21
      generalize σ 22 = tt22
      generalize σ 23 = tt23
      generalize σ 24 = tt24
      generalize σ 25 = tt25
      generalize σ 26 = tt26
      generalize σ 27 = tt27
      rw [show σ 28 = .bool false from hF 28 (by decide)]
      simp only [Act.put, List.setIfInBounds_toArray, List.set_cons_zero, List.set_cons_succ]
      have TG := hG
      clear hF hG hall
      clear σ
      have HE := hide (HR.out.next TG)
      clear TG SOF HS
      go_wp2_with fail
      go_roundw
      case rel => exact ⟨q + 1, by omega, by go_num, HE⟩
      case measure => simp [intOf] <;> omega
  · obtain rfl : q = n := by omega
    have HE := hide hT
    clear hT
    go_wp2_with fail
    go_ret
    exact ⟨rfl, HE.out⟩
end Go.Proofs.YtdeakieenppmiaaGreatDoor
/- plumblinelaw03.same of equal plain terms. -/
namespace Go.Proofs.YtdeakieenppmiaaGreatDoor
open Go.RowKit
open Tm

end Go.Proofs.YtdeakieenppmiaaGreatDoor
/- Regions by facts (3): one operation (an append to a list made in the region) turns what other facts speak of; facts that are wanted until it has come up. -/
namespace Go.Proofs.YtdeakieenppmiaaGreatDoor
open Go.RowKit

section
variable {P : Program} {ops : Array Oper} {Q : Exit → Act → World → Prop}
/-- As StepQ, but all facts are shown anew behind the operation. -/
def StepP (P : Program) (ops : Array Oper) (a0 : Act) (F : Nat → Value → World → Prop) (G : Array Bool → (Nat → Value) → World → Prop) (i : Nat) (o : Oper) : Prop :=
 ∀ (listed : Array Bool) (σ : Nat → Value) (w : World) (a : Act), (∀ j t, dstOf ops j = some t → listed.getD j false = true → a.tmps.getD t undef = σ j) → (∀ t, (∀ j, dstOf ops j = some t → listed.getD j false = false) → a.tmps.getD t undef = a0.tmps.getD t undef) →
  listed.getD i true = false → ClosedL .any ops listed → (∀ e ∈ o.after, Region.binds .any e = true → listed.getD e.on false = true) → G listed σ w → (∀ j, listed.getD j false = true → F j (σ j) w) →
  Guarded ops a o w (fun v w' => (∀ j, listed.getD j false = true → F j (σ j) w') ∧ F i v w' ∧ G (listed.setIfInBounds i true) (upd σ i v) w') (Does P a o w (fun v w' => (∀ j, listed.getD j false = true → F j (σ j) w') ∧ F i v w' ∧ G (listed.setIfInBounds i true) (upd σ i v) w'))
def StepX (P : Program) (ops : Array Oper) (a0 : Act) (T : World → World → Prop) (F : Nat → Value → World → Prop) (G : Array Bool → (Nat → Value) → World → Prop) (app : Nat) (i : Nat) (o : Oper) : Prop :=
 (i ≠ app → StepQ P ops a0 T F G i o) ∧ (i = app → StepP P ops a0 F G i o)
end
/-- What lay there stays; until app has come up, M holds of what has. -/
def GM (app : Nat) (M : Nat → Value → World → Prop) (W0 : World) (listed : Array Bool) (σ : Nat → Value) (w : World) : Prop :=
 Below W0.heap.size W0 w ∧ (listed.getD app false = false → ∀ j, listed.getD j false = true → M j (σ j) w)
/-- A list of parts of the call's own, and what it reads as. -/
def OwnParts (w : World) (base : Nat) (v : Value) (n : Nat) (L : List (Int × Int)) (k : Nat) : Prop := ∃ rs : List PV, LRow 60 3 w base v n (flat rs) ∧ rs.length = n ∧ lin rs = L ∧ ∀ p ∈ rs, ZRes w p.num p.Z k
end Go.Proofs.YtdeakieenppmiaaGreatDoor
/- plumblinelaw03.of. -/
namespace Go.Proofs.YtdeakieenppmiaaGreatDoor
open Go.RowKit
open Tm

theorem Box.ints {T : TypeId} {w : World} {g : Nat} {xs : List Int} (h : Box T w g (ints xs).toArray) : IIn w (some ⟨g, 0, none⟩) xs.length xs :=
 ⟨rfl, fun _ => ⟨g, 0, rfl, fun j u hu => by rw [Nat.zero_add]; exact h.cell j u (by simpa using hu)⟩⟩
theorem IIn.none (w : World) : IIn w none 0 [] := ⟨rfl, fun h => absurd h (by omega)⟩
/-- A term whose parts are a list of the call's own. -/
def OfPost (L : List (Int × Int)) (n : Nat) (K : Int) (k : Nat) (w : World) (e : Ending) (w' : World) : Prop :=
 ∃ A c s B m d, e = .returned (.agg #[.slice A n c, .bool s, .slice B m d]) ∧ OwnParts w' w.heap.size (.slice A n c) n L k ∧ n ≤ c ∧ c ≤ 9223372036854775807 ∧ ZRes w' (.agg #[.bool s, .slice B m d]) K k ∧ Below w.heap.size w w'
theorem OwnParts.res {w : World} {base n c k : Nat} {A : Option Addr} {L : List (Int × Int)} (h : OwnParts w base (.slice A n c) n L k) : PRes w A n L k := by
 obtain ⟨rs, h1, h2, h3, h4⟩ := h
 exact ⟨rs, h1.parts h2 (fun p hp => (h4 p hp).in_), h3, h4⟩
theorem OfPost.res {L : List (Int × Int)} {n k : Nat} {K : Int} {w : World} {e : Ending} {w' : World} (h : OfPost L n K k w e w') : TPost L K k w e w' := by
 obtain ⟨A, c, s, B, m, d, rfl, h1, h2, h3, h4, h5⟩ := h
 exact ⟨_, rfl, ⟨A, n, c, s, B, m, d, rfl, h1.res, h2, h3, h4⟩, h5⟩
/-- The parts that `of` makes. -/
def ofs (xs : List Int) : List (Int × Int) := xs.mapIdx fun i x => ((i : Int), x)
theorem ofs_get (xs : List Int) (q : Nat) (x : Int) (h : xs[q]? = some x) : (ofs xs)[q]? = some ((q : Int), x) := by simp [ofs, h]
theorem ofs_length (xs : List Int) : (ofs xs).length = xs.length := by simp [ofs]
end Go.Proofs.YtdeakieenppmiaaGreatDoor
