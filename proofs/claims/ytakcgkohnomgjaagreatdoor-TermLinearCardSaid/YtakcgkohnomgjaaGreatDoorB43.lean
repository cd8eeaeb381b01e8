/- Texts of one seat, put together: LHas. -/
import Derived.Test.YtakcgkohnomgjaaGreatDoorB29
import Derived.Test.YtakcgkohnomgjaaGreatDoorB42
set_option linter.unusedVariables false
/- plumblinelaw03.has. -/
namespace Go.Proofs.YtakcgkohnomgjaaGreatDoor
open Go.RowKit
open Tm

set_option maxRecDepth 100000 in
set_option maxHeartbeats 2000000 in
theorem lhas_yes (v u : Value) (L : List (Int × Int)) (K Z : Int) (k kj kz : Nat) (VA : Option Addr) (vn vc : Nat) (ivs : List IV) (w0 : World) (hv : TIn w0 v L K k) (hvs : ValsIn w0 VA vn ivs kj) (hu : ZIn w0 u Z kz) (hZ : Z = K + val (nums ivs) L)
    (hvn : vn ≤ 9223372036854775807) (hl : L.length ≤ 1099511) (hk : k ≤ 1099511627) (hkj : kj ≤ 1099511627) (hkz : kz ≤ 1099511627) : Calls Tryz.prog 29 #[v, .slice VA vn vc, u] w0 (YesPost w0) := by
  have hv0 := hv
  have hu0 := hu
  obtain ⟨A, n, c, s, B, m, d, rfl, -⟩ := hv
  obtain ⟨s2, B2, m2, d2, xs, rfl, -⟩ := hu
  obtain ⟨z0, z1, z2, -⟩ := bstart2 28 26 w0 #[.slice A n c, .bool s, .slice B m d] #[.bool s2, .slice B2 m2 d2]
  have z1 : Blk _ _ _ := z1
  go_enter Tryz.func29, Tryz.ntmps29
  go_wp2_with fail
  generalize hW0 : ((w0.alloc (.cells #[.slice A n c, .bool s, .slice B m d] 28)).alloc (.cells #[.bool s2, .slice B2 m2 d2] 26)) = W0 at *
  clear hW0
  have HVA := hide (fun W (h : Below W0.heap.size W0 W) => tvalue_any _ L K k kj VA vn vc ivs W ((hv0.below z2).below h) ((hvs.below z2).below h) hvn hl hk hkj)
  unfold ZPost at HVA
  have HCM := hide (fun W v (h : Below W0.heap.size W0 W) (z : ZRes W v (K + val (nums ivs) L) (k + kj + L.length)) => (show Calls Tryz.prog 40 #[v, .agg #[.bool s2, .slice B2 m2 d2]] W (fun e w' => e = .returned (.int .i64 0) ∧ Below W.heap.size W w') from by
    have h1 := rzcmp_z v (.agg #[.bool s2, .slice B2 m2 d2]) (K + val (nums ivs) L) Z (k + kj + L.length + kz) W (z.in_.mono (by omega)) (((hu0.below z2).below h).mono (by omega)) (by omega)
    unfold CmpZPost at h1
    rw [show sgn3 (K + val (nums ivs) L) Z = 0 from by rw [hZ]; exact cmpZ_zero.2 rfl] at h1
    exact h1))
  have SOF := hide (show ∀ W, Below W0.heap.size W0 W → (W.cell? ⟨w0.heap.size, 0, none⟩ = some (.slice A n c) ∧ W.cell? ⟨w0.heap.size, 1, none⟩ = some (.bool s) ∧ W.cell? ⟨w0.heap.size, 2, none⟩ = some (.slice B m d) ∧ W.cell? ⟨w0.heap.size + 1, 0, none⟩ = some (.bool s2) ∧ W.cell? ⟨w0.heap.size + 1, 1, none⟩ = some (.slice B2 m2 d2)) from fun W h => ⟨(z0.next h).c0, (z0.next h).c1, (z0.next h).c2, (z1.next h).c0, (z1.next h).c1⟩)
  have T0 := hide z2
  clear z0 z1 z2 hv0 hu0 hvs hZ
  refine wp_drawn (by kernel_rfl) (by kernel_rfl) (by kernel_rfl) (fun w w' => Below w.heap.size w w') (fun j v w => match j with | 0 => v = .agg #[.slice A n c, .bool s, .slice B m d] | 1 => v = .slice VA vn vc | 2 => ZRes w v (K + val (nums ivs) L) (k + kj + L.length) | 3 => v = .agg #[.bool s2, .slice B2 m2 d2] | 4 => v = .int .i64 0 | 5 => v = .bool true | 6 => v = .bool true | _ => True) (fun _ _ w => Below W0.heap.size W0 w) ?_ (fun _ => bl_drewN W0 1) ?_ ?_
  · intro j v w w' hT h
    match j, h with
    | 0, h => exact h
    | 1, h => exact h
    | 2, h => exact h.below hT
    | 3, h => exact h
    | 4, h => exact h
    | 5, h => exact h
    | 6, h => exact h
    | j + 7, h => trivial
  · refine ⟨?_, ?_, ?_, ?_, ?_, ?_, ?_, trivial⟩
    · intro listed σ w a hin hout hl hc hp hG hF
      refine Guarded.none rfl ?_
      have e3 : a.tmps.getD 3 undef = .pointer (some ⟨w0.heap.size, 0, none⟩) := hout 3 (outB_spec (by kernel_rfl))
      have CC := SOF.out w hG; obtain ⟨C0, C1, C2, D0, D1⟩ := CC
      refine Does.val (.agg #[.slice A n c, .bool s, .slice B m d]) (w' := w) ?_ ⟨Below.refl _ _, rfl, hG⟩
      go_simp
    · intro listed σ w a hin hout hl hc hp hG hF
      refine Guarded.none rfl ?_
      have e1 : a.tmps.getD 1 undef = .slice VA vn vc := hout 1 (outB_spec (by kernel_rfl))
      refine Does.val (.slice VA vn vc) (w' := w) ?_ ⟨Below.refl _ _, rfl, hG⟩
      simp only [Array.getD_eq_getD_getElem?] at e1
      go_simp
    · intro listed σ w a hin hout hl hc hp hG hF
      refine Guarded.none rfl ?_
      have e7 : a.tmps.getD 7 undef = .agg #[.slice A n c, .bool s, .slice B m d] := (hin 0 7 rfl (hp ⟨0, .data⟩ (by simp) rfl)).trans (hF 0 (hp ⟨0, .data⟩ (by simp) rfl))
      have e8 : a.tmps.getD 8 undef = .slice VA vn vc := (hin 1 8 rfl (hp ⟨1, .data⟩ (by simp) rfl)).trans (hF 1 (hp ⟨1, .data⟩ (by simp) rfl))
      refine Does.call ?_ (HVA.out w hG) ?_
      · go_simp
      · rintro e w' ⟨v, rfl, z, hb⟩
        exact ⟨_, rfl, hb, z, hG.next hb⟩
    · intro listed σ w a hin hout hl hc hp hG hF
      refine Guarded.none rfl ?_
      have e5 : a.tmps.getD 5 undef = .pointer (some ⟨w0.heap.size + 1, 0, none⟩) := hout 5 (outB_spec (by kernel_rfl))
      have CC := SOF.out w hG; obtain ⟨C0, C1, C2, D0, D1⟩ := CC
      refine Does.val (.agg #[.bool s2, .slice B2 m2 d2]) (w' := w) ?_ ⟨Below.refl _ _, rfl, hG⟩
      go_simp
    · intro listed σ w a hin hout hl hc hp hG hF
      refine Guarded.none rfl ?_
      have e9 := hin 2 9 rfl (hp ⟨2, .data⟩ (by simp) rfl)
      have z2 := hF 2 (hp ⟨2, .data⟩ (by simp) rfl)
      have e10 : a.tmps.getD 10 undef = .agg #[.bool s2, .slice B2 m2 d2] := (hin 3 10 rfl (hp ⟨3, .data⟩ (by simp) rfl)).trans (hF 3 (hp ⟨3, .data⟩ (by simp) rfl))
      refine Does.call ?_ (HCM.out w _ hG z2) ?_
      · go_simp
      · rintro e w' ⟨rfl, hb⟩
        exact ⟨_, rfl, hb, rfl, hG.next hb⟩
    · intro listed σ w a hin hout hl hc hp hG hF
      refine Guarded.none rfl ?_
      have e11 : a.tmps.getD 11 undef = .int .i64 0 := (hin 4 11 rfl (hp ⟨4, .data⟩ (by simp) rfl)).trans (hF 4 (hp ⟨4, .data⟩ (by simp) rfl))
      refine Does.val (.bool true) (w' := w) ?_ ⟨Below.refl _ _, rfl, hG⟩
      simp only [Array.getD_eq_getD_getElem?] at e11
      go_simp
    · intro listed σ w a hin hout hl hc hp hG hF
      refine Guarded.none rfl ?_
      have e12 : a.tmps.getD 12 undef = .bool true := (hin 5 12 rfl (hp ⟨5, .data⟩ (by simp) rfl)).trans (hF 5 (hp ⟨5, .data⟩ (by simp) rfl))
      refine Does.val (.bool true) (w' := w) ?_ ⟨Below.refl _ _, rfl, hG⟩
      simp only [Array.getD_eq_getD_getElem?] at e12
      go_simp
  · intro listed σ W9 hall hG hF
    rw [show mid _ σ listed _ = (Act.put (Act.put (Act.put (Act.put (Act.put (Act.put (Act.put _ (some 7) (σ 0)) (some 8) (σ 1)) (some 9) (σ 2)) (some 10) (σ 3)) (some 11) (σ 4)) (some 12) (σ 5)) (some 6) (σ 6)) from (mid_all hall).trans rfl]
    generalize σ 0 = tt0
    generalize σ 1 = tt1
    generalize σ 2 = tt2
    generalize σ 3 = tt3
    generalize σ 4 = tt4
    generalize σ 5 = tt5
    rw [show σ 6 = .bool true from hF 6 (by decide)]
    simp only [Act.put, List.setIfInBounds_toArray, List.set_cons_zero, List.set_cons_succ]
    have TG := hG
    clear hF hG hall
    clear σ
    have HT := hide (T0.out.next TG)
    clear TG SOF HVA HCM
    go_wp2_with fail
    go_ret
    exact ⟨rfl, HT.out⟩
end Go.Proofs.YtakcgkohnomgjaaGreatDoor
