/- Texts of one seat, put together: RLcmZ. -/
import Derived.Test.YtlihnagfmfpdcaaB30
import Derived.Test.YtlihnagfmfpdcaaB35
/- plumblineref02.Lcm. -/
namespace Go.Proofs.Ytlihnagfmfpdcaa
open Go.RowKit

set_option maxHeartbeats 1000000 in
theorem rlcm_zero (v u : Value) (Z Y : Int) (k : Nat) (w : World) (hv : ZIn w v Z k) (hu : ZIn w u Y k) (hk : k ≤ 68719476736) (h : Z = 0 ∨ Y = 0) : Calls Try.prog 31 #[v, u] w (ZPost 0 (k + k) w) := by
  have hv0 := hv
  have hu0 := hu
  obtain ⟨s, A, n, c, xs, rfl, -⟩ := hv
  obtain ⟨t, B, m, d, ys, rfl, -⟩ := hu
  obtain ⟨x0, y0, r0, z2, -⟩ := zstart3 w #[.bool s, .slice A n c] #[.bool t, .slice B m d] #[.bool false, .slice none 0 0]
  have HSX := hide (fun W (hb : Below w.heap.size w W) => rsign_z _ Z k W (hv0.below hb) (by omega))
  have HSY := hide (fun W (hb : Below w.heap.size w W) => rsign_z _ Y k W (hu0.below hb) (by omega))
  unfold RSignPost at HSX HSY
  by_cases hz : Z = 0
  · have e1 : Z.sign = 0 := by rw [hz]; rfl
    rw [e1] at HSX
    clear e1 hz h
    go_enter Try.func31, Try.ntmps31
    go_wp2_with fail
    refine (HSX.out _ z2).mono ?_
    rintro e w1 ⟨rfl, b1⟩
    have k1 := hide (r0.next b1)
    have t1 := hide (z2.next b1)
    go_wp2_with (with_reducible refine wpList_store_z rfl _ _ rfl (w.heap.size + 1 + 1) _ _ _ _ rfl rfl _ _ k1.out ?_; intro w3 k3 ho3)
    exact bodyPost_z rfl rfl k3 rfl ⟨_, rfl, ZRes.zero _ _, zback t1.out (by omega) ho3⟩
  · have e1 : Y.sign = 0 := by rw [h.resolve_left hz]; rfl
    have e2 : (Z.sign == 0) = false := sign_ne hz
    rw [e1] at HSY
    generalize Z.sign = q at *
    clear e1 hz h
    go_enter Try.func31, Try.ntmps31
    go_wp2_with fail
    refine (HSX.out _ z2).mono ?_
    rintro e w1 ⟨rfl, b1⟩
    have y1 := y0.next b1
    have y1a := y1.c0
    have y1b := y1.c1
    have r1 := r0.next b1
    have t1 := z2.next b1
    go_wp2_with fail
    refine (HSY.out _ t1).mono ?_
    rintro e w2 ⟨rfl, b2⟩
    have k2 := hide (r1.next b2)
    have t2 := hide (t1.next b2)
    clear y1a y1b
    go_wp2_with (with_reducible refine wpList_store_z rfl _ _ rfl (w.heap.size + 1 + 1) _ _ _ _ rfl rfl _ _ k2.out ?_; intro w3 k3 ho3)
    exact bodyPost_z rfl rfl k3 rfl ⟨_, rfl, ZRes.zero _ _, zback t2.out (by omega) ho3⟩
theorem lcm_fdiv {Z Y : Int} (h : ¬ (Z = 0 ∨ Y = 0)) : ((Z.natAbs : Int) * (Y.natAbs : Int)).fdiv (gcdZ Z Y) = lcmZ Z Y := by
  have hg : Nat.gcd Z.natAbs Y.natAbs ≠ 0 := fun h0 => h (Or.inl (Int.natAbs_eq_zero.1 (Nat.eq_zero_of_gcd_eq_zero_left h0)))
  rw [lcmZ_pos h]
  unfold gcdZ
  rw [← Int.natCast_mul, (nat_fdiv _ _ hg).1]
  obtain ⟨q, hq⟩ := Nat.gcd_dvd_left Z.natAbs Y.natAbs
  generalize Nat.gcd Z.natAbs Y.natAbs = g at *
  rw [hq, Nat.mul_assoc, Nat.mul_div_cancel_left _ (Nat.pos_of_ne_zero hg), Nat.mul_div_cancel_left _ (Nat.pos_of_ne_zero hg)]
set_option maxRecDepth 100000 in
set_option maxHeartbeats 4000000 in
theorem rlcm_pos (v u : Value) (Z Y : Int) (k : Nat) (w0 : World) (hv : ZIn w0 v Z k) (hu : ZIn w0 u Y k) (hk : k ≤ 6871947) (h : ¬ (Z = 0 ∨ Y = 0)) : Calls Try.prog 31 #[v, u] w0 (ZPost (lcmZ Z Y) (k + k) w0) := by
  have hv0 := hv
  have hu0 := hu
  obtain ⟨s, A, n, c, xs, rfl, -⟩ := hv
  obtain ⟨t, B, m, d, ys, rfl, -⟩ := hu
  obtain ⟨x0, y0, r0, z2, -⟩ := zstart3 w0 #[.bool s, .slice A n c] #[.bool t, .slice B m d] #[.bool false, .slice none 0 0]
  have HSX := hide (fun W (hb : Below w0.heap.size w0 W) => rsign_z _ Z k W (hv0.below hb) (by omega))
  have HSY := hide (fun W (hb : Below w0.heap.size w0 W) => rsign_z _ Y k W (hu0.below hb) (by omega))
  unfold RSignPost at HSX HSY
  have hzs : (Z.sign == 0) = false := sign_ne (fun h0 => h (Or.inl h0))
  have hys : (Y.sign == 0) = false := sign_ne (fun h0 => h (Or.inr h0))
  have hL := hide (lcm_fdiv h)
  have hg0 := hide (show gcdZ Z Y ≠ 0 from fun e => h (Or.inl (by
    have h1 : Nat.gcd Z.natAbs Y.natAbs = 0 := by unfold gcdZ at e; omega
    exact Int.natAbs_eq_zero.1 (Nat.eq_zero_of_gcd_eq_zero_left h1))))
  generalize Z.sign = zs at *
  generalize Y.sign = ysn at *
  clear h
  go_enter Try.func31, Try.ntmps31
  go_wp2_with fail
  refine (HSX.out _ z2).mono ?_
  rintro e w1 ⟨rfl, b1⟩
  have y1 := y0.next b1
  have y1a := y1.c0
  have y1b := y1.c1
  have x1 := x0.next b1
  have r1 := r0.next b1
  have t1 := z2.next b1
  go_wp2_with fail
  refine (HSY.out _ t1).mono ?_
  rintro e W6 ⟨rfl, b2⟩
  have x2 := x1.next b2
  have y2 := y1.next b2
  have r2 := r1.next b2
  have t2 := t1.next b2
  clear y1a y1b x0 y0 r0 z2 x1 y1 r1 t1 hzs b1 b2 HSX HSY
  go_wp2_with fail
  clear hys
  have v6 := hv0.below t2
  have u6 := hu0.below t2
  have HAX := hide (fun W (h : Below W6.heap.size W6 W) => rabs_z _ Z k W (v6.below h) (by omega))
  have HAY := hide (fun W (h : Below W6.heap.size W6 W) => rabs_z _ Y k W (u6.below h) (by omega))
  have HM := hide (fun W v1 v3 (_ : Below W6.heap.size W6 W) (h1 : ZRes W v1 (Z.natAbs : Int) k) (h3 : ZRes W v3 (Y.natAbs : Int) k) => rzmul_z v1 v3 _ _ k k W h1.in_ h3.in_ (by omega) (by omega))
  have HG := hide (fun W (h : Below W6.heap.size W6 W) => rgcd_z _ _ Z Y k W (v6.below h) (u6.below h) (by omega))
  have HD := hide (fun W v4 v7 (_ : Below W6.heap.size W6 W) (h4 : ZRes W v4 ((Z.natAbs : Int) * (Y.natAbs : Int)) (k + k)) (h7 : ZRes W v7 (gcdZ Z Y) k) => rzdiv_yes v4 v7 _ _ (k + k) k W h4.in_ h7.in_ hg0.out (by omega) (by omega))
  unfold DivZYes at HD
  have SOF := hide (show ∀ W, Below W6.heap.size W6 W → (Below W6.heap.size W6 W ∧ W.cell? ⟨w0.heap.size, 0, none⟩ = some (.bool s) ∧ W.cell? ⟨w0.heap.size, 1, none⟩ = some (.slice A n c) ∧ W.cell? ⟨w0.heap.size + 1, 0, none⟩ = some (.bool t) ∧ W.cell? ⟨w0.heap.size + 1, 1, none⟩ = some (.slice B m d)) from
    fun W h => ⟨h, (x2.next h).c0, (x2.next h).c1, (y2.next h).c0, (y2.next h).c1⟩)
  have hr := hide r2
  have ht := hide t2
  clear v6 u6 x2 y2 r2 t2
  refine wp_region_facts (by kernel_rfl) (by kernel_rfl) (by kernel_rfl) (fun w w' => ∀ v Z k, ZRes w v Z k → ZRes w' v Z k) (fun j v w => match j with | 0 => v = .agg #[.bool s, .slice A n c] | 1 => ZRes w v (Z.natAbs : Int) k | 2 => v = .agg #[.bool t, .slice B m d] | 3 => ZRes w v (Y.natAbs : Int) k | 4 => ZRes w v ((Z.natAbs : Int) * (Y.natAbs : Int)) (k + k) | 5 => v = .agg #[.bool s, .slice A n c] | 6 => v = .agg #[.bool t, .slice B m d] | 7 => ZRes w v (gcdZ Z Y) k | 8 => ∃ x y, v = .tuple #[x, y, .int .i64 0] ∧ ZRes w x (((Z.natAbs : Int) * (Y.natAbs : Int)).fdiv (gcdZ Z Y)) (k + k) ∧ ZRes w y (((Z.natAbs : Int) * (Y.natAbs : Int)).fmod (gcdZ Z Y)) k | 9 => ∃ x y, v = .tuple #[x, y, .int .i64 0] ∧ ZRes w x (((Z.natAbs : Int) * (Y.natAbs : Int)).fdiv (gcdZ Z Y)) (k + k) ∧ ZRes w y (((Z.natAbs : Int) * (Y.natAbs : Int)).fmod (gcdZ Z Y)) k | 10 => ZRes w v (((Z.natAbs : Int) * (Y.natAbs : Int)).fdiv (gcdZ Z Y)) (k + k) | 11 => ZRes w v (((Z.natAbs : Int) * (Y.natAbs : Int)).fmod (gcdZ Z Y)) k | 12 => v = .int .i64 0 | 17 => v = .int .i64 0 | _ => True) (GZ W6 [⟨13, 15, (((Z.natAbs : Int) * (Y.natAbs : Int)).fdiv (gcdZ Z Y)), (k + k)⟩, ⟨14, 16, (((Z.natAbs : Int) * (Y.natAbs : Int)).fmod (gcdZ Z Y)), k⟩]) ?_ (fun σ => GZ.start) ?_ ?_
  · intro j v w w' hT h
    match j, h with
    | 0, h => exact h
    | 1, h => exact hT _ _ _ h
    | 2, h => exact h
    | 3, h => exact hT _ _ _ h
    | 4, h => exact hT _ _ _ h
    | 5, h => exact h
    | 6, h => exact h
    | 7, h => exact hT _ _ _ h
    | 8, ⟨x, y, e, h1, h2⟩ => exact ⟨x, y, e, hT _ _ _ h1, hT _ _ _ h2⟩
    | 9, ⟨x, y, e, h1, h2⟩ => exact ⟨x, y, e, hT _ _ _ h1, hT _ _ _ h2⟩
    | 10, h => exact hT _ _ _ h
    | 11, h => exact hT _ _ _ h
    | 12, h => exact h
    | 13, h => trivial
    | 14, h => trivial
    | 15, h => trivial
    | 16, h => trivial
    | 17, h => exact h
    | j + 18, h => trivial
  · refine ⟨?_, ?_, ?_, ?_, ?_, ?_, ?_, ?_, ?_, ?_, ?_, ?_, ?_, ?_, ?_, ?_, ?_, ?_, trivial⟩
    · intro listed σ w a hin hout hl hc hp hG hF
      refine Guarded.none rfl ?_
      have e2 : a.tmps.getD 2 undef = .pointer (some ⟨w0.heap.size, 0, none⟩) := hout 2 (by kernel_rfl)
      obtain ⟨-, H0, H1, H2, H3⟩ := SOF.out w hG.old
      refine Does.val (.agg #[.bool s, .slice A n c]) (w' := w) ?_ ⟨fun _ _ _ h => h, rfl, hG.same (by rfl)⟩
      go_simp
    · intro listed σ w a hin hout hl hc hp hG hF
      refine Guarded.none rfl ?_
      have e18 : a.tmps.getD 18 undef = .agg #[.bool s, .slice A n c] := (hin 0 18 rfl (hp ⟨0, .data⟩ (by simp) rfl)).trans (hF 0 (hp ⟨0, .data⟩ (by simp) rfl))
      refine Does.call ?_ (HAX.out w hG.old) ?_
      · go_simp
      · rintro e w' ⟨v, rfl, z, hb⟩
        exact ⟨v, rfl, fun _ _ _ h => h.below hb, z, hG.keep (by rfl) hb⟩
    · intro listed σ w a hin hout hl hc hp hG hF
      refine Guarded.none rfl ?_
      have e3 : a.tmps.getD 3 undef = .pointer (some ⟨w0.heap.size + 1, 0, none⟩) := hout 3 (by kernel_rfl)
      obtain ⟨-, H0, H1, H2, H3⟩ := SOF.out w hG.old
      refine Does.val (.agg #[.bool t, .slice B m d]) (w' := w) ?_ ⟨fun _ _ _ h => h, rfl, hG.same (by rfl)⟩
      go_simp
    · intro listed σ w a hin hout hl hc hp hG hF
      refine Guarded.none rfl ?_
      have e20 : a.tmps.getD 20 undef = .agg #[.bool t, .slice B m d] := (hin 2 20 rfl (hp ⟨2, .data⟩ (by simp) rfl)).trans (hF 2 (hp ⟨2, .data⟩ (by simp) rfl))
      refine Does.call ?_ (HAY.out w hG.old) ?_
      · go_simp
      · rintro e w' ⟨v, rfl, z, hb⟩
        exact ⟨v, rfl, fun _ _ _ h => h.below hb, z, hG.keep (by rfl) hb⟩
    · intro listed σ w a hin hout hl hc hp hG hF
      refine Guarded.none rfl ?_
      have e19 := hin 1 19 rfl (hp ⟨1, .data⟩ (by simp) rfl)
      have z1 : ZRes w (σ 1) _ _ := hF 1 (hp ⟨1, .data⟩ (by simp) rfl)
      have e21 := hin 3 21 rfl (hp ⟨3, .data⟩ (by simp) rfl)
      have z3 : ZRes w (σ 3) _ _ := hF 3 (hp ⟨3, .data⟩ (by simp) rfl)
      generalize σ 1 = vv1 at *
      generalize σ 3 = vv3 at *
      refine Does.call ?_ (HM.out w vv1 vv3 hG.old z1 z3) ?_
      · go_simp
      · rintro e w' ⟨v, rfl, z, hb⟩
        exact ⟨v, rfl, fun _ _ _ h => h.below hb, z, hG.keep (by rfl) hb⟩
    · intro listed σ w a hin hout hl hc hp hG hF
      refine Guarded.none rfl ?_
      have e2 : a.tmps.getD 2 undef = .pointer (some ⟨w0.heap.size, 0, none⟩) := hout 2 (by kernel_rfl)
      obtain ⟨-, H0, H1, H2, H3⟩ := SOF.out w hG.old
      refine Does.val (.agg #[.bool s, .slice A n c]) (w' := w) ?_ ⟨fun _ _ _ h => h, rfl, hG.same (by rfl)⟩
      go_simp
    · intro listed σ w a hin hout hl hc hp hG hF
      refine Guarded.none rfl ?_
      have e3 : a.tmps.getD 3 undef = .pointer (some ⟨w0.heap.size + 1, 0, none⟩) := hout 3 (by kernel_rfl)
      obtain ⟨-, H0, H1, H2, H3⟩ := SOF.out w hG.old
      refine Does.val (.agg #[.bool t, .slice B m d]) (w' := w) ?_ ⟨fun _ _ _ h => h, rfl, hG.same (by rfl)⟩
      go_simp
    · intro listed σ w a hin hout hl hc hp hG hF
      refine Guarded.none rfl ?_
      have e23 : a.tmps.getD 23 undef = .agg #[.bool s, .slice A n c] := (hin 5 23 rfl (hp ⟨5, .data⟩ (by simp) rfl)).trans (hF 5 (hp ⟨5, .data⟩ (by simp) rfl))
      have e24 : a.tmps.getD 24 undef = .agg #[.bool t, .slice B m d] := (hin 6 24 rfl (hp ⟨6, .data⟩ (by simp) rfl)).trans (hF 6 (hp ⟨6, .data⟩ (by simp) rfl))
      refine Does.call ?_ (HG.out w hG.old) ?_
      · go_simp
      · rintro e w' ⟨v, rfl, z, hb⟩
        exact ⟨v, rfl, fun _ _ _ h => h.below hb, z, hG.keep (by rfl) hb⟩
    · intro listed σ w a hin hout hl hc hp hG hF
      refine Guarded.none rfl ?_
      have e22 := hin 4 22 rfl (hp ⟨4, .data⟩ (by simp) rfl)
      have z4 : ZRes w (σ 4) _ _ := hF 4 (hp ⟨4, .data⟩ (by simp) rfl)
      have e25 := hin 7 25 rfl (hp ⟨7, .data⟩ (by simp) rfl)
      have z7 : ZRes w (σ 7) _ _ := hF 7 (hp ⟨7, .data⟩ (by simp) rfl)
      generalize σ 4 = v4 at *
      generalize σ 7 = v7 at *
      refine Does.call ?_ (HD.out w v4 v7 hG.old z4 z7) ?_
      · go_simp
      · rintro e w' ⟨x, y, rfl, z1, z2, hb⟩
        exact ⟨_, rfl, fun _ _ _ h => h.below hb, ⟨x, y, rfl, z1, z2⟩, hG.keep (by rfl) hb⟩
    · intro listed σ w a hin hout hl hc hp hG hF
      refine Guarded.none rfl ?_
      have e26 := hin 8 26 rfl (hp ⟨8, .data⟩ (by simp) rfl)
      obtain ⟨x8, y8, ev8, zx8, zy8⟩ := hF 8 (hp ⟨8, .data⟩ (by simp) rfl)
      rw [ev8] at e26
      refine Does.val (.tuple #[x8, y8, .int .i64 0]) (w' := w) ?_ ⟨fun _ _ _ h => h, ⟨x8, y8, rfl, zx8, zy8⟩, hG.same (by rfl)⟩
      simp only [Array.getD_eq_getD_getElem?] at e26
      go_simp
    · intro listed σ w a hin hout hl hc hp hG hF
      refine Guarded.none rfl ?_
      have e17 := hin 9 17 rfl (hp ⟨9, .data⟩ (by simp) rfl)
      obtain ⟨x9, y9, ev9, zx9, zy9⟩ := hF 9 (hp ⟨9, .data⟩ (by simp) rfl)
      rw [ev9] at e17
      refine Does.val x9 (w' := w) ?_ ⟨fun _ _ _ h => h, zx9, hG.same (by rfl)⟩
      simp only [Array.getD_eq_getD_getElem?] at e17
      go_simp
    · intro listed σ w a hin hout hl hc hp hG hF
      refine Guarded.none rfl ?_
      have e17 := hin 9 17 rfl (hp ⟨9, .data⟩ (by simp) rfl)
      obtain ⟨x9, y9, ev9, zx9, zy9⟩ := hF 9 (hp ⟨9, .data⟩ (by simp) rfl)
      rw [ev9] at e17
      refine Does.val y9 (w' := w) ?_ ⟨fun _ _ _ h => h, zy9, hG.same (by rfl)⟩
      simp only [Array.getD_eq_getD_getElem?] at e17
      go_simp
    · intro listed σ w a hin hout hl hc hp hG hF
      refine Guarded.none rfl ?_
      have e17 := hin 9 17 rfl (hp ⟨9, .data⟩ (by simp) rfl)
      obtain ⟨x9, y9, ev9, zx9, zy9⟩ := hF 9 (hp ⟨9, .data⟩ (by simp) rfl)
      rw [ev9] at e17
      refine Does.val (.int .i64 0) (w' := w) ?_ ⟨fun _ _ _ h => h, rfl, hG.same (by rfl)⟩
      simp only [Array.getD_eq_getD_getElem?] at e17
      go_simp
    · intro listed σ w a hin hout hl hc hp hG hF
      refine Guarded.none rfl ?_
      refine Does.val (.pointer (some ⟨w.heap.size, 0, none⟩)) (w' := w.alloc (.cells #[.bool false, .slice none 0 0] 38)) ?_ ⟨fun _ _ _ h => h.alloc _, trivial, hG.made (by rfl) (List.Mem.head _) rfl ?_⟩
      · go_simp
      · intro q hq hqe
        have hun : listed.getD 15 false = false := closed_un (k := 15) hc hl (by kernel_rfl)
        simp only [List.mem_cons, List.not_mem_nil, or_false] at hq
        rcases hq with rfl | rfl <;> first | exact hun | (simp at hqe)
    · intro listed σ w a hin hout hl hc hp hG hF
      refine Guarded.none rfl ?_
      refine Does.val (.pointer (some ⟨w.heap.size, 0, none⟩)) (w' := w.alloc (.cells #[.bool false, .slice none 0 0] 38)) ?_ ⟨fun _ _ _ h => h.alloc _, trivial, hG.made (by rfl) (List.Mem.tail _ (List.Mem.head _)) rfl ?_⟩
      · go_simp
      · intro q hq hqe
        have hun : listed.getD 16 false = false := closed_un (k := 16) hc hl (by kernel_rfl)
        simp only [List.mem_cons, List.not_mem_nil, or_false] at hq
        rcases hq with rfl | rfl <;> first | exact hun | (simp at hqe)
    · intro listed σ w a hin hout hl hc hp hG hF
      refine Guarded.none rfl ?_
      obtain ⟨g, eg, -, -, -, -⟩ := hG.at_ (List.Mem.head _) (hp ⟨13, .data⟩ (by simp) rfl)
      have e5 := (hin 13 5 rfl (hp ⟨13, .data⟩ (by simp) rfl)).trans eg
      have e27 := hin 10 27 rfl (hp ⟨10, .data⟩ (by simp) rfl)
      have z10 : ZRes w (σ 10) _ _ := hF 10 (hp ⟨10, .data⟩ (by simp) rfl)
      obtain ⟨s8, A8, n8, c8, ev8⟩ := z10.form
      rw [ev8] at e27 z10
      obtain ⟨hB, hG2⟩ := hG.filled (v := undef) (by rfl) (List.Mem.head _) rfl (hp ⟨13, .data⟩ (by simp) rfl) hl eg z10 (fun q hq hqe => by
        simp only [List.mem_cons, List.not_mem_nil, or_false] at hq
        rcases hq with rfl | rfl <;> first | rfl | (simp at hqe))
      have q0 := hB.c0; have q1 := hB.c1; have f0 := hB.fr 0; have f1 := hB.fr 1
      refine Does.skip (w' := st2 w g (.bool s8) (.slice A8 n8 c8)) ?_ ⟨fun _ _ _ h => h.st hB, trivial, hG2⟩
      go_simp
      rfl
    · intro listed σ w a hin hout hl hc hp hG hF
      refine Guarded.none rfl ?_
      obtain ⟨g, eg, -, -, -, -⟩ := hG.at_ (List.Mem.tail _ (List.Mem.head _)) (hp ⟨14, .data⟩ (by simp) rfl)
      have e6 := (hin 14 6 rfl (hp ⟨14, .data⟩ (by simp) rfl)).trans eg
      have e28 := hin 11 28 rfl (hp ⟨11, .data⟩ (by simp) rfl)
      have z11 : ZRes w (σ 11) _ _ := hF 11 (hp ⟨11, .data⟩ (by simp) rfl)
      obtain ⟨s8, A8, n8, c8, ev8⟩ := z11.form
      rw [ev8] at e28 z11
      obtain ⟨hB, hG2⟩ := hG.filled (v := undef) (by rfl) (List.Mem.tail _ (List.Mem.head _)) rfl (hp ⟨14, .data⟩ (by simp) rfl) hl eg z11 (fun q hq hqe => by
        simp only [List.mem_cons, List.not_mem_nil, or_false] at hq
        rcases hq with rfl | rfl <;> first | rfl | (simp at hqe))
      have q0 := hB.c0; have q1 := hB.c1; have f0 := hB.fr 0; have f1 := hB.fr 1
      refine Does.skip (w' := st2 w g (.bool s8) (.slice A8 n8 c8)) ?_ ⟨fun _ _ _ h => h.st hB, trivial, hG2⟩
      go_simp
      rfl
    · intro listed σ w a hin hout hl hc hp hG hF
      refine Guarded.none rfl ?_
      have e29 := hin 12 29 rfl (hp ⟨12, .data⟩ (by simp) rfl)
      obtain ev12 := hF 12 (hp ⟨12, .data⟩ (by simp) rfl)
      rw [ev12] at e29
      refine Does.val (.int .i64 0) (w' := w) ?_ ⟨fun _ _ _ h => h, rfl, hG.same (by rfl)⟩
      simp only [Array.getD_eq_getD_getElem?] at e29
      go_simp
  · intro listed σ W9 hall hG hF
    rw [show mid _ σ listed _ = (Act.put (Act.put (Act.put (Act.put (Act.put (Act.put (Act.put (Act.put (Act.put (Act.put (Act.put (Act.put (Act.put (Act.put (Act.put (Act.put (Act.put (Act.put _ (some 18) (σ 0)) (some 19) (σ 1)) (some 20) (σ 2)) (some 21) (σ 3)) (some 22) (σ 4)) (some 23) (σ 5)) (some 24) (σ 6)) (some 25) (σ 7)) (some 26) (σ 8)) (some 17) (σ 9)) (some 27) (σ 10)) (some 28) (σ 11)) (some 29) (σ 12)) (some 5) (σ 13)) (some 6) (σ 14)) none (σ 15)) none (σ 16)) (some 7) (σ 17)) from (mid_all hall).trans rfl]
    obtain ⟨gB0, eB0, hB0, -, -, hfull0⟩ := hG.at_ (List.Mem.head _) (hall 13 (by show 13 < 18; omega))
    have hZ0 := hfull0 (hall 15 (by show 15 < 18; omega))
    obtain ⟨gB1, eB1, hB1, -, -, hfull1⟩ := hG.at_ (List.Mem.tail _ (List.Mem.head _)) (hall 14 (by show 14 < 18; omega))
    have hZ1 := hfull1 (hall 16 (by show 16 < 18; omega))
    have hN01 : gB0 ≠ gB1 := fun e => hG.2.2 _ (List.Mem.head _) _ (List.Mem.tail _ (List.Mem.head _)) (by simp) (hall 13 (by show 13 < 18; omega)) (hall 14 (by show 14 < 18; omega)) (by show σ 13 = σ 14; rw [eB0, eB1, e])
    rw [eB0]
    rw [eB1]
    simp only [Act.put, List.setIfInBounds_toArray, List.set_cons_zero, List.set_cons_succ]
    have TG := hG.old
    clear hF hG hall hfull0 eB0 hfull1 eB1
    generalize σ 0 = tt0
    generalize σ 1 = tt1
    generalize σ 2 = tt2
    generalize σ 3 = tt3
    generalize σ 4 = tt4
    generalize σ 5 = tt5
    generalize σ 6 = tt6
    generalize σ 7 = tt7
    generalize σ 8 = tt8
    generalize σ 9 = tt9
    generalize σ 10 = tt10
    generalize σ 11 = tt11
    generalize σ 12 = tt12
    generalize σ 17 = tt17
    clear σ
    obtain ⟨s9, A9, n9, c9, hBq, zq⟩ := hZ0
    have R9 := hr.out.next TG
    have hrB : w0.heap.size + 1 + 1 < W6.heap.size := hr.out.lt
    have T9 := ht.out.next TG
    have q0 := hBq.c0
    have q1 := hBq.c1
    have HQ := hide zq
    have HR := hide R9
    have HT := hide T9
    clear zq R9 T9 TG hZ1 HAX HAY HM HG HD SOF
    go_wp2_with (with_reducible refine wpList_store_z rfl _ _ rfl (w0.heap.size + 1 + 1) _ _ _ _ rfl rfl _ _ HR.out ?_; intro w8 k8 ho8)
    exact bodyPost_z rfl rfl k8 rfl ⟨_, rfl, (HQ.out.only HR.out ho8).ofEq hL.out, zback HT.out (by omega) ho8⟩
theorem rlcm_z (v u : Value) (Z Y : Int) (k : Nat) (w : World) (hv : ZIn w v Z k) (hu : ZIn w u Y k) (hk : k ≤ 6871947) : Calls Try.prog 31 #[v, u] w (ZPost (lcmZ Z Y) (k + k) w) := by
  by_cases h : Z = 0 ∨ Y = 0
  · rw [lcmZ_zero h]; exact rlcm_zero v u Z Y k w hv hu (by omega) h
  · exact rlcm_pos v u Z Y k w hv hu hk h
end Go.Proofs.Ytlihnagfmfpdcaa
