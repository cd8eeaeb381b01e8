/- plumblineref02: Exact, Hat. -/
import Derived.Test.YtheljeioibpooaaRDivZ
namespace Go.Proofs.Ytheljeioibpooaa
open Go.RowKit

set_option maxHeartbeats 1000000 in
theorem rexact_no (v u : Value) (Z : Int) (k j : Nat) (w : World) (hv : ZIn w v Z k) (hu : ZIn w u 0 j) (hj : j ≤ 68719476) : Calls Try.prog 50 #[v, u] w (ZErr 10 w) := by
  have hv0 := hv
  have hu0 := hu
  obtain ⟨s, A, n, c, xs, rfl, -⟩ := hv
  obtain ⟨t, B, m, d, ys, rfl, -⟩ := hu
  obtain ⟨x0, y0, r0, z2, -⟩ := zstart3 w #[.bool s, .slice A n c] #[.bool t, .slice B m d] #[.bool false, .slice none 0 0]
  have hd := rzdiv_no _ _ Z k j _ (hv0.below z2) (hu0.below z2) (by omega)
  go_enter Try.func50, Try.ntmps50
  go_wp2_with fail
  refine hd.mono ?_
  rintro e w1 ⟨rfl, b1⟩
  obtain ⟨q2, p2, t2⟩ := two_made w1 #[.bool false, .slice none 0 0] #[.bool false, .slice none 0 0]
  have k2 := hide ((r0.next b1).next t2)
  have t3 := hide ((z2.next b1).next t2)
  clear q2 p2 t2 hd
  go_wp2_with (with_reducible refine wpList_store_z rfl _ _ rfl (w.heap.size + 1 + 1) _ _ _ _ rfl rfl _ _ k2.out ?_; intro w3 k3 ho3)
  exact bodyPost_ze rfl rfl rfl k3 rfl ⟨rfl, zback t3.out (by omega) ho3⟩
set_option maxHeartbeats 2000000 in
theorem rexact_odd (v u : Value) (Z Y : Int) (k j : Nat) (w : World) (hv : ZIn w v Z k) (hu : ZIn w u Y j) (hY : Y ≠ 0) (hk : k ≤ 68719476) (hj : j ≤ 68719476) (h0 : Z.fmod Y ≠ 0) : Calls Try.prog 50 #[v, u] w (ZErr 1 w) := by
  have hv0 := hv
  have hu0 := hu
  obtain ⟨s, A, n, c, xs, rfl, -⟩ := hv
  obtain ⟨t, B, m, d, ys, rfl, -⟩ := hu
  obtain ⟨x0, y0, r0, z2, -⟩ := zstart3 w #[.bool s, .slice A n c] #[.bool t, .slice B m d] #[.bool false, .slice none 0 0]
  have hd := rzdiv_yes _ _ Z Y k j _ (hv0.below z2) (hu0.below z2) hY hk hj
  have hsn := sign_ne h0
  clear hY h0
  go_enter Try.func50, Try.ntmps50
  go_wp2_with fail
  refine hd.mono ?_
  rintro e w1 ⟨u1, v1, rfl, zq, zr, b1⟩
  obtain ⟨s1, A1, n1, c1, rfl⟩ := zq.form
  obtain ⟨s2, A2, n2, c2, rfl⟩ := zr.form
  obtain ⟨q2, p2, t2⟩ := two_made w1 #[.bool s1, .slice A1 n1 c1] #[.bool s2, .slice A2 n2 c2]
  have hs := rsign_z _ _ j _ (zr.in_.below t2) (by omega)
  unfold RSignPost at hs
  have k2 := hide ((r0.next b1).next t2)
  have t3 := hide ((z2.next b1).next t2)
  clear q2 p2 t2 hd zq zr
  generalize (Z.fmod Y).sign = sgn at *
  go_wp2_with fail
  refine hs.mono ?_
  rintro e w3 ⟨rfl, b3⟩
  have k3 := hide (k2.out.next b3)
  have t4 := hide (t3.out.next b3)
  clear hs k2 t3
  go_wp2_with (with_reducible refine wpList_store_z rfl _ _ rfl (w.heap.size + 1 + 1) _ _ _ _ rfl rfl _ _ k3.out ?_; intro w4 k4 ho4)
  exact bodyPost_ze rfl rfl rfl k4 rfl ⟨rfl, zback t4.out (by omega) ho4⟩
set_option maxHeartbeats 2000000 in
theorem rexact_even (v u : Value) (Z Y : Int) (k j : Nat) (w : World) (hv : ZIn w v Z k) (hu : ZIn w u Y j) (hY : Y ≠ 0) (hk : k ≤ 68719476) (hj : j ≤ 68719476) (h0 : Z.fmod Y = 0) : Calls Try.prog 50 #[v, u] w (ZOk (Z.fdiv Y) k w) := by
  have hv0 := hv
  have hu0 := hu
  obtain ⟨s, A, n, c, xs, rfl, -⟩ := hv
  obtain ⟨t, B, m, d, ys, rfl, -⟩ := hu
  obtain ⟨x0, y0, r0, z2, -⟩ := zstart3 w #[.bool s, .slice A n c] #[.bool t, .slice B m d] #[.bool false, .slice none 0 0]
  have hd := rzdiv_yes _ _ Z Y k j _ (hv0.below z2) (hu0.below z2) hY hk hj
  have H0 := hide h0
  clear hY h0
  go_enter Try.func50, Try.ntmps50
  go_wp2_with fail
  refine hd.mono ?_
  rintro e w1 ⟨u1, v1, rfl, zq, zr, b1⟩
  obtain ⟨s1, A1, n1, c1, rfl⟩ := zq.form
  obtain ⟨s2, A2, n2, c2, rfl⟩ := zr.form
  obtain ⟨q2, p2, t2⟩ := two_made w1 #[.bool s1, .slice A1 n1 c1] #[.bool s2, .slice A2 n2 c2]
  have hs := rsign_z _ _ j _ (zr.in_.below t2) (by omega)
  unfold RSignPost at hs
  rw [H0.out, Int.sign_zero] at hs
  have k2 := hide ((r0.next b1).next t2)
  have t3 := hide ((z2.next b1).next t2)
  have Q2 := hide q2
  have zq2 := hide (zq.below t2)
  clear q2 p2 t2 hd zq zr H0
  go_wp2_with fail
  refine hs.mono ?_
  rintro e w3 ⟨rfl, b3⟩
  have k3 := hide (k2.out.next b3)
  have t4 := hide (t3.out.next b3)
  have q3 := Q2.out.next b3
  have q3a := q3.c0
  have q3b := q3.c1
  have z3 := hide (zq2.out.below b3)
  clear hs k2 t3
  go_wp2_with (with_reducible refine wpList_store_z rfl _ _ rfl (w.heap.size + 1 + 1) _ _ _ _ rfl rfl _ _ k3.out ?_; intro w4 k4 ho4)
  exact bodyPost_ze rfl rfl rfl k4 rfl ⟨_, rfl, z3.out.only k3.out ho4, zback t4.out (by omega) ho4⟩
set_option maxHeartbeats 1000000 in
theorem rhat_no (v u : Value) (Z Y : Int) (k j : Nat) (w : World) (hv : ZIn w v Z k) (hu : ZIn w u Y j) (hj : j ≤ 68719476) (hY : Y ≤ 0) : Calls Try.prog 52 #[v, u] w (ZErr 1 w) := by
  have hv0 := hv
  have hu0 := hu
  obtain ⟨s, A, n, c, xs, rfl, -⟩ := hv
  obtain ⟨t, B, m, d, ys, rfl, -⟩ := hu
  obtain ⟨x0, y0, r0, z2, -⟩ := zstart3 w #[.bool s, .slice A n c] #[.bool t, .slice B m d] #[.bool false, .slice none 0 0]
  have hs := rsign_z _ Y j _ (hu0.below z2) (by omega)
  unfold RSignPost at hs
  have hle : Y.sign ≤ 0 := Int.sign_nonpos_iff.2 hY
  generalize Y.sign = sgn at *
  clear hY
  go_enter Try.func52, Try.ntmps52
  go_wp2_with fail
  refine hs.mono ?_
  rintro e w1 ⟨rfl, b1⟩
  have k2 := hide (r0.next b1)
  have t3 := hide (z2.next b1)
  clear hs
  go_wp2_with (with_reducible refine wpList_store_z rfl _ _ rfl (w.heap.size + 1 + 1) _ _ _ _ rfl rfl _ _ k2.out ?_; intro w3 k3 ho3)
  exact bodyPost_ze rfl rfl rfl k3 rfl ⟨rfl, zback t3.out (by omega) ho3⟩
set_option maxHeartbeats 4000000 in
theorem rhat_yes (v u : Value) (Z Y : Int) (k j : Nat) (w : World) (hv : ZIn w v Z k) (hu : ZIn w u Y j) (hk : k ≤ 68719476) (hj : j ≤ 68719476) (hY : 0 < Y) : Calls Try.prog 52 #[v, u] w (ZOk (hatN Z Y) j w) := by
  have hsm := hide (hat_small Z Y j hY hu.lt)
  have hv0 := hv
  have hu0 := hu
  obtain ⟨s, A, n, c, xs, rfl, -⟩ := hv
  obtain ⟨t, B, m, d, ys, rfl, -⟩ := hu
  obtain ⟨x0, y0, r0, z2, -⟩ := zstart3 w #[.bool s, .slice A n c] #[.bool t, .slice B m d] #[.bool false, .slice none 0 0]
  have hs := rsign_z _ Y j _ (hu0.below z2) (by omega)
  unfold RSignPost at hs
  rw [Int.sign_eq_one_of_pos hY] at hs
  have HD := hide (fun W (hb : Below w.heap.size w W) => rzdiv_yes _ _ Z Y k j W (hv0.below hb) (hu0.below hb) (by omega) hk hj)
  have HH := hide (show hatN Z Y = if Y ≤ 2 * Z.fmod Y then Z.fmod Y - Y else Z.fmod Y from rfl)
  clear hY
  go_enter Try.func52, Try.ntmps52
  go_wp2_with fail
  refine hs.mono ?_
  rintro e w1 ⟨rfl, b1⟩
  have x1 := x0.next b1
  have y1 := y0.next b1
  have r1 := r0.next b1
  have t1 := z2.next b1
  have x1a := x1.c0
  have x1b := x1.c1
  have y1a := y1.c0
  have y1b := y1.c1
  clear hs
  go_wp2_with fail
  refine (HD.out w1 t1).mono ?_
  rintro e w2 ⟨u2, v2, rfl, zq, zr, b2⟩
  obtain ⟨s1, A1, n1, c1, rfl⟩ := zq.form
  obtain ⟨s2, A2, n2, c2, rfl⟩ := zr.form
  obtain ⟨q3, p3, t3⟩ := two_made w2 #[.bool s1, .slice A1 n1 c1] #[.bool s2, .slice A2 n2 c2]
  have hsz := b2.size
  have hsz1 := b1.size
  have hl := r0.lt
  have T3 := (t1.next b2).next t3
  have K3 := ((Keeps.nil T3).add ((y1.next b2).next t3) (by omega)).add p3 (by have := z2.size; omega)
  have rr3 := hide ((r1.next b2).next t3)
  have zr3 := hide (zr.below t3)
  have SOF := hide (show ∀ W, Keeps w [(w2.heap.size + 1, .bool s2, .slice A2 n2 c2), (w.heap.size + 1, .bool t, .slice B m d)] W → (fun W => Keeps w [(w2.heap.size + 1, .bool s2, .slice A2 n2 c2), (w.heap.size + 1, .bool t, .slice B m d)] W ∧ W.cell? ⟨w2.heap.size + 1, 0, none⟩ = some (.bool s2) ∧ W.cell? ⟨w2.heap.size + 1, 1, none⟩ = some (.slice A2 n2 c2) ∧ W.cell? ⟨w.heap.size + 1, 0, none⟩ = some (.bool t) ∧ W.cell? ⟨w.heap.size + 1, 1, none⟩ = some (.slice B m d)) W from
    fun W k => ⟨k, (k.blk (List.Mem.head _)).c0, (k.blk (List.Mem.head _)).c1, (k.blk (List.Mem.tail _ (List.Mem.head _))).c0, (k.blk (List.Mem.tail _ (List.Mem.head _))).c1⟩)
  have HK := hide K3
  have T3d := hide (show Below ((w2.alloc (.cells #[.bool s1, .slice A1 n1 c1] 37)).alloc (.cells #[.bool s2, .slice A2 n2 c2] 37)).heap.size ((w2.alloc (.cells #[.bool s1, .slice A1 n1 c1] 37)).alloc (.cells #[.bool s2, .slice A2 n2 c2] 37)) ((w2.alloc (.cells #[.bool s1, .slice A1 n1 c1] 37)).alloc (.cells #[.bool s2, .slice A2 n2 c2] 37)).drew from bl_drewN _ 1)
  have hslot := hide (show w.heap.size + 1 + 1 < w2.heap.size by omega)
  clear q3 p3 zq zr K3 x1a x1b y1a y1b T3 t3
  go_wp2_with fail
  go_region_held3 (fun W => Keeps w [(w2.heap.size + 1, .bool s2, .slice A2 n2 c2), (w.heap.size + 1, .bool t, .slice B m d)] W ∧ W.cell? ⟨w2.heap.size + 1, 0, none⟩ = some (.bool s2) ∧ W.cell? ⟨w2.heap.size + 1, 1, none⟩ = some (.slice A2 n2 c2) ∧ W.cell? ⟨w.heap.size + 1, 0, none⟩ = some (.bool t) ∧ W.cell? ⟨w.heap.size + 1, 1, none⟩ = some (.slice B m d))
    (with_reducible first | exact SOF.out _ HK.out.drew | exact SOF.out _ (Keeps.call (And.left (a := Keeps w _ _) (by assumption)) (by assumption)))
    (first
      | (go_at_call 91; (with_reducible refine (rof_z 2 _ (by omega) (by omega)).mono ?_); rintro e w3 ⟨v3, rfl, z3, b3⟩; have tt3 := T3d.out.next b3)
      | (go_at_call 34; (with_reducible refine (rzmul_z _ _ (Z.fmod Y) 2 j 2 _ (zr3.out.below tt3).in_ z3.in_ (by omega) (by omega)).mono ?_); rintro e w4 ⟨v4, rfl, z4, b4⟩; have t4 := tt3.next b4)
      | (go_at_call 27; (have kk := And.left (a := Keeps w _ _) (by assumption)); (with_reducible refine (rzcmp_z _ _ (Z.fmod Y * 2) Y (j + 2) _ z4.in_ ((hu0.below kk.old).mono (by omega)) (by omega)).mono ?_); rintro e w5 ⟨rfl, b5⟩; have t5 := t4.next b5))
  have K5 := HK.out.call t5
  have r5 := rr3.out.next t5
  have z5 := zr3.out.below t5
  clear HK SOF t4 b4 b5 z4 rr3 zr3 T3d tt3 b3 z3
  have p5 := K5.blk (List.Mem.head _)
  have p5a := p5.c0
  have p5b := p5.c1
  by_cases hge : Y ≤ 2 * Z.fmod Y
  · have hq : 0 ≤ sgn3 (Z.fmod Y * 2) Y := by unfold sgn3; split <;> (try split) <;> omega
    generalize sgn3 (Z.fmod Y * 2) Y = q at *
    have HE := hide (show hatN Z Y = Z.fmod Y - Y by rw [HH.out, if_pos hge])
    have y5a := (K5.blk (List.Mem.tail _ (List.Mem.head _))).c0
    have y5b := (K5.blk (List.Mem.tail _ (List.Mem.head _))).c1
    clear hge HH
    go_wp2_with fail
    refine (rzsub_z _ _ (Z.fmod Y) Y j w5 z5.in_ (hu0.below K5.old) (by omega)).mono ?_
    rintro e w6 ⟨v6, rfl, z6, b6⟩
    replace z6 := (z6.ofEq HE.out.symm).short hsm.out
    obtain ⟨s6, A6, n6, c6, rfl⟩ := z6.form
    have T6 := hide (K5.old.next b6)
    have R6 := hide (r5.next b6)
    have Z6 := hide z6
    clear p5a p5b y5a y5b K5 z6
    go_wp2_with (with_reducible refine wpList_store_z rfl _ _ rfl (w.heap.size + 1 + 1) _ _ _ _ rfl rfl _ _ R6.out ?_; intro w8 k8 ho8)
    exact bodyPost_ze rfl rfl rfl k8 rfl ⟨_, rfl, Z6.out.only R6.out ho8, zback T6.out (by omega) ho8⟩
  · have hq : ¬ (0 ≤ sgn3 (Z.fmod Y * 2) Y) := by unfold sgn3; split <;> (try split) <;> omega
    generalize sgn3 (Z.fmod Y * 2) Y = q at *
    have HE := hide (show hatN Z Y = Z.fmod Y by rw [HH.out, if_neg hge])
    have T6 := hide K5.old
    have R6 := hide r5
    have Z6 := hide ((z5.ofEq HE.out.symm).short hsm.out)
    clear hge HH z5 r5
    go_wp2_with (with_reducible refine wpList_store_z rfl _ _ rfl (w.heap.size + 1 + 1) _ _ _ _ rfl rfl _ _ R6.out ?_; intro w8 k8 ho8)
    exact bodyPost_ze rfl rfl rfl k8 rfl ⟨_, rfl, Z6.out.only R6.out ho8, zback T6.out (by omega) ho8⟩
end Go.Proofs.Ytheljeioibpooaa
