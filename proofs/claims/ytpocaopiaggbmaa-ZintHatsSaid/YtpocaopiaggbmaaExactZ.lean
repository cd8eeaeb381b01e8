/- zint: Exact, Hat. -/
import Derived.Test.YtpocaopiaggbmaaCeilZ
namespace Go.Proofs.Ytpocaopiaggbmaa
open Go.RowKit

theorem two_made (w1 : World) (X Y : Array Value) : Blk ((w1.alloc (.cells X 42)).alloc (.cells Y 42)) w1.heap.size X ∧ Blk ((w1.alloc (.cells X 42)).alloc (.cells Y 42)) (w1.heap.size + 1) Y ∧ Below w1.heap.size w1 ((w1.alloc (.cells X 42)).alloc (.cells Y 42)) :=
  ⟨(Blk.new w1 X).alloc _, Blk.newAt _ _ (by simp only [size_alloc]), (bl_alloc w1 _).next (bl_alloc _ _)⟩
set_option maxHeartbeats 1000000 in
theorem exact_no (v u : Value) (Z : Int) (k j : Nat) (w : World) (hv : ZIn w v Z k) (hu : ZIn w u 0 j) : Calls Try.prog 61 #[v, u] w (ZErr 10 w) := by
  have hv0 := hv
  have hu0 := hu
  obtain ⟨s, A, n, c, xs, rfl, -⟩ := hv
  obtain ⟨t, B, m, d, ys, rfl, -⟩ := hu
  obtain ⟨x0, y0, r0, z2, -⟩ := zstart3 w #[.bool s, .slice A n c] #[.bool t, .slice B m d] #[.bool false, .slice none 0 0]
  have hd := zdiv_no _ _ Z k j _ (hv0.below z2) (hu0.below z2)
  go_enter Try.func61, Try.ntmps61
  go_wp2_with fail
  refine hd.mono ?_
  rintro e w1 ⟨rfl, b1⟩
  obtain ⟨q2, p2, t2⟩ := two_made w1 #[.bool false, .slice none 0 0] #[.bool false, .slice none 0 0]
  have k2 := hide ((r0.next b1).next t2)
  have t3 := hide ((z2.next b1).next t2)
  clear q2 p2 t2 hd
  go_wp2_with (with_reducible refine wpList_store_z rfl _ _ rfl (w.heap.size + 1 + 1) _ _ _ _ rfl rfl _ _ k2.out ?_; intro w3 k3 ho3)
  exact bodyPost_ze rfl rfl rfl k3 rfl ⟨rfl, zback t3.out (by omega) ho3⟩
set_option maxHeartbeats 2000000 in
theorem exact_odd (v u : Value) (Z Y : Int) (k j : Nat) (w : World) (hv : ZIn w v Z k) (hu : ZIn w u Y j) (hY : Y ≠ 0) (hk : k ≤ 68719476736) (hj : j ≤ 68719476736) (h0 : Z.fmod Y ≠ 0) : Calls Try.prog 61 #[v, u] w (ZErr 1 w) := by
  have hv0 := hv
  have hu0 := hu
  obtain ⟨s, A, n, c, xs, rfl, -⟩ := hv
  obtain ⟨t, B, m, d, ys, rfl, -⟩ := hu
  obtain ⟨x0, y0, r0, z2, -⟩ := zstart3 w #[.bool s, .slice A n c] #[.bool t, .slice B m d] #[.bool false, .slice none 0 0]
  have hd := zdiv_yes _ _ Z Y k j _ (hv0.below z2) (hu0.below z2) hY hk hj
  have hsn := sign_ne h0
  clear hY h0
  go_enter Try.func61, Try.ntmps61
  go_wp2_with fail
  refine hd.mono ?_
  rintro e w1 ⟨u1, v1, rfl, zq, zr, b1⟩
  obtain ⟨s1, A1, n1, c1, rfl⟩ := zq.form
  obtain ⟨s2, A2, n2, c2, rfl⟩ := zr.form
  obtain ⟨q2, p2, t2⟩ := two_made w1 #[.bool s1, .slice A1 n1 c1] #[.bool s2, .slice A2 n2 c2]
  have hs := sign_z _ _ j _ (zr.in_.below t2) (by omega)
  unfold SignPost at hs
  have k2 := hide ((r0.next b1).next t2)
  have t3 := hide ((z2.next b1).next t2)
  clear q2 p2 t2 hd zq zr
  generalize (Z.fmod Y).sign = sgn at *
  go_wp2_with fail
  refine hs.mono ?_
  rintro e w3 ⟨rfl, b3⟩
  have k3 := hide (k2.out.next b3)
  have t4 := hide (t3.out.next b3)
  clear hs k2 t3
  go_wp2_with (with_reducible refine wpList_store_z rfl _ _ rfl (w.heap.size + 1 + 1) _ _ _ _ rfl rfl _ _ k3.out ?_; intro w4 k4 ho4)
  exact bodyPost_ze rfl rfl rfl k4 rfl ⟨rfl, zback t4.out (by omega) ho4⟩
set_option maxHeartbeats 2000000 in
theorem exact_even (v u : Value) (Z Y : Int) (k j : Nat) (w : World) (hv : ZIn w v Z k) (hu : ZIn w u Y j) (hY : Y ≠ 0) (hk : k ≤ 68719476736) (hj : j ≤ 68719476736) (h0 : Z.fmod Y = 0) : Calls Try.prog 61 #[v, u] w (ZOk (Z.fdiv Y) k w) := by
  have hv0 := hv
  have hu0 := hu
  obtain ⟨s, A, n, c, xs, rfl, -⟩ := hv
  obtain ⟨t, B, m, d, ys, rfl, -⟩ := hu
  obtain ⟨x0, y0, r0, z2, -⟩ := zstart3 w #[.bool s, .slice A n c] #[.bool t, .slice B m d] #[.bool false, .slice none 0 0]
  have hd := zdiv_yes _ _ Z Y k j _ (hv0.below z2) (hu0.below z2) hY hk hj
  have H0 := hide h0
  clear hY h0
  go_enter Try.func61, Try.ntmps61
  go_wp2_with fail
  refine hd.mono ?_
  rintro e w1 ⟨u1, v1, rfl, zq, zr, b1⟩
  obtain ⟨s1, A1, n1, c1, rfl⟩ := zq.form
  obtain ⟨s2, A2, n2, c2, rfl⟩ := zr.form
  obtain ⟨q2, p2, t2⟩ := two_made w1 #[.bool s1, .slice A1 n1 c1] #[.bool s2, .slice A2 n2 c2]
  have hs := sign_z _ _ j _ (zr.in_.below t2) (by omega)
  unfold SignPost at hs
  rw [H0.out, Int.sign_zero] at hs
  have k2 := hide ((r0.next b1).next t2)
  have t3 := hide ((z2.next b1).next t2)
  have Q2 := hide q2
  have zq2 := hide (zq.below t2)
  clear q2 p2 t2 hd zq zr H0
  go_wp2_with fail
  refine hs.mono ?_
  rintro e w3 ⟨rfl, b3⟩
  have k3 := hide (k2.out.next b3)
  have t4 := hide (t3.out.next b3)
  have q3 := Q2.out.next b3
  have q3a := q3.c0
  have q3b := q3.c1
  have z3 := hide (zq2.out.below b3)
  clear hs k2 t3
  go_wp2_with (with_reducible refine wpList_store_z rfl _ _ rfl (w.heap.size + 1 + 1) _ _ _ _ rfl rfl _ _ k3.out ?_; intro w4 k4 ho4)
  exact bodyPost_ze rfl rfl rfl k4 rfl ⟨_, rfl, z3.out.only k3.out ho4, zback t4.out (by omega) ho4⟩
end Go.Proofs.Ytpocaopiaggbmaa
