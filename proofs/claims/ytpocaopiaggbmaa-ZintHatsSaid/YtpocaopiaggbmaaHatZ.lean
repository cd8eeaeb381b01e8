/- zint: Hat. -/
import Derived.Test.YtpocaopiaggbmaaExactZ
namespace Go.Proofs.Ytpocaopiaggbmaa
open Go.RowKit

theorem ZRes.drew {w : World} {v : Value} {Z : Int} {k : Nat} (h : ZRes w v Z k) : ZRes w.drew v Z k := h.below (bl_drewN w 1)
set_option maxHeartbeats 1000000 in
theorem hat_no (v u : Value) (Z Y : Int) (k j : Nat) (w : World) (hv : ZIn w v Z k) (hu : ZIn w u Y j) (hj : j ≤ 68719476736) (hY : Y ≤ 0) : Calls Try.prog 63 #[v, u] w (ZErr 1 w) := by
  have hv0 := hv
  have hu0 := hu
  obtain ⟨s, A, n, c, xs, rfl, -⟩ := hv
  obtain ⟨t, B, m, d, ys, rfl, -⟩ := hu
  obtain ⟨x0, y0, r0, z2, -⟩ := zstart3 w #[.bool s, .slice A n c] #[.bool t, .slice B m d] #[.bool false, .slice none 0 0]
  have hs := sign_z _ Y j _ (hu0.below z2) (by omega)
  unfold SignPost at hs
  have hle : Y.sign ≤ 0 := Int.sign_nonpos_iff.2 hY
  generalize Y.sign = sgn at *
  clear hY
  go_enter Try.func63, Try.ntmps63
  go_wp2_with fail
  refine hs.mono ?_
  rintro e w1 ⟨rfl, b1⟩
  have k2 := hide (r0.next b1)
  have t3 := hide (z2.next b1)
  clear hs
  go_wp2_with (with_reducible refine wpList_store_z rfl _ _ rfl (w.heap.size + 1 + 1) _ _ _ _ rfl rfl _ _ k2.out ?_; intro w3 k3 ho3)
  exact bodyPost_ze rfl rfl rfl k3 rfl ⟨rfl, zback t3.out (by omega) ho3⟩
set_option maxHeartbeats 4000000 in
theorem hat_yes (v u : Value) (Z Y : Int) (k j : Nat) (w : World) (hv : ZIn w v Z k) (hu : ZIn w u Y j) (hk : k ≤ 68719476736) (hj : j ≤ 68719476736) (hY : 0 < Y) : Calls Try.prog 63 #[v, u] w (ZOk (hatN Z Y) j w) := by
  have hsm := hide (hat_small Z Y j hY hu.lt)
  have hv0 := hv
  have hu0 := hu
  obtain ⟨s, A, n, c, xs, rfl, -⟩ := hv
  obtain ⟨t, B, m, d, ys, rfl, -⟩ := hu
  obtain ⟨x0, y0, r0, z2, -⟩ := zstart3 w #[.bool s, .slice A n c] #[.bool t, .slice B m d] #[.bool false, .slice none 0 0]
  have hs := sign_z _ Y j _ (hu0.below z2) (by omega)
  unfold SignPost at hs
  rw [Int.sign_eq_one_of_pos hY] at hs
  have HD := hide (fun W (hb : Below w.heap.size w W) => zdiv_yes _ _ Z Y k j W (hv0.below hb) (hu0.below hb) (by omega) hk hj)
  have HH := hide (show hatN Z Y = if Y ≤ 2 * Z.fmod Y then Z.fmod Y - Y else Z.fmod Y from rfl)
  clear hY
  go_enter Try.func63, Try.ntmps63
  go_wp2_with fail
  refine hs.mono ?_
  rintro e w1 ⟨rfl, b1⟩
  have x1 := x0.next b1
  have y1 := y0.next b1
  have r1 := r0.next b1
  have t1 := z2.next b1
  have x1a := x1.c0
  have x1b := x1.c1
  have y1a := y1.c0
  have y1b := y1.c1
  clear hs
  go_wp2_with fail
  refine (HD.out w1 t1).mono ?_
  rintro e w2 ⟨u2, v2, rfl, zq, zr, b2⟩
  obtain ⟨s1, A1, n1, c1, rfl⟩ := zq.form
  obtain ⟨s2, A2, n2, c2, rfl⟩ := zr.form
  obtain ⟨q3, p3, t3⟩ := two_made w2 #[.bool s1, .slice A1 n1 c1] #[.bool s2, .slice A2 n2 c2]
  have hsz := b2.size
  have hsz1 := b1.size
  have hl := r0.lt
  have T3 := (t1.next b2).next t3
  have K3 := ((Keeps.nil T3).add ((y1.next b2).next t3) (by omega)).add p3 (by have := z2.size; omega)
  have rr3 := hide ((r1.next b2).next t3)
  have zr3 := hide (zr.below t3)
  have SOF := hide (show ∀ W, Keeps w [(w2.heap.size + 1, .bool s2, .slice A2 n2 c2), (w.heap.size + 1, .bool t, .slice B m d)] W → (fun W => Keeps w [(w2.heap.size + 1, .bool s2, .slice A2 n2 c2), (w.heap.size + 1, .bool t, .slice B m d)] W ∧ W.cell? ⟨w2.heap.size + 1, 0, none⟩ = some (.bool s2) ∧ W.cell? ⟨w2.heap.size + 1, 1, none⟩ = some (.slice A2 n2 c2) ∧ W.cell? ⟨w.heap.size + 1, 0, none⟩ = some (.bool t) ∧ W.cell? ⟨w.heap.size + 1, 1, none⟩ = some (.slice B m d)) W from
    fun W k => ⟨k, (k.blk (List.Mem.head _)).c0, (k.blk (List.Mem.head _)).c1, (k.blk (List.Mem.tail _ (List.Mem.head _))).c0, (k.blk (List.Mem.tail _ (List.Mem.head _))).c1⟩)
  have HK := hide K3
  have hslot := hide (show w.heap.size + 1 + 1 < w2.heap.size by omega)
  clear q3 p3 zq zr K3 x1a x1b y1a y1b T3 t3
  go_wp2_with fail
  go_region_held3 (fun W => Keeps w [(w2.heap.size + 1, .bool s2, .slice A2 n2 c2), (w.heap.size + 1, .bool t, .slice B m d)] W ∧ W.cell? ⟨w2.heap.size + 1, 0, none⟩ = some (.bool s2) ∧ W.cell? ⟨w2.heap.size + 1, 1, none⟩ = some (.slice A2 n2 c2) ∧ W.cell? ⟨w.heap.size + 1, 0, none⟩ = some (.bool t) ∧ W.cell? ⟨w.heap.size + 1, 1, none⟩ = some (.slice B m d))
    (with_reducible first | exact SOF.out _ HK.out.drew | exact SOF.out _ (Keeps.call (And.left (a := Keeps w _ _) (by assumption)) (by assumption)))
    (first
      | (go_at_call 36; (with_reducible refine (add_z _ _ (Z.fmod Y) (Z.fmod Y) j _ zr3.out.drew.in_ zr3.out.drew.in_ (by omega)).mono ?_); rintro e w4 ⟨v4, rfl, z4, b4⟩; have t4 := (bl_drewN _ 1).next b4)
      | (go_at_call 42; (have kk := And.left (a := Keeps w _ _) (by assumption)); (with_reducible refine (cmp_z _ _ (Z.fmod Y + Z.fmod Y) Y (j + 1) _ z4.in_ ((hu0.below kk.old).mono (by omega)) (by omega)).mono ?_); rintro e w5 ⟨rfl, b5⟩; have t5 := t4.next b5))
  have K5 := HK.out.call t5
  have r5 := rr3.out.next t5
  have z5 := zr3.out.below t5
  clear HK SOF t4 b4 b5 z4 rr3 zr3
  have p5 := K5.blk (List.Mem.head _)
  have p5a := p5.c0
  have p5b := p5.c1
  by_cases hge : Y ≤ 2 * Z.fmod Y
  · have hq : 0 ≤ sgn3 (Z.fmod Y + Z.fmod Y) Y := by unfold sgn3; split <;> (try split) <;> omega
    generalize sgn3 (Z.fmod Y + Z.fmod Y) Y = q at *
    have HE := hide (show hatN Z Y = Z.fmod Y - Y by rw [HH.out, if_pos hge])
    have y5a := (K5.blk (List.Mem.tail _ (List.Mem.head _))).c0
    have y5b := (K5.blk (List.Mem.tail _ (List.Mem.head _))).c1
    clear hge HH
    go_wp2_with fail
    refine (sub_z _ _ (Z.fmod Y) Y j w5 z5.in_ (hu0.below K5.old) (by omega)).mono ?_
    rintro e w6 ⟨v6, rfl, z6, b6⟩
    replace z6 := (z6.ofEq HE.out.symm).short hsm.out
    obtain ⟨s6, A6, n6, c6, rfl⟩ := z6.form
    have T6 := hide (K5.old.next b6)
    have P6 := hide (p5.next b6)
    have R6 := hide (r5.next b6)
    have Z6 := hide z6
    clear p5a p5b y5a y5b K5 z6
    go_wp2_with (first | (with_reducible refine wpList_store_z rfl _ _ rfl (w2.heap.size + 1) _ _ _ _ rfl rfl _ _ P6.out ?_; intro w7 k7 ho7; have k7a := k7.c0; have k7b := k7.c1; have HO7 := hide ho7; clear ho7) | (with_reducible refine wpList_store_z rfl _ _ rfl (w.heap.size + 1 + 1) _ _ _ _ rfl rfl _ _ (R6.out.other HO7.out (by have := hslot.out; omega)) ?_; intro w8 k8 ho8))
    exact bodyPost_ze rfl rfl rfl k8 rfl ⟨_, rfl, (Z6.out.only P6.out HO7.out).only (R6.out.other HO7.out (by have := hslot.out; omega)) ho8, zback (zback T6.out (by have := hslot.out; omega) HO7.out) (by omega) ho8⟩
  · have hq : ¬ (0 ≤ sgn3 (Z.fmod Y + Z.fmod Y) Y) := by unfold sgn3; split <;> (try split) <;> omega
    generalize sgn3 (Z.fmod Y + Z.fmod Y) Y = q at *
    have HE := hide (show hatN Z Y = Z.fmod Y by rw [HH.out, if_neg hge])
    have T6 := hide K5.old
    have R6 := hide r5
    have Z6 := hide ((z5.ofEq HE.out.symm).short hsm.out)
    clear hge HH z5 r5
    go_wp2_with (with_reducible refine wpList_store_z rfl _ _ rfl (w.heap.size + 1 + 1) _ _ _ _ rfl rfl _ _ R6.out ?_; intro w8 k8 ho8)
    exact bodyPost_ze rfl rfl rfl k8 rfl ⟨_, rfl, Z6.out.only R6.out ho8, zback T6.out (by omega) ho8⟩
end Go.Proofs.Ytpocaopiaggbmaa
