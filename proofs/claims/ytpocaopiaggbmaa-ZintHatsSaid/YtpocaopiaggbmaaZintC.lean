/- zint: Add, Sub, Mul, Min, Max. -/
import Derived.Test.YtpocaopiaggbmaaZintB
namespace Go.Proofs.Ytpocaopiaggbmaa
open Go.RowKit
open Limb (limb limb_lt upto upto_succ upto_all upto_zero)

theorem sg_add (s : Bool) (N M : Nat) : sg s (N + M) = sg s N + sg s M := by cases s <;> simp [sg] <;> omega
theorem sg_sub (s t : Bool) (N M : Nat) (h : s ≠ t) (hle : M ≤ N) : sg s (N - M) = sg s N + sg t M := by
  cases s <;> cases t <;> simp [sg] at * <;> omega
theorem sg_mul (s t : Bool) (N M : Nat) : sg (!(s == t)) (N * M) = sg s N * sg t M := by
  cases s <;> cases t <;> simp [sg, Int.neg_mul, Int.mul_neg]

theorem bleK {w w' : World} (h : ∃ k, w' = w.drewN k) : Below w.heap.size w w' := by obtain ⟨k, rfl⟩ := h; exact bl_drewN w k
theorem ble_of {w W w' : World} (hb : Below w.heap.size w W) (h : ∃ k, w' = W.drewN k) : Below w.heap.size w w' := hb.next (bleK h)
set_option maxHeartbeats 1000000 in
theorem add_z (v u : Value) (Z Y : Int) (k : Nat) (w : World) (hv : ZIn w v Z k) (hu : ZIn w u Y k) (hk : k ≤ 137438953472) : Calls Try.prog 36 #[v, u] w (ZPost (Z + Y) (k + 1) w) := by
  have hlv := hide hv.lt
  have hlu := hide hu.lt
  obtain ⟨s, A, n, c, xs, rfl, hx, hc, hm, hn, rfl⟩ := hv
  obtain ⟨t, B, m, d, ys, rfl, hy, hd, hmd, hmk, rfl⟩ := hu
  rw [sg_natAbs] at hlv hlu
  obtain ⟨x0, y0, r0, z2, -⟩ := zstart3 w #[.bool s, .slice A n c] #[.bool t, .slice B m d] #[.bool false, .slice none 0 0]
  by_cases hst : s = t
  · subst hst
    rw [← sg_add]
    have heq : (s == s) = true := by simp
    have hl := hide (add_lt _ _ _ hlv.out hlu.out)
    go_enter Try.func36, Try.ntmps36
    go_wp2_with fail
    go_region_held3 (fun w' => w'.cell? ⟨w.heap.size, 0, none⟩ = some (.bool s) ∧ w'.cell? ⟨w.heap.size, 1, none⟩ = some (.slice A n c) ∧ w'.cell? ⟨w.heap.size + 1, 1, none⟩ = some (.slice B m d))
      (first | exact ⟨x0.drew.c0, x0.drew.c1, y0.drew.c1⟩ | exact ⟨x1.c0, x1.c1, y1.c1⟩ | exact ⟨x2.c0, x2.c1, y2.c1⟩ | exact ⟨(x2.other (only_set2 _ _ _ _) (by omega)).c0, (x2.other (only_set2 _ _ _ _) (by omega)).c1, (y2.other (only_set2 _ _ _ _) (by omega)).c1⟩)
      (first
        | (go_at_call 96; (with_reducible refine (add_any A B n c m d xs ys _ (hx.below z2).drew hc hm (by omega) (hy.below z2).drew hd hmd (by omega)).mono ?_); rintro e w1 ⟨A1, n1, rfl, o1, b1⟩; have l1 := own_c o1; have x1 := x0.drew.next b1; have y1 := y0.drew.next b1)
        | (go_at_call 100; (with_reducible refine (signed_any s A1 n1 n1 _ w1 o1.len (by omega)).mono ?_); rintro e w2 ⟨rfl, b2⟩; have x2 := x1.next b2; have y2 := y1.next b2; have k2 := (r0.drew.next b1).next b2; have k2a := k2.c0; have k2b := k2.c1; have k2c := k2.fr 0; have k2d := k2.fr 1))
    go_wp2_with fail
    refine bodyPost_z rfl rfl (k2.set2 _ _) rfl ?_
    exact ⟨_, rfl, ((zres_own o1 hl.out).below b2).only k2 (only_set2 _ _ _ _), zback ((z2.drew.next b1).next b2) (by omega) (only_set2 _ _ _ _)⟩
  · have hne : (s == t) = false := by simpa using hst
    by_cases hle : Limb.val ys ≤ Limb.val xs
    · rw [← sg_sub s t _ _ hst hle]
      have hl := hide (show Limb.val xs - Limb.val ys < 4294967296 ^ (k + 1) from Nat.lt_of_le_of_lt (Nat.sub_le _ _) (Nat.lt_of_lt_of_le hlv.out (Limb.pow_mono (by omega))))
      clear hst
      go_enter Try.func36, Try.ntmps36
      go_wp2_with fail
      refine (sub_yes A B n c m d xs ys _ (hx.below z2) hc hm (by omega) (hy.below z2) hd hmd hle).mono ?_
      rintro e w1 ⟨A1, n1, rfl, o1, b1⟩
      have hn1 := own_c o1
      have x1 := (x0.next b1).c0
      go_wp2_with fail
      refine (signed_any s A1 n1 n1 _ w1 o1.len (by omega)).mono ?_
      rintro e w2 ⟨rfl, b2⟩
      have k2 := (r0.next b1).next b2
      go_wp2_with (with_reducible refine wpList_store_z rfl _ _ rfl (w.heap.size + 1 + 1) _ _ _ _ rfl rfl _ _ k2 ?_; intro w3 k3 ho3)
      refine bodyPost_z rfl rfl k3 rfl ?_
      exact ⟨_, rfl, ((zres_own o1 hl.out).below b2).only k2 ho3, zback ((z2.next b1).next b2) (by omega) ho3⟩
    · rw [Int.add_comm, ← sg_sub t s _ _ (Ne.symm hst) (by omega)]
      have hl := hide (show Limb.val ys - Limb.val xs < 4294967296 ^ (k + 1) from Nat.lt_of_le_of_lt (Nat.sub_le _ _) (Nat.lt_of_lt_of_le hlu.out (Limb.pow_mono (by omega))))
      clear hst
      go_enter Try.func36, Try.ntmps36
      go_wp2_with fail
      refine (sub_no A B n c m d xs ys _ (hx.below z2) hc hm (hy.below z2) hd hmd (by omega)).mono ?_
      rintro e w1 ⟨rfl, hw1⟩
      have b1 := ble_of z2 hw1
      have c1 := bleK hw1
      clear hw1
      have x1 := x0.next c1
      have y1 := y0.next c1
      have x1a := x1.c1
      have y1a := y1.c0
      have y1b := y1.c1
      go_wp2_with fail
      refine (sub_yes B A m d n c ys xs _ (hy.below b1) hd hmd (by omega) (hx.below b1) hc hm (by omega)).mono ?_
      rintro e w2 ⟨A1, n1, rfl, o1, b2⟩
      have hn1 := own_c o1
      have y2 := (y1.next b2).c0
      go_wp2_with fail
      refine (signed_any t A1 n1 n1 _ w2 o1.len (by omega)).mono ?_
      rintro e w3 ⟨rfl, b3⟩
      have k3 := ((r0.next c1).next b2).next b3
      go_wp2_with (with_reducible refine wpList_store_z rfl _ _ rfl (w.heap.size + 1 + 1) _ _ _ _ rfl rfl _ _ k3 ?_; intro w4 k4 ho4)
      refine bodyPost_z rfl rfl k4 rfl ?_
      exact ⟨_, rfl, ((zres_own o1 hl.out).below b3).only k3 ho4, zback ((b1.next b2).next b3) (by omega) ho4⟩

theorem ZIn.neg {w : World} {s : Bool} {A : Option Addr} {n c k : Nat} {xs : List Nat} (hx : Nums w A n xs) (hc : n ≤ c) (hm : c ≤ 9223372036854775807) (hn : n ≤ k) : ZIn w (.agg #[.bool (!s), .slice A n c]) (-sg s (Limb.val xs)) k :=
  ⟨!s, A, n, c, xs, rfl, hx, hc, hm, hn, (sg_not s _).symm⟩
set_option maxHeartbeats 1000000 in
theorem sub_z (v u : Value) (Z Y : Int) (k : Nat) (w : World) (hv : ZIn w v Z k) (hu : ZIn w u Y k) (hk : k ≤ 137438953472) : Calls Try.prog 38 #[v, u] w (ZPost (Z - Y) (k + 1) w) := by
  have hv0 := hv
  obtain ⟨s, A, n, c, xs, rfl, -⟩ := hv
  obtain ⟨t, B, m, d, ys, rfl, hy, hd, hmd, hmk, rfl⟩ := hu
  obtain ⟨x0, y0, r0, z2, -⟩ := zstart3 w #[.bool s, .slice A n c] #[.bool (!t), .slice B m d] #[.bool false, .slice none 0 0]
  have ha := add_z _ _ Z _ k _ (hv0.below z2) (ZIn.neg (s := t) (hy.below z2) hd hmd hmk) hk
  rw [← Int.sub_eq_add_neg] at ha
  go_enter Try.func38, Try.ntmps38
  go_wp2_with fail
  refine ha.mono ?_
  rintro e w1 ⟨v1, rfl, r1, b1⟩
  obtain ⟨s1, A1, n1, c1, rfl⟩ := r1.form
  have k1 := r0.next b1
  go_wp2_with (with_reducible refine wpList_store_z rfl _ _ rfl (w.heap.size + 1 + 1) _ _ _ _ rfl rfl _ _ k1 ?_; intro w3 k3 ho3)
  refine bodyPost_z rfl rfl k3 rfl ?_
  exact ⟨_, rfl, r1.only k1 ho3, zback (z2.next b1) (by omega) ho3⟩
set_option maxHeartbeats 1000000 in
theorem mul_z (v u : Value) (Z Y : Int) (k j : Nat) (w : World) (hv : ZIn w v Z k) (hu : ZIn w u Y j) (hk : k ≤ 137438953472) (hj : j ≤ 137438953472) : Calls Try.prog 40 #[v, u] w (ZPost (Z * Y) (k + j) w) := by
  have hlv := hide hv.lt
  have hlu := hide hu.lt
  obtain ⟨s, A, n, c, xs, rfl, hx, hc, hm, hn, rfl⟩ := hv
  obtain ⟨t, B, m, d, ys, rfl, hy, hd, hmd, hmk, rfl⟩ := hu
  rw [sg_natAbs] at hlv hlu
  have hl := hide (mul_lt_pow _ _ _ _ hlv.out hlu.out)
  rw [← sg_mul]
  obtain ⟨x0, y0, r0, z2, -⟩ := zstart3 w #[.bool s, .slice A n c] #[.bool t, .slice B m d] #[.bool false, .slice none 0 0]
  go_enter Try.func40, Try.ntmps40
  go_wp2_with fail
  go_region_held3 (fun w' => w'.cell? ⟨w.heap.size, 0, none⟩ = some (.bool s) ∧ w'.cell? ⟨w.heap.size, 1, none⟩ = some (.slice A n c) ∧ w'.cell? ⟨w.heap.size + 1, 0, none⟩ = some (.bool t) ∧ w'.cell? ⟨w.heap.size + 1, 1, none⟩ = some (.slice B m d))
    (first | exact ⟨x0.drew.c0, x0.drew.c1, y0.drew.c0, y0.drew.c1⟩ | exact ⟨x1.c0, x1.c1, y1.c0, y1.c1⟩ | exact ⟨x2.c0, x2.c1, y2.c0, y2.c1⟩ | exact ⟨(x2.other (only_set2 _ _ _ _) (by omega)).c0, (x2.other (only_set2 _ _ _ _) (by omega)).c1, (y2.other (only_set2 _ _ _ _) (by omega)).c0, (y2.other (only_set2 _ _ _ _) (by omega)).c1⟩)
    (first
      | (go_at_call 81; (with_reducible refine (mul_any A B n c m d xs ys _ (hx.below z2).drew hc hm (hy.below z2).drew hd hmd (by omega)).mono ?_); rintro e w1 ⟨A1, n1, rfl, o1, b1⟩; have l1 := own_c o1; have x1 := x0.drew.next b1; have y1 := y0.drew.next b1)
      | (go_at_call 100; (with_reducible refine (signed_any (!(s == t)) A1 n1 n1 _ w1 o1.len (by omega)).mono ?_); rintro e w2 ⟨rfl, b2⟩; have x2 := x1.next b2; have y2 := y1.next b2; have k2 := (r0.drew.next b1).next b2; have k2a := k2.c0; have k2b := k2.c1; have k2c := k2.fr 0; have k2d := k2.fr 1))
  go_wp2_with fail
  refine bodyPost_z rfl rfl (k2.set2 _ _) rfl ?_
  exact ⟨_, rfl, ((zres_own o1 hl.out).below b2).only k2 (only_set2 _ _ _ _), zback ((z2.drew.next b1).next b2) (by omega) (only_set2 _ _ _ _)⟩

set_option maxHeartbeats 1000000 in
theorem min_z (v u : Value) (Z Y : Int) (k : Nat) (w : World) (hv : ZIn w v Z k) (hu : ZIn w u Y k) (hk : k ≤ 1099511627776) : Calls Try.prog 49 #[v, u] w (ZPost (if Y < Z then Y else Z) k w) := by
  have hv0 := hv
  have hu0 := hu
  obtain ⟨s, A, n, c, xs, rfl, hx, hc, hm, hn, hZ⟩ := hv
  obtain ⟨t, B, m, d, ys, rfl, hy, hd, hmd, hmk, hY⟩ := hu
  obtain ⟨x0, y0, r0, z2, -⟩ := zstart3 w #[.bool s, .slice A n c] #[.bool t, .slice B m d] #[.bool false, .slice none 0 0]
  have hcm := cmp_z _ _ Z Y k _ (hv0.below z2) (hu0.below z2) hk
  unfold CmpZPost at hcm
  by_cases hlt : Y < Z
  · rw [sgn3_gt hlt] at hcm
    rw [if_pos hlt]
    clear hlt hZ
    go_enter Try.func49, Try.ntmps49
    go_wp2_with fail
    refine hcm.mono ?_
    rintro e w1 ⟨rfl, b1⟩
    clear hcm
    have x1 := x0.next b1
    have y1 := y0.next b1
    have y1a := y1.c0
    have y1b := y1.c1
    go_wp2_with (with_reducible refine wpList_store_z rfl _ _ rfl w.heap.size _ _ _ _ rfl rfl _ _ x1 ?_; intro w2 x2 ho2; have x2a := x2.c0; have x2b := x2.c1)
    have b2 := zback (z2.next b1) (Nat.le_refl _) ho2
    have hf := from_any t B m d k ys w2 (hy.below b2) hd hmd hmk hk
    rw [← hY] at hf
    refine hf.mono ?_
    rintro e w3 ⟨v3, rfl, r3, b3⟩
    obtain ⟨s3, A3, n3, c3, rfl⟩ := r3.form
    have k3 := ((r0.next b1).other ho2 (by omega)).next b3
    go_wp2_with (with_reducible refine wpList_store_z rfl _ _ rfl (w.heap.size + 1 + 1) _ _ _ _ rfl rfl _ _ k3 ?_; intro w4 k4 ho4)
    refine bodyPost_z rfl rfl k4 rfl ?_
    exact ⟨_, rfl, r3.only k3 ho4, zback (b2.next b3) (by omega) ho4⟩
  · have h1 : ¬ (0 < sgn3 Z Y) := by unfold sgn3; split <;> (try split) <;> omega
    generalize sgn3 Z Y = q at *
    rw [if_neg hlt]
    clear hlt hY
    go_enter Try.func49, Try.ntmps49
    go_wp2_with fail
    refine hcm.mono ?_
    rintro e w1 ⟨rfl, b1⟩
    clear hcm
    have x1 := x0.next b1
    have x1a := x1.c0
    have x1b := x1.c1
    have hf := from_any s A n c k xs w1 (hx.below (z2.next b1)) hc hm hn hk
    rw [← hZ] at hf
    go_wp2_with fail
    refine hf.mono ?_
    rintro e w3 ⟨v3, rfl, r3, b3⟩
    obtain ⟨s3, A3, n3, c3, rfl⟩ := r3.form
    have k3 := (r0.next b1).next b3
    go_wp2_with (with_reducible refine wpList_store_z rfl _ _ rfl (w.heap.size + 1 + 1) _ _ _ _ rfl rfl _ _ k3 ?_; intro w4 k4 ho4)
    refine bodyPost_z rfl rfl k4 rfl ?_
    exact ⟨_, rfl, r3.only k3 ho4, zback ((z2.next b1).next b3) (by omega) ho4⟩
set_option maxHeartbeats 1000000 in
theorem max_z (v u : Value) (Z Y : Int) (k : Nat) (w : World) (hv : ZIn w v Z k) (hu : ZIn w u Y k) (hk : k ≤ 1099511627776) : Calls Try.prog 50 #[v, u] w (ZPost (if Z < Y then Y else Z) k w) := by
  have hv0 := hv
  have hu0 := hu
  obtain ⟨s, A, n, c, xs, rfl, hx, hc, hm, hn, hZ⟩ := hv
  obtain ⟨t, B, m, d, ys, rfl, hy, hd, hmd, hmk, hY⟩ := hu
  obtain ⟨x0, y0, r0, z2, -⟩ := zstart3 w #[.bool s, .slice A n c] #[.bool t, .slice B m d] #[.bool false, .slice none 0 0]
  have hcm := cmp_z _ _ Z Y k _ (hv0.below z2) (hu0.below z2) hk
  unfold CmpZPost at hcm
  by_cases hlt : Z < Y
  · rw [sgn3_lt hlt] at hcm
    rw [if_pos hlt]
    clear hlt hZ
    go_enter Try.func50, Try.ntmps50
    go_wp2_with fail
    refine hcm.mono ?_
    rintro e w1 ⟨rfl, b1⟩
    clear hcm
    have x1 := x0.next b1
    have y1 := y0.next b1
    have y1a := y1.c0
    have y1b := y1.c1
    go_wp2_with (with_reducible refine wpList_store_z rfl _ _ rfl w.heap.size _ _ _ _ rfl rfl _ _ x1 ?_; intro w2 x2 ho2; have x2a := x2.c0; have x2b := x2.c1)
    have b2 := zback (z2.next b1) (Nat.le_refl _) ho2
    have hf := from_any t B m d k ys w2 (hy.below b2) hd hmd hmk hk
    rw [← hY] at hf
    refine hf.mono ?_
    rintro e w3 ⟨v3, rfl, r3, b3⟩
    obtain ⟨s3, A3, n3, c3, rfl⟩ := r3.form
    have k3 := ((r0.next b1).other ho2 (by omega)).next b3
    go_wp2_with (with_reducible refine wpList_store_z rfl _ _ rfl (w.heap.size + 1 + 1) _ _ _ _ rfl rfl _ _ k3 ?_; intro w4 k4 ho4)
    refine bodyPost_z rfl rfl k4 rfl ?_
    exact ⟨_, rfl, r3.only k3 ho4, zback (b2.next b3) (by omega) ho4⟩
  · have h1 : ¬ (sgn3 Z Y < 0) := by unfold sgn3; split <;> (try split) <;> omega
    generalize sgn3 Z Y = q at *
    rw [if_neg hlt]
    clear hlt hY
    go_enter Try.func50, Try.ntmps50
    go_wp2_with fail
    refine hcm.mono ?_
    rintro e w1 ⟨rfl, b1⟩
    clear hcm
    have x1 := x0.next b1
    have x1a := x1.c0
    have x1b := x1.c1
    have hf := from_any s A n c k xs w1 (hx.below (z2.next b1)) hc hm hn hk
    rw [← hZ] at hf
    go_wp2_with fail
    refine hf.mono ?_
    rintro e w3 ⟨v3, rfl, r3, b3⟩
    obtain ⟨s3, A3, n3, c3, rfl⟩ := r3.form
    have k3 := (r0.next b1).next b3
    go_wp2_with (with_reducible refine wpList_store_z rfl _ _ rfl (w.heap.size + 1 + 1) _ _ _ _ rfl rfl _ _ k3 ?_; intro w4 k4 ho4)
    refine bodyPost_z rfl rfl k4 rfl ?_
    exact ⟨_, rfl, r3.only k3 ho4, zback ((z2.next b1).next b3) (by omega) ho4⟩
end Go.Proofs.Ytpocaopiaggbmaa
