/- Texts of one seat, put together: ZintC RefM. -/
import Derived.Test.YtlihnagfmfpdcaaB19
import Derived.Test.YtlihnagfmfpdcaaB10
/- zint: Add, Sub, Mul, Min, Max. -/
namespace Go.Proofs.Ytlihnagfmfpdcaa
open Go.RowKit
open Limb (limb limb_lt upto upto_succ upto_all upto_zero)

theorem sg_add (s : Bool) (N M : Nat) : sg s (N + M) = sg s N + sg s M := by cases s <;> simp [sg] <;> omega
theorem sg_sub (s t : Bool) (N M : Nat) (h : s ≠ t) (hle : M ≤ N) : sg s (N - M) = sg s N + sg t M := by
  cases s <;> cases t <;> simp [sg] at * <;> omega
theorem sg_mul (s t : Bool) (N M : Nat) : sg (!(s == t)) (N * M) = sg s N * sg t M := by
  cases s <;> cases t <;> simp [sg, Int.neg_mul, Int.mul_neg]

theorem bleK {w w' : World} (h : ∃ k, w' = w.drewN k) : Below w.heap.size w w' := by obtain ⟨k, rfl⟩ := h; exact bl_drewN w k
theorem ble_of {w W w' : World} (hb : Below w.heap.size w W) (h : ∃ k, w' = W.drewN k) : Below w.heap.size w w' := hb.next (bleK h)
set_option maxHeartbeats 1000000 in
theorem add_z (v u : Value) (Z Y : Int) (k : Nat) (w : World) (hv : ZIn w v Z k) (hu : ZIn w u Y k) (hk : k ≤ 137438953472) : Calls Try.prog 40 #[v, u] w (ZPost (Z + Y) (k + 1) w) := by
  have hlv := hide hv.lt
  have hlu := hide hu.lt
  obtain ⟨s, A, n, c, xs, rfl, hx, hc, hm, hn, rfl⟩ := hv
  obtain ⟨t, B, m, d, ys, rfl, hy, hd, hmd, hmk, rfl⟩ := hu
  rw [sg_natAbs] at hlv hlu
  obtain ⟨x0, y0, r0, z2, -⟩ := zstart3 w #[.bool s, .slice A n c] #[.bool t, .slice B m d] #[.bool false, .slice none 0 0]
  by_cases hst : s = t
  · subst hst
    rw [← sg_add]
    have heq : (s == s) = true := by simp
    have hl := hide (add_lt _ _ _ hlv.out hlu.out)
    go_enter Try.func40, Try.ntmps40
    go_wp2_with fail
    go_region_held3 (fun w' => w'.cell? ⟨w.heap.size, 0, none⟩ = some (.bool s) ∧ w'.cell? ⟨w.heap.size, 1, none⟩ = some (.slice A n c) ∧ w'.cell? ⟨w.heap.size + 1, 1, none⟩ = some (.slice B m d))
      (first | exact ⟨x0.drew.c0, x0.drew.c1, y0.drew.c1⟩ | exact ⟨x1.c0, x1.c1, y1.c1⟩ | exact ⟨x2.c0, x2.c1, y2.c1⟩ | exact ⟨(x2.other (only_set2 _ _ _ _) (by omega)).c0, (x2.other (only_set2 _ _ _ _) (by omega)).c1, (y2.other (only_set2 _ _ _ _) (by omega)).c1⟩)
      (first
        | (go_at_call 61; (with_reducible refine (add_any A B n c m d xs ys _ (hx.below z2).drew hc hm (by omega) (hy.below z2).drew hd hmd (by omega)).mono ?_); rintro e w1 ⟨A1, n1, rfl, o1, b1⟩; have l1 := own_c o1; have x1 := x0.drew.next b1; have y1 := y0.drew.next b1)
        | (go_at_call 75; (with_reducible refine (signed_any s A1 n1 n1 _ w1 o1.len (by omega)).mono ?_); rintro e w2 ⟨rfl, b2⟩; have x2 := x1.next b2; have y2 := y1.next b2; have k2 := (r0.drew.next b1).next b2; have k2a := k2.c0; have k2b := k2.c1; have k2c := k2.fr 0; have k2d := k2.fr 1))
    go_wp2_with fail
    refine bodyPost_z rfl rfl (k2.set2 _ _) rfl ?_
    exact ⟨_, rfl, ((zres_own o1 hl.out).below b2).only k2 (only_set2 _ _ _ _), zback ((z2.drew.next b1).next b2) (by omega) (only_set2 _ _ _ _)⟩
  · have hne : (s == t) = false := by simpa using hst
    by_cases hle : Limb.val ys ≤ Limb.val xs
    · rw [← sg_sub s t _ _ hst hle]
      have hl := hide (show Limb.val xs - Limb.val ys < 4294967296 ^ (k + 1) from Nat.lt_of_le_of_lt (Nat.sub_le _ _) (Nat.lt_of_lt_of_le hlv.out (Limb.pow_mono (by omega))))
      clear hst
      go_enter Try.func40, Try.ntmps40
      go_wp2_with fail
      refine (sub_yes A B n c m d xs ys _ (hx.below z2) hc hm (by omega) (hy.below z2) hd hmd hle).mono ?_
      rintro e w1 ⟨A1, n1, rfl, o1, b1⟩
      have hn1 := own_c o1
      have x1 := (x0.next b1).c0
      go_wp2_with fail
      refine (signed_any s A1 n1 n1 _ w1 o1.len (by omega)).mono ?_
      rintro e w2 ⟨rfl, b2⟩
      have k2 := (r0.next b1).next b2
      go_wp2_with (with_reducible refine wpList_store_z rfl _ _ rfl (w.heap.size + 1 + 1) _ _ _ _ rfl rfl _ _ k2 ?_; intro w3 k3 ho3)
      refine bodyPost_z rfl rfl k3 rfl ?_
      exact ⟨_, rfl, ((zres_own o1 hl.out).below b2).only k2 ho3, zback ((z2.next b1).next b2) (by omega) ho3⟩
    · rw [Int.add_comm, ← sg_sub t s _ _ (Ne.symm hst) (by omega)]
      have hl := hide (show Limb.val ys - Limb.val xs < 4294967296 ^ (k + 1) from Nat.lt_of_le_of_lt (Nat.sub_le _ _) (Nat.lt_of_lt_of_le hlu.out (Limb.pow_mono (by omega))))
      clear hst
      go_enter Try.func40, Try.ntmps40
      go_wp2_with fail
      refine (sub_no A B n c m d xs ys _ (hx.below z2) hc hm (hy.below z2) hd hmd (by omega)).mono ?_
      rintro e w1 ⟨rfl, hw1⟩
      have b1 := ble_of z2 hw1
      have c1 := bleK hw1
      clear hw1
      have x1 := x0.next c1
      have y1 := y0.next c1
      have x1a := x1.c1
      have y1a := y1.c0
      have y1b := y1.c1
      go_wp2_with fail
      refine (sub_yes B A m d n c ys xs _ (hy.below b1) hd hmd (by omega) (hx.below b1) hc hm (by omega)).mono ?_
      rintro e w2 ⟨A1, n1, rfl, o1, b2⟩
      have hn1 := own_c o1
      have y2 := (y1.next b2).c0
      go_wp2_with fail
      refine (signed_any t A1 n1 n1 _ w2 o1.len (by omega)).mono ?_
      rintro e w3 ⟨rfl, b3⟩
      have k3 := ((r0.next c1).next b2).next b3
      go_wp2_with (with_reducible refine wpList_store_z rfl _ _ rfl (w.heap.size + 1 + 1) _ _ _ _ rfl rfl _ _ k3 ?_; intro w4 k4 ho4)
      refine bodyPost_z rfl rfl k4 rfl ?_
      exact ⟨_, rfl, ((zres_own o1 hl.out).below b3).only k3 ho4, zback ((b1.next b2).next b3) (by omega) ho4⟩

theorem ZIn.neg {w : World} {s : Bool} {A : Option Addr} {n c k : Nat} {xs : List Nat} (hx : Nums w A n xs) (hc : n ≤ c) (hm : c ≤ 9223372036854775807) (hn : n ≤ k) : ZIn w (.agg #[.bool (!s), .slice A n c]) (-sg s (Limb.val xs)) k :=
  ⟨!s, A, n, c, xs, rfl, hx, hc, hm, hn, (sg_not s _).symm⟩
set_option maxHeartbeats 1000000 in
theorem sub_z (v u : Value) (Z Y : Int) (k : Nat) (w : World) (hv : ZIn w v Z k) (hu : ZIn w u Y k) (hk : k ≤ 137438953472) : Calls Try.prog 67 #[v, u] w (ZPost (Z - Y) (k + 1) w) := by
  have hv0 := hv
  obtain ⟨s, A, n, c, xs, rfl, -⟩ := hv
  obtain ⟨t, B, m, d, ys, rfl, hy, hd, hmd, hmk, rfl⟩ := hu
  obtain ⟨x0, y0, r0, z2, -⟩ := zstart3 w #[.bool s, .slice A n c] #[.bool (!t), .slice B m d] #[.bool false, .slice none 0 0]
  have ha := add_z _ _ Z _ k _ (hv0.below z2) (ZIn.neg (s := t) (hy.below z2) hd hmd hmk) hk
  rw [← Int.sub_eq_add_neg] at ha
  go_enter Try.func67, Try.ntmps67
  go_wp2_with fail
  refine ha.mono ?_
  rintro e w1 ⟨v1, rfl, r1, b1⟩
  obtain ⟨s1, A1, n1, c1, rfl⟩ := r1.form
  have k1 := r0.next b1
  go_wp2_with (with_reducible refine wpList_store_z rfl _ _ rfl (w.heap.size + 1 + 1) _ _ _ _ rfl rfl _ _ k1 ?_; intro w3 k3 ho3)
  refine bodyPost_z rfl rfl k3 rfl ?_
  exact ⟨_, rfl, r1.only k1 ho3, zback (z2.next b1) (by omega) ho3⟩
set_option maxHeartbeats 1000000 in
theorem mul_z (v u : Value) (Z Y : Int) (k j : Nat) (w : World) (hv : ZIn w v Z k) (hu : ZIn w u Y j) (hk : k ≤ 137438953472) (hj : j ≤ 137438953472) : Calls Try.prog 41 #[v, u] w (ZPost (Z * Y) (k + j) w) := by
  have hlv := hide hv.lt
  have hlu := hide hu.lt
  obtain ⟨s, A, n, c, xs, rfl, hx, hc, hm, hn, rfl⟩ := hv
  obtain ⟨t, B, m, d, ys, rfl, hy, hd, hmd, hmk, rfl⟩ := hu
  rw [sg_natAbs] at hlv hlu
  have hl := hide (mul_lt_pow _ _ _ _ hlv.out hlu.out)
  rw [← sg_mul]
  obtain ⟨x0, y0, r0, z2, -⟩ := zstart3 w #[.bool s, .slice A n c] #[.bool t, .slice B m d] #[.bool false, .slice none 0 0]
  go_enter Try.func41, Try.ntmps41
  go_wp2_with fail
  go_region_held3 (fun w' => w'.cell? ⟨w.heap.size, 0, none⟩ = some (.bool s) ∧ w'.cell? ⟨w.heap.size, 1, none⟩ = some (.slice A n c) ∧ w'.cell? ⟨w.heap.size + 1, 0, none⟩ = some (.bool t) ∧ w'.cell? ⟨w.heap.size + 1, 1, none⟩ = some (.slice B m d))
    (first | exact ⟨x0.drew.c0, x0.drew.c1, y0.drew.c0, y0.drew.c1⟩ | exact ⟨x1.c0, x1.c1, y1.c0, y1.c1⟩ | exact ⟨x2.c0, x2.c1, y2.c0, y2.c1⟩ | exact ⟨(x2.other (only_set2 _ _ _ _) (by omega)).c0, (x2.other (only_set2 _ _ _ _) (by omega)).c1, (y2.other (only_set2 _ _ _ _) (by omega)).c0, (y2.other (only_set2 _ _ _ _) (by omega)).c1⟩)
    (first
      | (go_at_call 13; (with_reducible refine (mul_any A B n c m d xs ys _ (hx.below z2).drew hc hm (hy.below z2).drew hd hmd (by omega)).mono ?_); rintro e w1 ⟨A1, n1, rfl, o1, b1⟩; have l1 := own_c o1; have x1 := x0.drew.next b1; have y1 := y0.drew.next b1)
      | (go_at_call 75; (with_reducible refine (signed_any (!(s == t)) A1 n1 n1 _ w1 o1.len (by omega)).mono ?_); rintro e w2 ⟨rfl, b2⟩; have x2 := x1.next b2; have y2 := y1.next b2; have k2 := (r0.drew.next b1).next b2; have k2a := k2.c0; have k2b := k2.c1; have k2c := k2.fr 0; have k2d := k2.fr 1))
  go_wp2_with fail
  refine bodyPost_z rfl rfl (k2.set2 _ _) rfl ?_
  exact ⟨_, rfl, ((zres_own o1 hl.out).below b2).only k2 (only_set2 _ _ _ _), zback ((z2.drew.next b1).next b2) (by omega) (only_set2 _ _ _ _)⟩

set_option maxHeartbeats 1000000 in
theorem min_z (v u : Value) (Z Y : Int) (k : Nat) (w : World) (hv : ZIn w v Z k) (hu : ZIn w u Y k) (hk : k ≤ 1099511627776) : Calls Try.prog 80 #[v, u] w (ZPost (if Y < Z then Y else Z) k w) := by
  have hv0 := hv
  have hu0 := hu
  obtain ⟨s, A, n, c, xs, rfl, hx, hc, hm, hn, hZ⟩ := hv
  obtain ⟨t, B, m, d, ys, rfl, hy, hd, hmd, hmk, hY⟩ := hu
  obtain ⟨x0, y0, r0, z2, -⟩ := zstart3 w #[.bool s, .slice A n c] #[.bool t, .slice B m d] #[.bool false, .slice none 0 0]
  have hcm := cmp_z _ _ Z Y k _ (hv0.below z2) (hu0.below z2) hk
  unfold CmpZPost at hcm
  by_cases hlt : Y < Z
  · rw [sgn3_gt hlt] at hcm
    rw [if_pos hlt]
    clear hlt hZ
    go_enter Try.func80, Try.ntmps80
    go_wp2_with fail
    refine hcm.mono ?_
    rintro e w1 ⟨rfl, b1⟩
    clear hcm
    have x1 := x0.next b1
    have y1 := y0.next b1
    have y1a := y1.c0
    have y1b := y1.c1
    go_wp2_with (with_reducible refine wpList_store_z rfl _ _ rfl w.heap.size _ _ _ _ rfl rfl _ _ x1 ?_; intro w2 x2 ho2; have x2a := x2.c0; have x2b := x2.c1)
    have b2 := zback (z2.next b1) (Nat.le_refl _) ho2
    have hf := from_any t B m d k ys w2 (hy.below b2) hd hmd hmk hk
    rw [← hY] at hf
    refine hf.mono ?_
    rintro e w3 ⟨v3, rfl, r3, b3⟩
    obtain ⟨s3, A3, n3, c3, rfl⟩ := r3.form
    have k3 := ((r0.next b1).other ho2 (by omega)).next b3
    go_wp2_with (with_reducible refine wpList_store_z rfl _ _ rfl (w.heap.size + 1 + 1) _ _ _ _ rfl rfl _ _ k3 ?_; intro w4 k4 ho4)
    refine bodyPost_z rfl rfl k4 rfl ?_
    exact ⟨_, rfl, r3.only k3 ho4, zback (b2.next b3) (by omega) ho4⟩
  · have h1 : ¬ (0 < sgn3 Z Y) := by unfold sgn3; split <;> (try split) <;> omega
    generalize sgn3 Z Y = q at *
    rw [if_neg hlt]
    clear hlt hY
    go_enter Try.func80, Try.ntmps80
    go_wp2_with fail
    refine hcm.mono ?_
    rintro e w1 ⟨rfl, b1⟩
    clear hcm
    have x1 := x0.next b1
    have x1a := x1.c0
    have x1b := x1.c1
    have hf := from_any s A n c k xs w1 (hx.below (z2.next b1)) hc hm hn hk
    rw [← hZ] at hf
    go_wp2_with fail
    refine hf.mono ?_
    rintro e w3 ⟨v3, rfl, r3, b3⟩
    obtain ⟨s3, A3, n3, c3, rfl⟩ := r3.form
    have k3 := (r0.next b1).next b3
    go_wp2_with (with_reducible refine wpList_store_z rfl _ _ rfl (w.heap.size + 1 + 1) _ _ _ _ rfl rfl _ _ k3 ?_; intro w4 k4 ho4)
    refine bodyPost_z rfl rfl k4 rfl ?_
    exact ⟨_, rfl, r3.only k3 ho4, zback ((z2.next b1).next b3) (by omega) ho4⟩
set_option maxHeartbeats 1000000 in
theorem max_z (v u : Value) (Z Y : Int) (k : Nat) (w : World) (hv : ZIn w v Z k) (hu : ZIn w u Y k) (hk : k ≤ 1099511627776) : Calls Try.prog 81 #[v, u] w (ZPost (if Z < Y then Y else Z) k w) := by
  have hv0 := hv
  have hu0 := hu
  obtain ⟨s, A, n, c, xs, rfl, hx, hc, hm, hn, hZ⟩ := hv
  obtain ⟨t, B, m, d, ys, rfl, hy, hd, hmd, hmk, hY⟩ := hu
  obtain ⟨x0, y0, r0, z2, -⟩ := zstart3 w #[.bool s, .slice A n c] #[.bool t, .slice B m d] #[.bool false, .slice none 0 0]
  have hcm := cmp_z _ _ Z Y k _ (hv0.below z2) (hu0.below z2) hk
  unfold CmpZPost at hcm
  by_cases hlt : Z < Y
  · rw [sgn3_lt hlt] at hcm
    rw [if_pos hlt]
    clear hlt hZ
    go_enter Try.func81, Try.ntmps81
    go_wp2_with fail
    refine hcm.mono ?_
    rintro e w1 ⟨rfl, b1⟩
    clear hcm
    have x1 := x0.next b1
    have y1 := y0.next b1
    have y1a := y1.c0
    have y1b := y1.c1
    go_wp2_with (with_reducible refine wpList_store_z rfl _ _ rfl w.heap.size _ _ _ _ rfl rfl _ _ x1 ?_; intro w2 x2 ho2; have x2a := x2.c0; have x2b := x2.c1)
    have b2 := zback (z2.next b1) (Nat.le_refl _) ho2
    have hf := from_any t B m d k ys w2 (hy.below b2) hd hmd hmk hk
    rw [← hY] at hf
    refine hf.mono ?_
    rintro e w3 ⟨v3, rfl, r3, b3⟩
    obtain ⟨s3, A3, n3, c3, rfl⟩ := r3.form
    have k3 := ((r0.next b1).other ho2 (by omega)).next b3
    go_wp2_with (with_reducible refine wpList_store_z rfl _ _ rfl (w.heap.size + 1 + 1) _ _ _ _ rfl rfl _ _ k3 ?_; intro w4 k4 ho4)
    refine bodyPost_z rfl rfl k4 rfl ?_
    exact ⟨_, rfl, r3.only k3 ho4, zback (b2.next b3) (by omega) ho4⟩
  · have h1 : ¬ (sgn3 Z Y < 0) := by unfold sgn3; split <;> (try split) <;> omega
    generalize sgn3 Z Y = q at *
    rw [if_neg hlt]
    clear hlt hY
    go_enter Try.func81, Try.ntmps81
    go_wp2_with fail
    refine hcm.mono ?_
    rintro e w1 ⟨rfl, b1⟩
    clear hcm
    have x1 := x0.next b1
    have x1a := x1.c0
    have x1b := x1.c1
    have hf := from_any s A n c k xs w1 (hx.below (z2.next b1)) hc hm hn hk
    rw [← hZ] at hf
    go_wp2_with fail
    refine hf.mono ?_
    rintro e w3 ⟨v3, rfl, r3, b3⟩
    obtain ⟨s3, A3, n3, c3, rfl⟩ := r3.form
    have k3 := (r0.next b1).next b3
    go_wp2_with (with_reducible refine wpList_store_z rfl _ _ rfl (w.heap.size + 1 + 1) _ _ _ _ rfl rfl _ _ k3 ?_; intro w4 k4 ho4)
    refine bodyPost_z rfl rfl k4 rfl ?_
    exact ⟨_, rfl, r3.only k3 ho4, zback ((z2.next b1).next b3) (by omega) ho4⟩
end Go.Proofs.Ytlihnagfmfpdcaa
/- plumblineref01.Mul. -/
namespace Go.Proofs.Ytlihnagfmfpdcaa
open Go.RowKit
open Limb (limb limb_lt upto upto_succ upto_all upto_zero)

theorem val_drop_step (ys : List Nat) (j : Nat) (h : j < ys.length) : Limb.val (ys.drop j) = limb ys j + 4294967296 * Limb.val (ys.drop (j + 1)) := by
  rw [List.drop_eq_getElem_cons h]
  unfold limb
  rw [List.getD_eq_getElem?_getD, List.getElem?_eq_getElem h]
  rfl
theorem rmul_alg (X y D : Nat) : 4294967296 * (X * D) + X * y = X * (y + 4294967296 * D) := by
  rw [Nat.mul_add, Nat.mul_left_comm X 4294967296 D]; omega
theorem val_drop_lt (ys : List Nat) (h : Limb.Ok ys) (k : Nat) : Limb.val (ys.drop k) < 4294967296 ^ ys.length := by
  have := Limb.val_lt (ys.drop k) (h.drop k)
  exact Nat.lt_of_lt_of_le this (Limb.pow_mono (by rw [List.length_drop]; omega))

set_option maxHeartbeats 2000000 in
theorem rmul_any (A B : Option Addr) (n c m d : Nat) (xs ys : List Nat) (w : World) (hx : Nums w A n xs) (hy : Nums w B m ys) (hn : n ≤ 137438953472) (hm : m ≤ 137438953472) :
    Calls Try.prog 14 #[.slice A n c, .slice B m d] w (RefPost (Limb.val xs * Limb.val ys) w) := by
  go_enter Try.func14, Try.ntmps14
  go_wp2_with fail
  go_loopw [5, 6] (fun v i wr => ∃ (k n1 c1 : Nat) (A1 : Option Addr), k ≤ m ∧ i = .int .i64 ((k : Int) - 1) ∧ v = .slice A1 n1 c1 ∧ n1 ≤ n + m ∧ n1 ≤ c1 ∧ c1 ≤ 9223372036854775807 ∧ Nums wr A1 n1 (Limb.canon (Limb.val xs * Limb.val (ys.drop k))) ∧ Below w.heap.size w wr) (fun _ i _ => ((intOf i) + 1).toNat)
  case atStart =>
    refine ⟨m, 0, 0, _, Nat.le_refl _, rfl, rfl, by omega, by omega, by omega, ?_, (Below.refl _ _).alloc (Nat.le_refl _) _⟩
    have e : Limb.val xs * Limb.val (ys.drop m) = 0 := by rw [List.drop_of_length_le (by rw [hy.len]; exact Nat.le_refl _)]; simp [Limb.val]
    rw [e]
    exact Nums.nil _ _
  case round =>
    obtain ⟨k, n1, c1, A1, hk, rfl, rfl, hn1, hc1, hc9, hN, hB⟩ := hrel
    rcases Nat.eq_zero_or_pos k with hk0 | hk0
    · subst hk0
      rw [List.drop_zero] at hN
      go_wp2_with fail
      refine (rtrim_any A1 n1 c1 _ wr hN (by omega)).mono ?_
      rintro e w2 ⟨A2, n2, c2, rfl, hN2, h1, h2, hB2⟩
      rw [Limb.val_canon] at hN2
      go_wp2_with fail
      go_ret
      exact ⟨A2, n2, c2, rfl, hN2, h1, h2, hB.next hB2⟩
    · obtain ⟨j, rfl⟩ : ∃ j, k = j + 1 := ⟨k - 1, by omega⟩
      have e1 : (((j + 1 : Nat) : Int) - 1) = (j : Int) := by omega
      rw [e1]
      clear e1 hk0
      generalize hN0 : Limb.val xs * Limb.val (ys.drop (j + 1)) = N at *
      have HN0 := Lib.hid hN0
      clear hN0
      have hlenN := hN.len
      have HLN := Lib.hid hlenN
      clear hlenN
      obtain ⟨wo, rfl⟩ : ∃ wo : World, wo = wr := ⟨_, rfl⟩
      go_wp2_with fail
      go_loopw [7, 8] (fun v i wr => ∃ t : Nat, t ≤ n1 ∧ i = .int .i64 (t : Int) ∧ Lst wr wo.heap.size v (0 :: (Limb.canon N).take t) ∧ Below wo.heap.size wo wr) (fun _ i _ => n1 - (intOf i).toNat)
      case atStart =>
        refine ⟨0, Nat.zero_le _, rfl, ⟨⟨rfl, .inr ⟨wo.heap.size, 1, #[.int .u32 0], rfl, Nat.le_refl _, heap_alloc_new wo _, Nat.le_refl _, by unfold maxLen; omega, rfl, rfl⟩⟩, Limb.Ok.cons (by omega) (by rw [List.take_zero]; exact Limb.Ok.nil)⟩, bl_alloc wo _⟩
      case round =>
        obtain ⟨t, ht, rfl, hL, hB2⟩ := hrel
        by_cases htn : t < n1
        · obtain ⟨b, o, x, rfl, hxl, hxe, hcx⟩ := (hN.below hB2).at_ htn
          have HX := Lib.hid hxe
          clear hxe
          have hlen : (0 :: (Limb.canon N).take t).length ≤ 4398046511104 := by rw [List.length_cons, List.length_take]; omega
          go_wp2_with (at_builtin; refine wpList_append_u32 _ rfl _ _ rfl wo.heap.size _ _ rfl (hL.alloc _) _ x rfl (cell_new _ _ _) hxl hlen (by have := hB2.size; simp; omega) ?_; intro v' w1 hL1 hB1)
          go_roundw
          case rel =>
            refine ⟨t + 1, by omega, by go_num, ?_, (hB2.alloc hB2.size _).trans hB1⟩
            rw [Limb.take_succ_getD _ t (by rw [HLN.out]; omega), ← HX.out]
            exact hL1
          case measure => simp [intOf] <;> omega
        · rw [List.take_of_length_le (by rw [HLN.out]; omega)] at hL
          obtain ⟨A3, c3, rfl, hN3, hc3, hc93⟩ := hL.form
          have e3 : (0 :: Limb.canon N).length = n1 + 1 := by rw [List.length_cons, HLN.out]
          rw [e3]
          rw [e3] at hN3 hc3
          have E3 := Lib.hid e3
          have t2 := hB.next hB2
          obtain ⟨b, o, y, rfl, hyl, hye, hcy⟩ := (hy.below t2).at_ (i := j) (by omega)
          have HY := Lib.hid hye
          clear hye e3 hL
          go_wp2_with fail
          refine (small_any A n c xs y wr (hx.below t2) (by omega) hyl).mono ?_
          rintro e w4 ⟨A4, n4, c4, rfl, hN4, h1, h2, hB4⟩
          have l4 : n4 ≤ n + 1 := by
            rw [← hN4.len]
            exact Limb.canon_len_le _ _ (mul_lt_pow _ _ _ 1 hx.lt (by omega))
          go_wp2_with fail
          refine (radd_any A3 A4 (n1 + 1) c3 n4 c4 _ _ w4 (hN3.below hB4) hN4 (by omega) (by omega)).mono ?_
          rintro e w5 ⟨A5, n5, c5, rfl, hN5, h15, h25, hB5⟩
          have ev : Limb.val (0 :: Limb.canon N) + Limb.val (Limb.canon (Limb.val xs * y)) = Limb.val xs * Limb.val (ys.drop j) := by
            rw [Limb.val_canon, Limb.val_cons, Limb.val_canon, ← HN0.out, val_drop_step ys j (by rw [hy.len]; omega), Nat.zero_add, HY.out]
            exact rmul_alg _ _ _
          rw [ev] at hN5
          clear ev
          go_wp2_with fail
          go_roundw
          case rel =>
            refine ⟨j, n5, c5, A5, by omega, by go_num, rfl, ?_, h15, h25, hN5, (t2.next hB4).next hB5⟩
            rw [← hN5.len]
            have h1 := mul_lt_pow _ _ n m hx.lt (by have := val_drop_lt ys hy.ok j; rwa [hy.len] at this)
            exact Limb.canon_len_le _ _ h1
          case measure => simp [intOf] <;> omega
end Go.Proofs.Ytlihnagfmfpdcaa
