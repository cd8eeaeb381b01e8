/- zint: Cmp, Add, Sub, Mul, Min, Max. -/
import Derived.Test.YtpocaopiaggbmaaZint
namespace Go.Proofs.Ytpocaopiaggbmaa
open Go.RowKit
open Limb (limb limb_lt upto upto_succ upto_all upto_zero)

def CmpZPost (Z Y : Int) (w : World) (e : Ending) (w' : World) : Prop := e = .returned (.int .i64 (sgn3 Z Y)) ∧ Below w.heap.size w w'
theorem sgn3_lt {a b : Int} (h : a < b) : sgn3 a b = -1 := by unfold sgn3; rw [if_pos h]
theorem sgn3_gt {a b : Int} (h : b < a) : sgn3 a b = 1 := by unfold sgn3; rw [if_neg (by omega), if_pos h]
theorem sgn3_sign (Z Y : Int) (h : Z.sign ≠ Y.sign) : sgn3 Z.sign Y.sign = sgn3 Z Y := by
  have key : (Z.sign < Y.sign ∧ Z < Y) ∨ (Y.sign < Z.sign ∧ Y < Z) := by
    rcases Int.lt_trichotomy Z 0 with h1 | h1 | h1 <;> rcases Int.lt_trichotomy Y 0 with h2 | h2 | h2
    all_goals
      first
      | rw [Int.sign_eq_neg_one_of_neg h1] at h ⊢
      | rw [Int.sign_eq_one_of_pos h1] at h ⊢
      | rw [h1, Int.sign_zero] at h ⊢
      first
      | rw [Int.sign_eq_neg_one_of_neg h2] at h ⊢
      | rw [Int.sign_eq_one_of_pos h2] at h ⊢
      | rw [h2, Int.sign_zero] at h ⊢
      first
      | exact absurd rfl h
      | omega
  rcases key with ⟨k1, k2⟩ | ⟨k1, k2⟩
  · rw [sgn3_lt k1, sgn3_lt k2]
  · rw [sgn3_gt k1, sgn3_gt k2]
theorem sgn3_neg (N M : Nat) : cmpN M N = sgn3 (sg true N) (sg true M) := by
  unfold cmpN sgn3
  rw [sg_true, sg_true]
  split <;> split <;> (try split) <;> omega
theorem sgn3_mix (s t : Bool) (N M : Nat) (hs : (sg s N).sign = (sg t M).sign) (h : ¬ (sg s N).sign < 0) : cmpN N M = sgn3 (sg s N) (sg t M) := by
  have e1 : sg s N = (N : Int) := by
    cases s with
    | false => rfl
    | true =>
      have : ¬ (sg true N < 0) := fun hh => h (by rw [Int.sign_eq_neg_one_of_neg hh]; omega)
      rw [sg_true] at this ⊢
      omega
  have e2 : sg t M = (M : Int) := by
    cases t with
    | false => rfl
    | true =>
      have : ¬ (sg true M < 0) := fun hh => h (by rw [hs, Int.sign_eq_neg_one_of_neg hh]; omega)
      rw [sg_true] at this ⊢
      omega
  rw [e1, e2]
  rfl
theorem sgn3_both (s t : Bool) (N M : Nat) (hs : (sg s N).sign = (sg t M).sign) (h : (sg s N).sign < 0) : cmpN M N = sgn3 (sg s N) (sg t M) := by
  have e1 : s = true := by
    cases s with
    | true => rfl
    | false => exfalso; have := Int.sign_nonneg_iff.2 (show (0 : Int) ≤ sg false N by rw [sg_false]; omega); omega
  have e2 : t = true := by
    cases t with
    | true => rfl
    | false => exfalso; have := Int.sign_nonneg_iff.2 (show (0 : Int) ≤ sg false M by rw [sg_false]; omega); omega
  subst e1 e2
  exact sgn3_neg N M
theorem sign_range (Z : Int) : -1 ≤ Z.sign ∧ Z.sign ≤ 1 := by
  rcases Int.lt_trichotomy Z 0 with h1 | h1 | h1
  · rw [Int.sign_eq_neg_one_of_neg h1]; omega
  · subst h1; rw [Int.sign_zero]; omega
  · rw [Int.sign_eq_one_of_pos h1]; omega

theorem ble {w w' : World} {k : Nat} (h : w' = w.drewN k) : Below w.heap.size w w' := by rw [h]; exact bl_drewN w k
set_option maxHeartbeats 1000000 in
theorem cmp_z (v u : Value) (Z Y : Int) (k : Nat) (w : World) (hv : ZIn w v Z k) (hu : ZIn w u Y k) (hk : k ≤ 1099511627776) : Calls Try.prog 42 #[v, u] w (CmpZPost Z Y w) := by
  have hr1 := sign_range Z
  have hr2 := sign_range Y
  have hv0 := hv
  have hu0 := hu
  obtain ⟨s, A, n, c, xs, rfl, hx, hc, hm, hn, hZ⟩ := hv
  obtain ⟨t, B, m, d, ys, rfl, hy, hd, hmd, hmk, hY⟩ := hu
  obtain ⟨x0, y0, z2, -⟩ := zstart2 w #[.bool s, .slice A n c] #[.bool t, .slice B m d]
  have hs1 := sign_z _ Z k _ (hv0.below z2) hk
  by_cases hs : Z.sign = Y.sign
  · by_cases hneg : Z.sign < 0
    · have HF := hide (show cmpN (Limb.val ys) (Limb.val xs) = sgn3 Z Y by subst hZ hY; exact sgn3_both s t _ _ hs hneg)
      have hne : (Z.sign != Z.sign) = false := by simp
      have HS := hide hs.symm
      clear hZ hY hs
      have hs2 : ∀ w1, Below _ _ w1 → Calls Try.prog 43 #[.agg #[.bool t, .slice B m d]] w1 (SignPost Y w1) := fun w1 hb => sign_z _ Y k w1 ((hu0.below z2).below hb) hk
      unfold SignPost at hs1 hs2
      rw [HS.out] at hs2
      generalize Z.sign = q at *
      have HS2 := hide hs2
      clear hs2
      go_enter Try.func42, Try.ntmps42
      go_wp2_with fail
      refine hs1.mono ?_
      rintro e w1 ⟨rfl, b1⟩
      have x1 := x0.next b1
      have y1 := y0.next b1
      have x1a := x1.c0
      have x1b := x1.c1
      have y1a := y1.c0
      have y1b := y1.c1
      go_wp2_with fail
      refine (HS2.out w1 b1).mono ?_
      rintro e w2 ⟨rfl, b2⟩
      have x2 := x1.next b2
      have y2 := y1.next b2
      have x2a := x2.c0
      have x2b := x2.c1
      have y2a := y2.c0
      have y2b := y2.c1
      have t2 := (z2.next b1).next b2
      clear hs1
      go_wp2_with fail
      refine (cmp_any B A m d n c ys xs w2 (hy.below t2) hd hmd (hx.below t2) hc hm).mono ?_
      rintro e w3 ⟨rfl, hw3⟩
      have b3 : Below w2.heap.size w2 w3 := by obtain ⟨j, rfl⟩ := hw3; exact bl_drewN w2 j
      clear hw3
      go_wp2_with fail
      go_ret
      exact ⟨by rw [HF.out]; rfl, t2.next b3⟩
    · have HF := hide (show cmpN (Limb.val xs) (Limb.val ys) = sgn3 Z Y by subst hZ hY; exact sgn3_mix s t _ _ hs hneg)
      have hne : (Z.sign != Z.sign) = false := by simp
      have HS := hide hs.symm
      clear hZ hY hs
      have hs2 : ∀ w1, Below _ _ w1 → Calls Try.prog 43 #[.agg #[.bool t, .slice B m d]] w1 (SignPost Y w1) := fun w1 hb => sign_z _ Y k w1 ((hu0.below z2).below hb) hk
      unfold SignPost at hs1 hs2
      rw [HS.out] at hs2
      generalize Z.sign = q at *
      have HS2 := hide hs2
      clear hs2
      go_enter Try.func42, Try.ntmps42
      go_wp2_with fail
      refine hs1.mono ?_
      rintro e w1 ⟨rfl, b1⟩
      have x1 := x0.next b1
      have y1 := y0.next b1
      have x1a := x1.c0
      have x1b := x1.c1
      have y1a := y1.c0
      have y1b := y1.c1
      go_wp2_with fail
      refine (HS2.out w1 b1).mono ?_
      rintro e w2 ⟨rfl, b2⟩
      have x2 := x1.next b2
      have y2 := y1.next b2
      have x2a := x2.c0
      have x2b := x2.c1
      have y2a := y2.c0
      have y2b := y2.c1
      have t2 := (z2.next b1).next b2
      clear hs1
      go_wp2_with fail
      refine (cmp_any A B n c m d xs ys w2 (hx.below t2) hc hm (hy.below t2) hd hmd).mono ?_
      rintro e w3 ⟨rfl, hw3⟩
      have b3 : Below w2.heap.size w2 w3 := by obtain ⟨j, rfl⟩ := hw3; exact bl_drewN w2 j
      clear hw3
      go_wp2_with fail
      go_ret
      exact ⟨by rw [HF.out]; rfl, t2.next b3⟩
  · have HF := hide (sgn3_sign _ _ hs)
    have hne : (Z.sign != Y.sign) = true := by simpa using hs
    have HS2 := hide (fun w1 (hb : Below _ _ w1) => sign_z _ Y k w1 ((hu0.below z2).below hb) hk)
    clear hZ hY hs
    go_enter Try.func42, Try.ntmps42
    go_wp2_with fail
    refine hs1.mono ?_
    rintro e w1 ⟨rfl, b1⟩
    have x1 := x0.next b1
    have y1 := y0.next b1
    have x1a := x1.c0
    have x1b := x1.c1
    have y1a := y1.c0
    have y1b := y1.c1
    go_wp2_with fail
    refine (HS2.out w1 b1).mono ?_
    rintro e w2 ⟨rfl, b2⟩
    have x2 := x1.next b2
    have y2 := y1.next b2
    have x2a := x2.c0
    have x2b := x2.c1
    have y2a := y2.c0
    have y2b := y2.c1
    have t2 := (z2.next b1).next b2
    clear hs1
    go_wp2_with fail
    refine (sign_z _ Y k w2 (hu0.below t2) hk).mono ?_
    rintro e w3 ⟨rfl, b3⟩
    go_wp2_with fail
    refine (compare_int Z.sign Y.sign w3).mono ?_
    rintro e w' ⟨rfl, rfl⟩
    go_wp2_with fail
    go_ret
    exact ⟨by rw [HF.out]; rfl, t2.next b3⟩
end Go.Proofs.Ytpocaopiaggbmaa
