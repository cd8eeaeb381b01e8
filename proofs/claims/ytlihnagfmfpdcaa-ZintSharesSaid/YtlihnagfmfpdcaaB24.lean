/- Texts of one seat, put together: DivMath. -/
import Derived.Test.YtlihnagfmfpdcaaB19
/- Division rounded down, by the quotient and the rest of the sizes; rounded up; Hat; what the reference reckons. -/
namespace Go.Proofs.Ytlihnagfmfpdcaa
open Go.RowKit

theorem fdiv_of {Z Y q r : Int} (h : r + Y * q = Z) (hr : (0 ≤ r ∧ r < Y) ∨ (Y < r ∧ r ≤ 0)) : Z.fdiv Y = q ∧ Z.fmod Y = r := by
  rcases hr with ⟨h1, h2⟩ | ⟨h1, h2⟩
  · exact (Int.fdiv_fmod_unique (by omega)).2 ⟨h, h1, h2⟩
  · exact (Int.fdiv_fmod_unique' (by omega)).2 ⟨h, h1, h2⟩
theorem fdiv_back (Z Y : Int) (hY : Y ≠ 0) : Z.fmod Y + Y * Z.fdiv Y = Z ∧ ((0 ≤ Z.fmod Y ∧ Z.fmod Y < Y) ∨ (Y < Z.fmod Y ∧ Z.fmod Y ≤ 0)) := by
  rcases Int.lt_trichotomy Y 0 with hn | h0 | hp
  · have h := (Int.fdiv_fmod_unique' hn (a := Z)).1 ⟨rfl, rfl⟩
    exact ⟨h.1, Or.inr h.2⟩
  · exact absurd h0 hY
  · have h := (Int.fdiv_fmod_unique hp (a := Z)).1 ⟨rfl, rfl⟩
    exact ⟨h.1, Or.inl h.2⟩

/-- Rounded down, out of the sizes' quotient and rest: the same signs, or nothing left over. -/
theorem divz_same (s : Bool) (N M : Nat) (hM : 0 < M) : (sg s N).fdiv (sg s M) = sg false (N / M) ∧ (sg s N).fmod (sg s M) = sg s (N % M) := by
  have h1 := Nat.div_add_mod N M
  have h2 := Nat.mod_lt N hM
  have h3 : (M : Int) * ((N / M : Nat) : Int) + ((N % M : Nat) : Int) = (N : Int) := by rw [← Int.natCast_mul, ← Int.natCast_add, h1]
  generalize N / M = Q at *
  generalize N % M = R at *
  refine fdiv_of ?_ ?_ <;> cases s <;> simp only [sg, if_true, if_false, Bool.false_eq_true, Int.neg_mul] <;> generalize (M : Int) * (Q : Int) = P at * <;> omega
theorem divz_even (s t : Bool) (N M : Nat) (hst : s ≠ t) (hM : 0 < M) (h0 : N % M = 0) : (sg s N).fdiv (sg t M) = sg true (N / M) ∧ (sg s N).fmod (sg t M) = 0 := by
  have h1 := Nat.div_add_mod N M
  have h3 : (M : Int) * ((N / M : Nat) : Int) + ((N % M : Nat) : Int) = (N : Int) := by rw [← Int.natCast_mul, ← Int.natCast_add, h1]
  rw [h0] at h3
  generalize N / M = Q at *
  refine fdiv_of ?_ ?_ <;> cases s <;> cases t <;> simp only [sg, if_true, if_false, Bool.false_eq_true, Int.neg_mul, Int.mul_neg, Int.neg_neg, ne_eq, not_true_eq_false] at * <;> generalize (M : Int) * (Q : Int) = P at * <;> omega
theorem divz_odd (s t : Bool) (N M : Nat) (hst : s ≠ t) (hM : 0 < M) (h0 : 0 < N % M) : (sg s N).fdiv (sg t M) = sg true (N / M) - 1 ∧ (sg s N).fmod (sg t M) = sg s (N % M) + sg t M := by
  have h1 := Nat.div_add_mod N M
  have h2 := Nat.mod_lt N hM
  have h3 : (M : Int) * ((N / M : Nat) : Int) + ((N % M : Nat) : Int) = (N : Int) := by rw [← Int.natCast_mul, ← Int.natCast_add, h1]
  generalize N / M = Q at *
  generalize N % M = R at *
  refine fdiv_of ?_ ?_ <;> cases s <;> cases t <;> simp only [sg, if_true, if_false, Bool.false_eq_true, Int.neg_mul, Int.mul_neg, Int.neg_neg, Int.mul_sub, Int.mul_one, Int.sub_neg, ne_eq, not_true_eq_false, reduceCtorEq, not_false_eq_true] at * <;> generalize (M : Int) * (Q : Int) = P at * <;> omega

/-- The reference's way: the quotient of the sizes with the sign, what is left over, and one step down where the rest has the other sign. -/
theorem divz_ref (Z Y : Int) (hY : Y ≠ 0) (q0 : Int) (hq : q0 = sg (decide (Z.sign * Y.sign < 0)) (Z.natAbs / Y.natAbs)) :
    ((Z - q0 * Y).sign * Y.sign < 0 → Z.fdiv Y = q0 - 1 ∧ Z.fmod Y = Z - q0 * Y + Y) ∧ (¬ ((Z - q0 * Y).sign * Y.sign < 0) → Z.fdiv Y = q0 ∧ Z.fmod Y = Z - q0 * Y) ∧ (Z - q0 * Y).natAbs < Y.natAbs := by
  have hM : 0 < Y.natAbs := by omega
  have h1 := Nat.div_add_mod Z.natAbs Y.natAbs
  have h2 := Nat.mod_lt Z.natAbs hM
  have h3 : (Y.natAbs : Int) * ((Z.natAbs / Y.natAbs : Nat) : Int) + ((Z.natAbs % Y.natAbs : Nat) : Int) = (Z.natAbs : Int) := by rw [← Int.natCast_mul, ← Int.natCast_add, h1]
  subst hq
  generalize Z.natAbs / Y.natAbs = Q at *
  generalize Z.natAbs % Y.natAbs = R at *
  clear h1
  have hd : ∀ q r : Int, r + Y * q = Z → ((0 ≤ r ∧ r < Y) ∨ (Y < r ∧ r ≤ 0)) → Z.fdiv Y = q ∧ Z.fmod Y = r := fun q r h hr => fdiv_of h hr
  rcases Int.lt_trichotomy Y 0 with hy | hy | hy
  · have e : (Y.natAbs : Int) = -Y := by omega
    rw [e, Int.neg_mul] at h3
    rw [Int.sign_eq_neg_one_of_neg hy]
    rcases Int.lt_trichotomy Z 0 with hz | hz | hz
    · rw [Int.sign_eq_neg_one_of_neg hz]
      have e2 : sg (decide ((-1 : Int) * -1 < 0)) Q = (Q : Int) := rfl
      rw [e2, Int.mul_comm (Q : Int) Y]
      have hq1 := hd Q (Z - Y * Q)
      generalize Y * (Q : Int) = P at *
      have hs : ¬ ((Z - P).sign * -1 < 0) := by
        have : (Z - P).sign ≤ 0 := Int.sign_nonpos_iff.2 (by omega)
        omega
      exact ⟨fun h => absurd h hs, fun _ => hq1 (by omega) (by omega), by omega⟩
    · subst hz
      rw [Int.sign_zero]
      have e2 : sg (decide ((0 : Int) * -1 < 0)) Q = (Q : Int) := rfl
      rw [e2, Int.mul_comm (Q : Int) Y]
      have hq1 := hd Q (0 - Y * Q)
      generalize Y * (Q : Int) = P at *
      have hs : ¬ ((0 - P).sign * -1 < 0) := by
        have : (0 - P).sign ≤ 0 := Int.sign_nonpos_iff.2 (by omega)
        omega
      exact ⟨fun h => absurd h hs, fun _ => hq1 (by omega) (by omega), by omega⟩
    · rw [Int.sign_eq_one_of_pos hz]
      have e2 : sg (decide ((1 : Int) * -1 < 0)) Q = -(Q : Int) := rfl
      rw [e2, Int.neg_mul, Int.mul_comm (Q : Int) Y]
      have hq1 := hd (-Q) (Z - -(Y * Q))
      have hq2 := hd (-Q - 1) (Z - -(Y * Q) + Y)
      rw [Int.mul_neg] at hq1
      rw [Int.mul_sub, Int.mul_one, Int.mul_neg] at hq2
      generalize Y * (Q : Int) = P at *
      by_cases hr : Z - -P = 0
      · have hs : ¬ ((Z - -P).sign * -1 < 0) := by rw [hr, Int.sign_zero]; omega
        exact ⟨fun h => absurd h hs, fun _ => hq1 (by omega) (by omega), by omega⟩
      · have hs : (Z - -P).sign * -1 < 0 := by rw [Int.sign_eq_one_of_pos (show 0 < Z - -P by omega)]; omega
        exact ⟨fun _ => hq2 (by omega) (by omega), fun h => absurd hs h, by omega⟩
  · exact absurd hy hY
  · have e : (Y.natAbs : Int) = Y := by omega
    rw [e] at h3
    rw [Int.sign_eq_one_of_pos hy]
    rcases Int.lt_trichotomy Z 0 with hz | hz | hz
    · rw [Int.sign_eq_neg_one_of_neg hz]
      have e2 : sg (decide ((-1 : Int) * 1 < 0)) Q = -(Q : Int) := rfl
      rw [e2, Int.neg_mul, Int.mul_comm (Q : Int) Y]
      have hq1 := hd (-Q) (Z - -(Y * Q))
      have hq2 := hd (-Q - 1) (Z - -(Y * Q) + Y)
      rw [Int.mul_neg] at hq1
      rw [Int.mul_sub, Int.mul_one, Int.mul_neg] at hq2
      generalize Y * (Q : Int) = P at *
      by_cases hr : Z - -P = 0
      · have hs : ¬ ((Z - -P).sign * 1 < 0) := by rw [hr, Int.sign_zero]; omega
        exact ⟨fun h => absurd h hs, fun _ => hq1 (by omega) (by omega), by omega⟩
      · have hs : (Z - -P).sign * 1 < 0 := by rw [Int.sign_eq_neg_one_of_neg (show Z - -P < 0 by omega)]; omega
        exact ⟨fun _ => hq2 (by omega) (by omega), fun h => absurd hs h, by omega⟩
    · subst hz
      rw [Int.sign_zero]
      have e2 : sg (decide ((0 : Int) * 1 < 0)) Q = (Q : Int) := rfl
      rw [e2, Int.mul_comm (Q : Int) Y]
      have hq1 := hd Q (0 - Y * Q)
      generalize Y * (Q : Int) = P at *
      have hs : ¬ ((0 - P).sign * 1 < 0) := by
        have : 0 ≤ (0 - P).sign := Int.sign_nonneg_iff.2 (by omega)
        omega
      exact ⟨fun h => absurd h hs, fun _ => hq1 (by omega) (by omega), by omega⟩
    · rw [Int.sign_eq_one_of_pos hz]
      have e2 : sg (decide ((1 : Int) * 1 < 0)) Q = (Q : Int) := rfl
      rw [e2, Int.mul_comm (Q : Int) Y]
      have hq1 := hd Q (Z - Y * Q)
      generalize Y * (Q : Int) = P at *
      have hs : ¬ ((Z - P).sign * 1 < 0) := by
        have : 0 ≤ (Z - P).sign := Int.sign_nonneg_iff.2 (by omega)
        omega
      exact ⟨fun h => absurd h hs, fun _ => hq1 (by omega) (by omega), by omega⟩

/-- Rounded up. -/
def cdiv (Z Y : Int) : Int := -((-Z).fdiv Y)
theorem cdiv_eq (Z Y : Int) (hY : Y ≠ 0) : cdiv Z Y = if Z.fmod Y = 0 then Z.fdiv Y else Z.fdiv Y + 1 := by
  obtain ⟨h1, h2⟩ := fdiv_back Z Y hY
  unfold cdiv
  by_cases h0 : Z.fmod Y = 0
  · rw [if_pos h0, (fdiv_of (Z := -Z) (Y := Y) (q := -(Z.fdiv Y)) (r := 0) (by rw [Int.mul_neg]; omega) (by omega)).1]
    omega
  · rw [if_neg h0, (fdiv_of (Z := -Z) (Y := Y) (q := -(Z.fdiv Y) - 1) (r := Y - Z.fmod Y) (by rw [Int.mul_sub, Int.mul_neg, Int.mul_one]; omega) (by omega)).1]
    omega
/-- What differs by a multiple of Y and is nearest to 0. -/
def hatN (Z Y : Int) : Int := if Y ≤ 2 * Z.fmod Y then Z.fmod Y - Y else Z.fmod Y
theorem fdiv_small (Z Y : Int) (k : Nat) (h : Z.natAbs < 4294967296 ^ k) : (Z.fdiv Y).natAbs < 4294967296 ^ k := Nat.lt_of_le_of_lt (Int.natAbs_fdiv_le_natAbs Z Y) h
theorem fmod_small (Z Y : Int) (k : Nat) (hY : Y ≠ 0) (h : Y.natAbs < 4294967296 ^ k) : (Z.fmod Y).natAbs < 4294967296 ^ k := by
  obtain ⟨-, h2⟩ := fdiv_back Z Y hY
  exact Nat.lt_of_le_of_lt (by omega) h
theorem hat_small (Z Y : Int) (k : Nat) (hY : 0 < Y) (h : Y.natAbs < 4294967296 ^ k) : (hatN Z Y).natAbs < 4294967296 ^ k := by
  obtain ⟨-, h2⟩ := fdiv_back Z Y (by omega)
  unfold hatN
  refine Nat.lt_of_le_of_lt ?_ h
  split <;> omega
end Go.Proofs.Ytlihnagfmfpdcaa
