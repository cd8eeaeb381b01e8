/- Binary digits: how many, the upper part of a number digit by digit, a division that goes digit by digit. -/
import Derived.Test.YtlihnagfmfpdcaaMath
namespace Go.Proofs.Ytlihnagfmfpdcaa.Limb
/-- How many binary digits. -/
def bl (n : Nat) : Nat := if n = 0 then 0 else Nat.log2 n + 1
theorem bl_zero : bl 0 = 0 := rfl
theorem bl_half (n : Nat) (h : 0 < n) : bl n = bl (n / 2) + 1 := by
  unfold bl
  rw [if_neg (by omega)]
  by_cases h1 : n = 1
  · subst h1; rfl
  · rw [if_neg (by omega), Nat.log2_def n, if_pos (by omega)]
theorem lt_bl (n : Nat) : n < 2 ^ bl n := by
  induction n using Nat.strongRecOn with
  | _ n ih =>
    rcases Nat.eq_zero_or_pos n with h | h
    · subst h; decide
    · rw [bl_half n h, Nat.pow_succ]
      have := ih (n / 2) (by omega)
      omega
theorem bl_spec (n k : Nat) (h1 : 2 ^ k ≤ n) (h2 : n < 2 ^ (k + 1)) : bl n = k + 1 := by
  induction k generalizing n with
  | zero =>
    have : n = 1 := by simp at h1 h2; omega
    subst this; rfl
  | succ k ih =>
    rw [Nat.pow_succ] at h1 h2
    have hp : 0 < 2 ^ k := Nat.two_pow_pos k
    have h3 : 2 ^ (k + 1) = 2 ^ k * 2 := Nat.pow_succ ..
    rw [bl_half n (by omega), ih (n / 2) (by omega) (by omega)]
theorem bl_ge (n : Nat) (h : 0 < n) : ∃ k, bl n = k + 1 ∧ 2 ^ k ≤ n := by
  induction n using Nat.strongRecOn with
  | _ n ih =>
    by_cases h1 : n = 1
    · subst h1; exact ⟨0, rfl, by decide⟩
    · obtain ⟨k, hk, hle⟩ := ih (n / 2) (by omega) (by omega)
      refine ⟨k + 1, by rw [bl_half n h, hk], ?_⟩
      rw [Nat.pow_succ]
      omega
theorem bl_top (x t j : Nat) (hx : x < 2 ^ j) (ht : 0 < t) : bl (x + 2 ^ j * t) = j + bl t := by
  obtain ⟨k, hk, hle⟩ := bl_ge t ht
  have hlt := lt_bl t
  rw [hk] at hlt
  rw [hk, ← Nat.add_assoc]
  apply bl_spec
  · rw [Nat.pow_add]
    have := Nat.mul_le_mul_left (2 ^ j) hle
    omega
  · rw [Nat.add_assoc, Nat.pow_add]
    have h1 : 2 ^ j * (t + 1) ≤ 2 ^ j * 2 ^ (k + 1) := Nat.mul_le_mul_left _ hlt
    rw [Nat.mul_add] at h1
    omega
theorem bl_le (n k : Nat) (h : n < 2 ^ k) : bl n ≤ k := by
  rcases Nat.eq_zero_or_pos n with h0 | h0
  · subst h0; exact Nat.zero_le _
  · obtain ⟨j, hj, hle⟩ := bl_ge n h0
    rw [hj]
    exact (Nat.pow_lt_pow_iff_right (by omega)).1 (Nat.lt_of_le_of_lt hle h)
/-- The upper part of n from the digit k on. -/
theorem upper_step (n k : Nat) : n / 2 ^ k = 2 * (n / 2 ^ (k + 1)) + n / 2 ^ k % 2 := by
  rw [Nat.pow_succ, ← Nat.div_div_eq_div_mul]
  omega
theorem upper_top (n : Nat) : n / 2 ^ bl n = 0 := Nat.div_eq_of_lt (lt_bl n)
theorem quo_yes (m q b r e : Nat) (h : m = q * b + r) (hr : r < b) (he : e ≤ 1) (hb : b ≤ 2 * r + e) : 2 * m + e = (2 * q + 1) * b + (2 * r + e - b) ∧ 2 * r + e - b < b := by
  refine ⟨?_, by omega⟩
  rw [Nat.add_mul, Nat.one_mul, Nat.mul_assoc]
  subst h
  omega
theorem quo_no (m q b r e : Nat) (h : m = q * b + r) (hb : 2 * r + e < b) : 2 * m + e = (2 * q) * b + (2 * r + e) ∧ 2 * r + e < b := by
  refine ⟨?_, hb⟩
  rw [Nat.mul_assoc]
  subst h
  omega
theorem quo_done (m q b r : Nat) (h : m = q * b + r) (hr : r < b) : q = m / b ∧ r = m % b := by
  subst h
  rw [Nat.mul_comm q b]
  refine ⟨?_, ?_⟩
  · rw [Nat.mul_add_div (by omega), Nat.div_eq_of_lt hr, Nat.add_zero]
  · rw [Nat.mul_add_mod, Nat.mod_eq_of_lt hr]
theorem val_limb (xs : List Nat) (h : Ok xs) (k : Nat) : val xs / 4294967296 ^ k % 4294967296 = limb xs k := by
  induction xs generalizing k with
  | nil => simp [val, limb]
  | cons x xs ih =>
    have hx : x < 4294967296 := h x (by simp)
    have hxs : Ok xs := fun y hy => h y (by simp [hy])
    cases k with
    | zero => simp [val, limb]; omega
    | succ k =>
      have h1 : val (x :: xs) / 4294967296 = val xs := by simp only [val]; omega
      have h2 : limb (x :: xs) (k + 1) = limb xs k := by simp [limb]
      rw [Nat.pow_succ, Nat.mul_comm, ← Nat.div_div_eq_div_mul, h1, h2]
      exact ih hxs k
theorem low_digit (u s : Nat) (hs : s < 32) : u % 4294967296 / 2 ^ s % 2 = u / 2 ^ s % 2 := by
  have h := Nat.testBit_mod_two_pow u 32 s
  rw [Nat.testBit_eq_decide_div_mod_eq, Nat.testBit_eq_decide_div_mod_eq] at h
  have e : (2 : Nat) ^ 32 = 4294967296 := by decide
  rw [e] at h
  simp only [hs, decide_true, Bool.true_and, decide_eq_decide] at h
  have h1 := Nat.mod_two_eq_zero_or_one (u % 4294967296 / 2 ^ s)
  have h2 := Nat.mod_two_eq_zero_or_one (u / 2 ^ s)
  omega
theorem two_pow32 (j : Nat) : (4294967296 : Nat) ^ j = 2 ^ (32 * j) := by
  rw [Nat.pow_mul]
/-- Digit i of the number is digit i % 32 of limb i / 32. -/
theorem digit (xs : List Nat) (h : Ok xs) (i : Nat) : limb xs (i / 32) / 2 ^ (i % 32) % 2 = val xs / 2 ^ i % 2 := by
  rw [← val_limb xs h (i / 32), low_digit _ _ (Nat.mod_lt _ (by decide)), two_pow32, Nat.div_div_eq_div_mul, ← Nat.pow_add, Nat.div_add_mod]
theorem bl_limbs (xs : List Nat) (k : Nat) (h : Ok xs) (hk : xs.length = k + 1) (ht : 0 < limb xs k) : bl (val xs) = 32 * k + bl (limb xs k) := by
  have h1 : val xs = upto xs k + 4294967296 ^ k * limb xs k := by
    rw [← upto_succ, upto_all xs (k + 1) (by omega)]
  have h2 : upto xs k < 2 ^ (32 * k) := by
    have := val_lt (xs.take k) (h.take k)
    rw [List.length_take, Nat.min_eq_left (by omega)] at this
    rw [← two_pow32]
    exact this
  rw [h1, two_pow32]
  exact bl_top _ _ _ h2 ht
end Go.Proofs.Ytlihnagfmfpdcaa.Limb
