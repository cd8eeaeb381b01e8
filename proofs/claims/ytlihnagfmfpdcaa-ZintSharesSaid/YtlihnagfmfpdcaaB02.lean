/- Texts of one seat, put together: BitMath MoveMath. -/
import Derived.Test.YtlihnagfmfpdcaaB01
import Derived.Laws.BitsLemmas
import Derived.Laws.BitsAllLaws
/- Binary digits: how many, the upper part of a number digit by digit, a division that goes digit by digit. -/
namespace Go.Proofs.Ytlihnagfmfpdcaa.Limb
/-- How many binary digits. -/
def bl (n : Nat) : Nat := if n = 0 then 0 else Nat.log2 n + 1
theorem bl_zero : bl 0 = 0 := rfl
theorem bl_half (n : Nat) (h : 0 < n) : bl n = bl (n / 2) + 1 := by
  unfold bl
  rw [if_neg (by omega)]
  by_cases h1 : n = 1
  · subst h1; rfl
  · rw [if_neg (by omega), Nat.log2_def n, if_pos (by omega)]
theorem lt_bl (n : Nat) : n < 2 ^ bl n := by
  induction n using Nat.strongRecOn with
  | _ n ih =>
    rcases Nat.eq_zero_or_pos n with h | h
    · subst h; decide
    · rw [bl_half n h, Nat.pow_succ]
      have := ih (n / 2) (by omega)
      omega
theorem bl_spec (n k : Nat) (h1 : 2 ^ k ≤ n) (h2 : n < 2 ^ (k + 1)) : bl n = k + 1 := by
  induction k generalizing n with
  | zero =>
    have : n = 1 := by simp at h1 h2; omega
    subst this; rfl
  | succ k ih =>
    rw [Nat.pow_succ] at h1 h2
    have hp : 0 < 2 ^ k := Nat.two_pow_pos k
    have h3 : 2 ^ (k + 1) = 2 ^ k * 2 := Nat.pow_succ ..
    rw [bl_half n (by omega), ih (n / 2) (by omega) (by omega)]
theorem bl_ge (n : Nat) (h : 0 < n) : ∃ k, bl n = k + 1 ∧ 2 ^ k ≤ n := by
  induction n using Nat.strongRecOn with
  | _ n ih =>
    by_cases h1 : n = 1
    · subst h1; exact ⟨0, rfl, by decide⟩
    · obtain ⟨k, hk, hle⟩ := ih (n / 2) (by omega) (by omega)
      refine ⟨k + 1, by rw [bl_half n h, hk], ?_⟩
      rw [Nat.pow_succ]
      omega
theorem bl_top (x t j : Nat) (hx : x < 2 ^ j) (ht : 0 < t) : bl (x + 2 ^ j * t) = j + bl t := by
  obtain ⟨k, hk, hle⟩ := bl_ge t ht
  have hlt := lt_bl t
  rw [hk] at hlt
  rw [hk, ← Nat.add_assoc]
  apply bl_spec
  · rw [Nat.pow_add]
    have := Nat.mul_le_mul_left (2 ^ j) hle
    omega
  · rw [Nat.add_assoc, Nat.pow_add]
    have h1 : 2 ^ j * (t + 1) ≤ 2 ^ j * 2 ^ (k + 1) := Nat.mul_le_mul_left _ hlt
    rw [Nat.mul_add] at h1
    omega
theorem bl_le (n k : Nat) (h : n < 2 ^ k) : bl n ≤ k := by
  rcases Nat.eq_zero_or_pos n with h0 | h0
  · subst h0; exact Nat.zero_le _
  · obtain ⟨j, hj, hle⟩ := bl_ge n h0
    rw [hj]
    exact (Nat.pow_lt_pow_iff_right (by omega)).1 (Nat.lt_of_le_of_lt hle h)
/-- The upper part of n from the digit k on. -/
theorem upper_step (n k : Nat) : n / 2 ^ k = 2 * (n / 2 ^ (k + 1)) + n / 2 ^ k % 2 := by
  rw [Nat.pow_succ, ← Nat.div_div_eq_div_mul]
  omega
theorem upper_top (n : Nat) : n / 2 ^ bl n = 0 := Nat.div_eq_of_lt (lt_bl n)
theorem quo_yes (m q b r e : Nat) (h : m = q * b + r) (hr : r < b) (he : e ≤ 1) (hb : b ≤ 2 * r + e) : 2 * m + e = (2 * q + 1) * b + (2 * r + e - b) ∧ 2 * r + e - b < b := by
  refine ⟨?_, by omega⟩
  rw [Nat.add_mul, Nat.one_mul, Nat.mul_assoc]
  subst h
  omega
theorem quo_no (m q b r e : Nat) (h : m = q * b + r) (hb : 2 * r + e < b) : 2 * m + e = (2 * q) * b + (2 * r + e) ∧ 2 * r + e < b := by
  refine ⟨?_, hb⟩
  rw [Nat.mul_assoc]
  subst h
  omega
theorem quo_done (m q b r : Nat) (h : m = q * b + r) (hr : r < b) : q = m / b ∧ r = m % b := by
  subst h
  rw [Nat.mul_comm q b]
  refine ⟨?_, ?_⟩
  · rw [Nat.mul_add_div (by omega), Nat.div_eq_of_lt hr, Nat.add_zero]
  · rw [Nat.mul_add_mod, Nat.mod_eq_of_lt hr]
theorem val_limb (xs : List Nat) (h : Ok xs) (k : Nat) : val xs / 4294967296 ^ k % 4294967296 = limb xs k := by
  induction xs generalizing k with
  | nil => simp [val, limb]
  | cons x xs ih =>
    have hx : x < 4294967296 := h x (by simp)
    have hxs : Ok xs := fun y hy => h y (by simp [hy])
    cases k with
    | zero => simp [val, limb]; omega
    | succ k =>
      have h1 : val (x :: xs) / 4294967296 = val xs := by simp only [val]; omega
      have h2 : limb (x :: xs) (k + 1) = limb xs k := by simp [limb]
      rw [Nat.pow_succ, Nat.mul_comm, ← Nat.div_div_eq_div_mul, h1, h2]
      exact ih hxs k
theorem low_digit (u s : Nat) (hs : s < 32) : u % 4294967296 / 2 ^ s % 2 = u / 2 ^ s % 2 := by
  have h := Nat.testBit_mod_two_pow u 32 s
  rw [Nat.testBit_eq_decide_div_mod_eq, Nat.testBit_eq_decide_div_mod_eq] at h
  have e : (2 : Nat) ^ 32 = 4294967296 := by decide
  rw [e] at h
  simp only [hs, decide_true, Bool.true_and, decide_eq_decide] at h
  have h1 := Nat.mod_two_eq_zero_or_one (u % 4294967296 / 2 ^ s)
  have h2 := Nat.mod_two_eq_zero_or_one (u / 2 ^ s)
  omega
theorem two_pow32 (j : Nat) : (4294967296 : Nat) ^ j = 2 ^ (32 * j) := by
  rw [Nat.pow_mul]
/-- Digit i of the number is digit i % 32 of limb i / 32. -/
theorem digit (xs : List Nat) (h : Ok xs) (i : Nat) : limb xs (i / 32) / 2 ^ (i % 32) % 2 = val xs / 2 ^ i % 2 := by
  rw [← val_limb xs h (i / 32), low_digit _ _ (Nat.mod_lt _ (by decide)), two_pow32, Nat.div_div_eq_div_mul, ← Nat.pow_add, Nat.div_add_mod]
theorem bl_limbs (xs : List Nat) (k : Nat) (h : Ok xs) (hk : xs.length = k + 1) (ht : 0 < limb xs k) : bl (val xs) = 32 * k + bl (limb xs k) := by
  have h1 : val xs = upto xs k + 4294967296 ^ k * limb xs k := by
    rw [← upto_succ, upto_all xs (k + 1) (by omega)]
  have h2 : upto xs k < 2 ^ (32 * k) := by
    have := val_lt (xs.take k) (h.take k)
    rw [List.length_take, Nat.min_eq_left (by omega)] at this
    rw [← two_pow32]
    exact this
  rw [h1, two_pow32]
  exact bl_top _ _ _ h2 ht
end Go.Proofs.Ytlihnagfmfpdcaa.Limb
/- Roots and powers of plain numbers; the lower bits of an int. -/
namespace Go.Proofs.Ytlihnagfmfpdcaa.Limb

/-- No number above r has a square of at most a. -/
def RootUp (a r : Nat) : Prop := ∀ s, s * s ≤ a → s ≤ r

theorem sq_sum (e d : Nat) : (d + e) * (d + e) = d * d + e * (d + e + d) := by
  rw [Nat.add_mul, Nat.mul_add, Nat.mul_add, Nat.mul_add, Nat.mul_add, Nat.mul_comm d e]
  omega
theorem root_step (a r : Nat) (hr : 0 < r) (h : RootUp a r) : RootUp a ((r + a / r) / 2) := by
  intro s hs
  have h1 := h s hs
  by_cases h2 : s * 2 ≤ r
  · generalize a / r = q
    omega
  · obtain ⟨d, rfl⟩ : ∃ d, r = s + d := ⟨r - s, by omega⟩
    obtain ⟨e, rfl⟩ : ∃ e, s = d + e := ⟨s - d, by omega⟩
    have h3 : e ≤ a / (d + e + d) := by
      rw [Nat.le_div_iff_mul_le hr]
      have := sq_sum e d
      omega
    omega
theorem root_stop (a r : Nat) (hr : 0 < r) (h : r ≤ (r + a / r) / 2) : r * r ≤ a := by
  have h1 : r ≤ a / r := by omega
  exact (Nat.le_div_iff_mul_le hr).1 h1
theorem root_start (a s k : Nat) (h : RootUp (a / 2 ^ (2 * k)) s) : RootUp a ((s + 1) * 2 ^ k) := by
  intro t ht
  have hp : 0 < 2 ^ k := Nat.pow_pos (by omega)
  have e : 2 ^ (2 * k) = 2 ^ k * 2 ^ k := by rw [← Nat.pow_add]; congr 1; omega
  rw [e] at h
  generalize 2 ^ k = p at *
  have h1 : t / p ≤ s := by
    refine h _ ?_
    rw [Nat.le_div_iff_mul_le (Nat.mul_pos hp hp)]
    have h2 : t / p * p ≤ t := Nat.div_mul_le_self t p
    have h3 := Nat.mul_le_mul h2 h2
    have h4 : t / p * p * (t / p * p) = t / p * (t / p) * (p * p) := by
      rw [Nat.mul_assoc, Nat.mul_left_comm p, ← Nat.mul_assoc]
    omega
  have h5 := Nat.div_add_mod t p
  have h6 := Nat.mod_lt t hp
  have h7 : (t / p + 1) * p ≤ (s + 1) * p := Nat.mul_le_mul_right p (by omega)
  rw [Nat.add_mul] at h7
  rw [Nat.mul_comm p] at h5
  omega
theorem root_next (a r : Nat) (h : RootUp a r) : a < (r + 1) * (r + 1) := by
  rcases Nat.lt_or_ge a ((r + 1) * (r + 1)) with h1 | h1
  · exact h1
  · have := h _ h1
    omega
theorem root_uniq (a r s : Nat) (h1 : r * r ≤ a) (h2 : RootUp a r) (h3 : s * s ≤ a) (h4 : a < (s + 1) * (s + 1)) : r = s := by
  have a1 := h2 s h3
  rcases Nat.lt_or_ge s r with h5 | h5
  · have := Nat.mul_le_mul (show s + 1 ≤ r by omega) (show s + 1 ≤ r by omega)
    omega
  · omega

/-- The root of a word, bit by bit: with the bit of weight p still to be tried, r is at most the root and less than 2 p below the next one. -/
def WordRoot (n r p : Nat) : Prop := r * r ≤ n ∧ n < (r + p) * (r + p) ∧ r % p = 0 ∧ r + p ≤ 4294967296
theorem wordRoot_start (n : Nat) (h : n < 18446744073709551616) : WordRoot n 0 4294967296 := ⟨by omega, by omega, by omega, by omega⟩
theorem wordRoot_yes (n r p : Nat) (h : WordRoot n r (2 * p)) (hle : (r + p) * (r + p) ≤ n) : WordRoot n (r + p) p := by
  obtain ⟨h1, h2, h3, h4⟩ := h
  refine ⟨hle, ?_, ?_, by omega⟩
  · have : r + p + p = r + 2 * p := by omega
    rw [this]; exact h2
  · have h5 := Nat.mod_mod_of_dvd r (show p ∣ 2 * p from ⟨2, by omega⟩)
    rw [h3] at h5
    rw [Nat.add_mod_right, ← h5, Nat.zero_mod]
theorem wordRoot_no (n r p : Nat) (h : WordRoot n r (2 * p)) (hgt : n < (r + p) * (r + p)) : WordRoot n r p := by
  obtain ⟨h1, h2, h3, h4⟩ := h
  refine ⟨h1, hgt, ?_, by omega⟩
  have h5 := Nat.mod_mod_of_dvd r (show p ∣ 2 * p from ⟨2, by omega⟩)
  rw [h3] at h5
  rw [← h5, Nat.zero_mod]
theorem wordRoot_end (n r : Nat) (h : WordRoot n r 1) : r * r ≤ n ∧ RootUp n r := by
  obtain ⟨h1, h2, -, -⟩ := h
  refine ⟨h1, fun s hs => ?_⟩
  rcases Nat.lt_or_ge r s with h5 | h5
  · have := Nat.mul_le_mul (show r + 1 ≤ s by omega) (show r + 1 ≤ s by omega)
    omega
  · exact h5
theorem wordRoot_sq (n r p : Nat) (h : WordRoot n r (2 * p)) (hp : 0 < p) : (r + p) * (r + p) < 18446744073709551616 ∧ r + p < 4294967296 := by
  obtain ⟨-, -, -, h4⟩ := h
  have h5 : r + p ≤ 4294967295 := by omega
  have := Nat.mul_le_mul h5 h5
  omega

/-! ### Powers -/
theorem pow_limbs (a n m : Nat) (h : bl a * n ≤ m) : a ^ n < 4294967296 ^ (m / 32 + 1) := by
  have h1 : a ^ n ≤ 2 ^ (bl a * n) := by
    rw [Nat.pow_mul]
    exact Nat.pow_le_pow_left (Nat.le_of_lt (lt_bl a)) n
  rw [two_pow32]
  refine Nat.lt_of_le_of_lt h1 (Nat.pow_lt_pow_right (by omega) (by omega))
theorem pow_less (a n k m : Nat) (hk : k ≤ n) (h : bl a = 0 ∨ n ≤ m / bl a) : a ^ k < 4294967296 ^ (m / 32 + 1) := by
  refine pow_limbs a k m ?_
  rcases h with h | h
  · rw [h]; omega
  · have h1 : bl a * (m / bl a) ≤ m := Nat.mul_div_le m (bl a)
    have h2 : bl a * k ≤ bl a * (m / bl a) := Nat.mul_le_mul_left _ (Nat.le_trans hk h)
    omega
theorem pow_twice (a q b : Nat) (hb : b < 2) : a ^ (2 * q + b) = if b = 1 then a ^ q * a ^ q * a else a ^ q * a ^ q := by
  have e : a ^ (2 * q) = a ^ q * a ^ q := by rw [← Nat.pow_add]; congr 1; omega
  by_cases h : b = 1
  · subst h
    rw [if_pos rfl, Nat.pow_succ, e]
  · have : b = 0 := by omega
    subst this
    rw [if_neg (by omega), Nat.add_zero, e]
theorem bl_eq_zero (n : Nat) : bl n = 0 ↔ n = 0 := by
  unfold bl
  split <;> simp_all

/-! ### Halves -/
def halfB (B : Nat) : List Nat → List Nat
  | [] => []
  | x :: xs => (x / 2 + xs.headD 0 % 2 * B) :: halfB B xs
theorem halfB_length (B : Nat) (xs : List Nat) : (halfB B xs).length = xs.length := by
  induction xs with
  | nil => rfl
  | cons x xs ih => simp [halfB, ih]
theorem halfB_limb (B : Nat) (xs : List Nat) (i : Nat) (hi : i < xs.length) : limb (halfB B xs) i = limb xs i / 2 + limb xs (i + 1) % 2 * B := by
  induction xs generalizing i with
  | nil => simp at hi
  | cons x xs ih =>
    cases i with
    | zero => cases xs <;> simp [halfB, limb]
    | succ i =>
      have := ih i (by simpa using hi)
      simpa [halfB, limb] using this
theorem halfB_cons (B x : Nat) (xs : List Nat) : halfB B (x :: xs) = (x / 2 + xs.headD 0 % 2 * B) :: halfB B xs := rfl
def half (xs : List Nat) : List Nat := halfB 2147483648 xs
theorem half_length (xs : List Nat) : (half xs).length = xs.length := halfB_length _ xs
theorem head_mod (xs : List Nat) : xs.headD 0 % 2 = val xs % 2 := by
  cases xs with
  | nil => rfl
  | cons x xs => simp only [List.headD_cons, val]; omega
theorem halfB_ok (B : Nat) (hB : B = 2147483648) (xs : List Nat) (h : Ok xs) : Ok (halfB B xs) := by
  induction xs with
  | nil => exact Ok.nil
  | cons x xs ih =>
    have h1 := h.head
    rw [halfB_cons]
    refine Ok.cons ?_ (ih h.tail)
    have h2 : xs.headD 0 % 2 < 2 := Nat.mod_lt _ (by omega)
    generalize xs.headD 0 % 2 = c at *
    have h3 : c = 0 ∨ c = 1 := by omega
    rcases h3 with h3 | h3 <;> subst h3 <;> omega
theorem halfB_val (B : Nat) (hB : B = 2147483648) (xs : List Nat) : val (halfB B xs) = val xs / 2 := by
  induction xs with
  | nil => rfl
  | cons x xs ih =>
    rw [halfB_cons, val_cons, val_cons, ih, head_mod]
    generalize val xs = v
    have h3 : v % 2 = 0 ∨ v % 2 = 1 := by omega
    rcases h3 with h3 | h3 <;> rw [h3] <;> omega
theorem half_ok (xs : List Nat) (h : Ok xs) : Ok (half xs) := halfB_ok _ rfl xs h
theorem half_val (xs : List Nat) : val (half xs) = val xs / 2 := halfB_val _ rfl xs
theorem half_limb (xs : List Nat) (i : Nat) (hi : i < xs.length) : limb (half xs) i = limb xs i / 2 + limb xs (i + 1) % 2 * 2147483648 := halfB_limb _ xs i hi
theorem half_take (xs : List Nat) (i : Nat) (hi : i < xs.length) : (half xs).take (i + 1) = (half xs).take i ++ [limb xs i / 2 + limb xs (i + 1) % 2 * 2147483648] := by
  rw [← half_limb xs i hi]
  exact take_succ_getD _ i (by rw [half_length]; exact hi)
end Go.Proofs.Ytlihnagfmfpdcaa.Limb
namespace Go.Proofs.Ytlihnagfmfpdcaa
theorem i64_low (n : Int) (k : Nat) (m : Int) (hk : k < 63) (hm : (BitVec.ofInt 64 m).toNat = 2 ^ k - 1) : bits .and .i64 n m = n % ((2 ^ k : Nat) : Int) := by
  have key : (BitVec.ofInt 64 n &&& BitVec.ofInt 64 m).toNat = (n % ((2 ^ 64 : Nat) : Int)).toNat % 2 ^ k := by
    rw [BitVec.toNat_and, BitVec.toNat_ofInt, hm, Nat.and_two_pow_sub_one_eq_mod]
  show IntKind.i64.wrap ((BitVec.ofInt 64 n &&& BitVec.ofInt 64 m).toNat : Nat) = _
  rw [key, IntKind.wrap_i64]
  have h1 : (2 : Nat) ^ k ∣ 2 ^ 64 := Nat.pow_dvd_pow 2 (by omega)
  have h2 : (2 : Nat) ^ k < 2 ^ 63 := Nat.pow_lt_pow_right (by omega) hk
  have h3 : 0 < (2 : Nat) ^ k := Nat.pow_pos (by omega)
  obtain ⟨q, hq⟩ := h1
  have h4 : (n % ((2 ^ 64 : Nat) : Int)).toNat % 2 ^ k < 2 ^ k := Nat.mod_lt _ h3
  have h5 : (((n % ((2 ^ 64 : Nat) : Int)).toNat % 2 ^ k : Nat) : Int) = n % ((2 ^ k : Nat) : Int) := by
    rw [Int.natCast_emod, Int.toNat_of_nonneg (Int.emod_nonneg _ (by decide))]
    exact Int.emod_emod_of_dvd n (Int.natCast_dvd_natCast.2 ⟨q, hq⟩)
  rw [← h5]
  have h6 : (2 : Nat) ^ 63 = 9223372036854775808 := by decide
  omega
theorem i64_low31 (n : Int) : bits .and .i64 n 31 = n % 32 := i64_low n 5 31 (by omega) (by decide)
theorem i64_low2047 (n : Int) : bits .and .i64 n 2047 = n % 2048 := i64_low n 11 2047 (by omega) (by decide)
theorem i64_low1 (n : Int) : bits .and .i64 n 1 = n % 2 := i64_low n 1 1 (by omega) (by decide)
theorem u32_low1 (n : Nat) (h : n < 4294967296) : bits .and .u32 (n : Int) 1 = ((n % 2 : Nat) : Int) := by
  have := u32_and_nat n 1 h (by omega)
  rw [Nat.and_one_is_mod] at this
  exact this
end Go.Proofs.Ytlihnagfmfpdcaa
