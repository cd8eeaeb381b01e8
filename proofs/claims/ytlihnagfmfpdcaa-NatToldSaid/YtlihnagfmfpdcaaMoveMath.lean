/- Roots and powers of plain numbers; the lower bits of an int. -/
import Derived.Test.YtlihnagfmfpdcaaBitMath
import Derived.Laws.BitsLemmas
import Derived.Laws.BitsAllLaws
namespace Go.Proofs.Ytlihnagfmfpdcaa.Limb

/-- No number above r has a square of at most a. -/
def RootUp (a r : Nat) : Prop := ∀ s, s * s ≤ a → s ≤ r

theorem sq_sum (e d : Nat) : (d + e) * (d + e) = d * d + e * (d + e + d) := by
  rw [Nat.add_mul, Nat.mul_add, Nat.mul_add, Nat.mul_add, Nat.mul_add, Nat.mul_comm d e]
  omega
theorem root_step (a r : Nat) (hr : 0 < r) (h : RootUp a r) : RootUp a ((r + a / r) / 2) := by
  intro s hs
  have h1 := h s hs
  by_cases h2 : s * 2 ≤ r
  · generalize a / r = q
    omega
  · obtain ⟨d, rfl⟩ : ∃ d, r = s + d := ⟨r - s, by omega⟩
    obtain ⟨e, rfl⟩ : ∃ e, s = d + e := ⟨s - d, by omega⟩
    have h3 : e ≤ a / (d + e + d) := by
      rw [Nat.le_div_iff_mul_le hr]
      have := sq_sum e d
      omega
    omega
theorem root_stop (a r : Nat) (hr : 0 < r) (h : r ≤ (r + a / r) / 2) : r * r ≤ a := by
  have h1 : r ≤ a / r := by omega
  exact (Nat.le_div_iff_mul_le hr).1 h1
theorem root_start (a s k : Nat) (h : RootUp (a / 2 ^ (2 * k)) s) : RootUp a ((s + 1) * 2 ^ k) := by
  intro t ht
  have hp : 0 < 2 ^ k := Nat.pow_pos (by omega)
  have e : 2 ^ (2 * k) = 2 ^ k * 2 ^ k := by rw [← Nat.pow_add]; congr 1; omega
  rw [e] at h
  generalize 2 ^ k = p at *
  have h1 : t / p ≤ s := by
    refine h _ ?_
    rw [Nat.le_div_iff_mul_le (Nat.mul_pos hp hp)]
    have h2 : t / p * p ≤ t := Nat.div_mul_le_self t p
    have h3 := Nat.mul_le_mul h2 h2
    have h4 : t / p * p * (t / p * p) = t / p * (t / p) * (p * p) := by
      rw [Nat.mul_assoc, Nat.mul_left_comm p, ← Nat.mul_assoc]
    omega
  have h5 := Nat.div_add_mod t p
  have h6 := Nat.mod_lt t hp
  have h7 : (t / p + 1) * p ≤ (s + 1) * p := Nat.mul_le_mul_right p (by omega)
  rw [Nat.add_mul] at h7
  rw [Nat.mul_comm p] at h5
  omega
theorem root_next (a r : Nat) (h : RootUp a r) : a < (r + 1) * (r + 1) := by
  rcases Nat.lt_or_ge a ((r + 1) * (r + 1)) with h1 | h1
  · exact h1
  · have := h _ h1
    omega
theorem root_uniq (a r s : Nat) (h1 : r * r ≤ a) (h2 : RootUp a r) (h3 : s * s ≤ a) (h4 : a < (s + 1) * (s + 1)) : r = s := by
  have a1 := h2 s h3
  rcases Nat.lt_or_ge s r with h5 | h5
  · have := Nat.mul_le_mul (show s + 1 ≤ r by omega) (show s + 1 ≤ r by omega)
    omega
  · omega

/-- The root of a word, bit by bit: with the bit of weight p still to be tried, r is at most the root and less than 2 p below the next one. -/
def WordRoot (n r p : Nat) : Prop := r * r ≤ n ∧ n < (r + p) * (r + p) ∧ r % p = 0 ∧ r + p ≤ 4294967296
theorem wordRoot_start (n : Nat) (h : n < 18446744073709551616) : WordRoot n 0 4294967296 := ⟨by omega, by omega, by omega, by omega⟩
theorem wordRoot_yes (n r p : Nat) (h : WordRoot n r (2 * p)) (hle : (r + p) * (r + p) ≤ n) : WordRoot n (r + p) p := by
  obtain ⟨h1, h2, h3, h4⟩ := h
  refine ⟨hle, ?_, ?_, by omega⟩
  · have : r + p + p = r + 2 * p := by omega
    rw [this]; exact h2
  · have h5 := Nat.mod_mod_of_dvd r (show p ∣ 2 * p from ⟨2, by omega⟩)
    rw [h3] at h5
    rw [Nat.add_mod_right, ← h5, Nat.zero_mod]
theorem wordRoot_no (n r p : Nat) (h : WordRoot n r (2 * p)) (hgt : n < (r + p) * (r + p)) : WordRoot n r p := by
  obtain ⟨h1, h2, h3, h4⟩ := h
  refine ⟨h1, hgt, ?_, by omega⟩
  have h5 := Nat.mod_mod_of_dvd r (show p ∣ 2 * p from ⟨2, by omega⟩)
  rw [h3] at h5
  rw [← h5, Nat.zero_mod]
theorem wordRoot_end (n r : Nat) (h : WordRoot n r 1) : r * r ≤ n ∧ RootUp n r := by
  obtain ⟨h1, h2, -, -⟩ := h
  refine ⟨h1, fun s hs => ?_⟩
  rcases Nat.lt_or_ge r s with h5 | h5
  · have := Nat.mul_le_mul (show r + 1 ≤ s by omega) (show r + 1 ≤ s by omega)
    omega
  · exact h5
theorem wordRoot_sq (n r p : Nat) (h : WordRoot n r (2 * p)) (hp : 0 < p) : (r + p) * (r + p) < 18446744073709551616 ∧ r + p < 4294967296 := by
  obtain ⟨-, -, -, h4⟩ := h
  have h5 : r + p ≤ 4294967295 := by omega
  have := Nat.mul_le_mul h5 h5
  omega

/-! ### Powers -/
theorem pow_limbs (a n m : Nat) (h : bl a * n ≤ m) : a ^ n < 4294967296 ^ (m / 32 + 1) := by
  have h1 : a ^ n ≤ 2 ^ (bl a * n) := by
    rw [Nat.pow_mul]
    exact Nat.pow_le_pow_left (Nat.le_of_lt (lt_bl a)) n
  rw [two_pow32]
  refine Nat.lt_of_le_of_lt h1 (Nat.pow_lt_pow_right (by omega) (by omega))
theorem pow_less (a n k m : Nat) (hk : k ≤ n) (h : bl a = 0 ∨ n ≤ m / bl a) : a ^ k < 4294967296 ^ (m / 32 + 1) := by
  refine pow_limbs a k m ?_
  rcases h with h | h
  · rw [h]; omega
  · have h1 : bl a * (m / bl a) ≤ m := Nat.mul_div_le m (bl a)
    have h2 : bl a * k ≤ bl a * (m / bl a) := Nat.mul_le_mul_left _ (Nat.le_trans hk h)
    omega
theorem pow_twice (a q b : Nat) (hb : b < 2) : a ^ (2 * q + b) = if b = 1 then a ^ q * a ^ q * a else a ^ q * a ^ q := by
  have e : a ^ (2 * q) = a ^ q * a ^ q := by rw [← Nat.pow_add]; congr 1; omega
  by_cases h : b = 1
  · subst h
    rw [if_pos rfl, Nat.pow_succ, e]
  · have : b = 0 := by omega
    subst this
    rw [if_neg (by omega), Nat.add_zero, e]
theorem bl_eq_zero (n : Nat) : bl n = 0 ↔ n = 0 := by
  unfold bl
  split <;> simp_all

/-! ### Halves -/
def halfB (B : Nat) : List Nat → List Nat
  | [] => []
  | x :: xs => (x / 2 + xs.headD 0 % 2 * B) :: halfB B xs
theorem halfB_length (B : Nat) (xs : List Nat) : (halfB B xs).length = xs.length := by
  induction xs with
  | nil => rfl
  | cons x xs ih => simp [halfB, ih]
theorem halfB_limb (B : Nat) (xs : List Nat) (i : Nat) (hi : i < xs.length) : limb (halfB B xs) i = limb xs i / 2 + limb xs (i + 1) % 2 * B := by
  induction xs generalizing i with
  | nil => simp at hi
  | cons x xs ih =>
    cases i with
    | zero => cases xs <;> simp [halfB, limb]
    | succ i =>
      have := ih i (by simpa using hi)
      simpa [halfB, limb] using this
theorem halfB_cons (B x : Nat) (xs : List Nat) : halfB B (x :: xs) = (x / 2 + xs.headD 0 % 2 * B) :: halfB B xs := rfl
def half (xs : List Nat) : List Nat := halfB 2147483648 xs
theorem half_length (xs : List Nat) : (half xs).length = xs.length := halfB_length _ xs
theorem head_mod (xs : List Nat) : xs.headD 0 % 2 = val xs % 2 := by
  cases xs with
  | nil => rfl
  | cons x xs => simp only [List.headD_cons, val]; omega
theorem halfB_ok (B : Nat) (hB : B = 2147483648) (xs : List Nat) (h : Ok xs) : Ok (halfB B xs) := by
  induction xs with
  | nil => exact Ok.nil
  | cons x xs ih =>
    have h1 := h.head
    rw [halfB_cons]
    refine Ok.cons ?_ (ih h.tail)
    have h2 : xs.headD 0 % 2 < 2 := Nat.mod_lt _ (by omega)
    generalize xs.headD 0 % 2 = c at *
    have h3 : c = 0 ∨ c = 1 := by omega
    rcases h3 with h3 | h3 <;> subst h3 <;> omega
theorem halfB_val (B : Nat) (hB : B = 2147483648) (xs : List Nat) : val (halfB B xs) = val xs / 2 := by
  induction xs with
  | nil => rfl
  | cons x xs ih =>
    rw [halfB_cons, val_cons, val_cons, ih, head_mod]
    generalize val xs = v
    have h3 : v % 2 = 0 ∨ v % 2 = 1 := by omega
    rcases h3 with h3 | h3 <;> rw [h3] <;> omega
theorem half_ok (xs : List Nat) (h : Ok xs) : Ok (half xs) := halfB_ok _ rfl xs h
theorem half_val (xs : List Nat) : val (half xs) = val xs / 2 := halfB_val _ rfl xs
theorem half_limb (xs : List Nat) (i : Nat) (hi : i < xs.length) : limb (half xs) i = limb xs i / 2 + limb xs (i + 1) % 2 * 2147483648 := halfB_limb _ xs i hi
theorem half_take (xs : List Nat) (i : Nat) (hi : i < xs.length) : (half xs).take (i + 1) = (half xs).take i ++ [limb xs i / 2 + limb xs (i + 1) % 2 * 2147483648] := by
  rw [← half_limb xs i hi]
  exact take_succ_getD _ i (by rw [half_length]; exact hi)
end Go.Proofs.Ytlihnagfmfpdcaa.Limb
namespace Go.Proofs.Ytlihnagfmfpdcaa
theorem i64_low (n : Int) (k : Nat) (m : Int) (hk : k < 63) (hm : (BitVec.ofInt 64 m).toNat = 2 ^ k - 1) : bits .and .i64 n m = n % ((2 ^ k : Nat) : Int) := by
  have key : (BitVec.ofInt 64 n &&& BitVec.ofInt 64 m).toNat = (n % ((2 ^ 64 : Nat) : Int)).toNat % 2 ^ k := by
    rw [BitVec.toNat_and, BitVec.toNat_ofInt, hm, Nat.and_two_pow_sub_one_eq_mod]
  show IntKind.i64.wrap ((BitVec.ofInt 64 n &&& BitVec.ofInt 64 m).toNat : Nat) = _
  rw [key, IntKind.wrap_i64]
  have h1 : (2 : Nat) ^ k ∣ 2 ^ 64 := Nat.pow_dvd_pow 2 (by omega)
  have h2 : (2 : Nat) ^ k < 2 ^ 63 := Nat.pow_lt_pow_right (by omega) hk
  have h3 : 0 < (2 : Nat) ^ k := Nat.pow_pos (by omega)
  obtain ⟨q, hq⟩ := h1
  have h4 : (n % ((2 ^ 64 : Nat) : Int)).toNat % 2 ^ k < 2 ^ k := Nat.mod_lt _ h3
  have h5 : (((n % ((2 ^ 64 : Nat) : Int)).toNat % 2 ^ k : Nat) : Int) = n % ((2 ^ k : Nat) : Int) := by
    rw [Int.natCast_emod, Int.toNat_of_nonneg (Int.emod_nonneg _ (by decide))]
    exact Int.emod_emod_of_dvd n (Int.natCast_dvd_natCast.2 ⟨q, hq⟩)
  rw [← h5]
  have h6 : (2 : Nat) ^ 63 = 9223372036854775808 := by decide
  omega
theorem i64_low31 (n : Int) : bits .and .i64 n 31 = n % 32 := i64_low n 5 31 (by omega) (by decide)
theorem i64_low2047 (n : Int) : bits .and .i64 n 2047 = n % 2048 := i64_low n 11 2047 (by omega) (by decide)
theorem i64_low1 (n : Int) : bits .and .i64 n 1 = n % 2 := i64_low n 1 1 (by omega) (by decide)
theorem u32_low1 (n : Nat) (h : n < 4294967296) : bits .and .u32 (n : Int) 1 = ((n % 2 : Nat) : Int) := by
  have := u32_and_nat n 1 h (by omega)
  rw [Nat.and_one_is_mod] at this
  exact this
end Go.Proofs.Ytlihnagfmfpdcaa
