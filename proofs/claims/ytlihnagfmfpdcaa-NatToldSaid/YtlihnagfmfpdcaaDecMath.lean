/- Decimal digits of plain numbers. -/
import Derived.Test.YtlihnagfmfpdcaaMath
namespace Go.Proofs.Ytlihnagfmfpdcaa.Dec

/-- The lowest k decimal digits of N as bytes, the highest first. -/
def low (N : Nat) : Nat → List Nat
  | 0 => []
  | k + 1 => (48 + N / 10 ^ k % 10) :: low N k
theorem low_length (N k : Nat) : (low N k).length = k := by
  induction k with
  | zero => rfl
  | succ k ih => simp [low, ih]
theorem low_split (N b a : Nat) : low N (a + b) = low (N / 10 ^ b) a ++ low N b := by
  induction a with
  | zero => simp [low]
  | succ a ih =>
    have e : a + 1 + b = a + b + 1 := by omega
    rw [e, low, ih, low, List.cons_append, Nat.div_div_eq_div_mul, ← Nat.pow_add, Nat.add_comm b a]
theorem low_snoc (N k : Nat) : low N (k + 1) = low (N / 10) k ++ [48 + N % 10] := by
  rw [low_split N 1 k]; simp [low]
theorem low_byte (N k : Nat) : ∀ x ∈ low N k, 48 ≤ x ∧ x ≤ 57 := by
  induction k with
  | zero => intro x hx; simp [low] at hx
  | succ k ih =>
    intro x hx
    simp only [low, List.mem_cons] at hx
    rcases hx with rfl | hx
    · omega
    · exact ih x hx
theorem low_get (N k i : Nat) (h : i < k) : (low N k).getD i 0 = 48 + N / 10 ^ (k - 1 - i) % 10 := by
  induction k generalizing i with
  | zero => omega
  | succ k ih =>
    cases i with
    | zero => simp [low]
    | succ i =>
      have := ih i (by omega)
      have e : k + 1 - 1 - (i + 1) = k - 1 - i := by omega
      rw [e, ← this]
      simp [low]
theorem low_drop (N k j : Nat) (h : j ≤ k) : (low N k).drop j = low N (k - j) := by
  induction j generalizing k with
  | zero => simp
  | succ j ih =>
    obtain ⟨i, rfl⟩ : ∃ i, k = i + 1 := ⟨k - 1, by omega⟩
    have e : i + 1 - (j + 1) = i - j := by omega
    rw [low, List.drop_succ_cons, ih i (by omega), e]
theorem low_mod (N k j : Nat) (h : k ≤ j) : low (N % 10 ^ j) k = low N k := by
  induction k with
  | zero => rfl
  | succ k ih =>
    rw [low, low, ih (by omega)]
    congr 2
    obtain ⟨d, rfl⟩ : ∃ d, j = k + 1 + d := ⟨j - (k + 1), by omega⟩
    rw [Nat.pow_add, Nat.pow_succ, Nat.mul_assoc]
    rw [Nat.mod_mul_right_div_self, Nat.mod_mul_right_mod]

/-- N has k decimal digits (0 has one). -/
def IsLen (N k : Nat) : Prop := 1 ≤ k ∧ N < 10 ^ k ∧ (k = 1 ∨ 10 ^ (k - 1) ≤ N)
theorem isLen_le {N M j k : Nat} (h : IsLen N j) (h' : IsLen M k) (hle : N ≤ M) : j ≤ k := by
  rcases Nat.lt_or_ge k j with hlt | hge
  · rcases h.2.2 with h1 | h1
    · have := h'.1; omega
    · have h2 : 10 ^ k ≤ 10 ^ (j - 1) := Nat.pow_le_pow_right (by omega) (by omega)
      have := h'.2.1
      omega
  · exact hge
theorem isLen_uniq {N j k : Nat} (h : IsLen N j) (h' : IsLen N k) : j = k := by
  have h1 := isLen_le h h' (Nat.le_refl _)
  have h2 := isLen_le h' h (Nat.le_refl _)
  omega

/-- The number of the first i digits. -/
def upto (d : Nat → Nat) : Nat → Nat
  | 0 => 0
  | i + 1 => upto d i * 10 + d i
theorem upto_lt (d : Nat → Nat) (i : Nat) (h : ∀ j, j < i → d j ≤ 9) : upto d i < 10 ^ i := by
  induction i with
  | zero => simp [upto]
  | succ i ih =>
    have h1 := ih (fun j hj => h j (by omega))
    have h2 := h i (by omega)
    rw [upto, Nat.pow_succ]
    omega
theorem upto_low (N k : Nat) (hN : N < 10 ^ k) (d : Nat → Nat) (hd : ∀ i, i < k → d i = N / 10 ^ (k - 1 - i) % 10) : ∀ i, i ≤ k → upto d i = N / 10 ^ (k - i) := by
  intro i
  induction i with
  | zero => intro _; rw [upto, Nat.sub_zero, Nat.div_eq_of_lt hN]
  | succ i ih =>
    intro hi
    rw [upto, ih (by omega), hd i (by omega)]
    have e1 : k - i = k - (i + 1) + 1 := by omega
    have e2 : k - 1 - i = k - (i + 1) := by omega
    rw [e1, e2, Nat.pow_succ, ← Nat.div_div_eq_div_mul]
    omega
theorem limbs_room (i : Nat) : 10 ^ i < 4294967296 ^ (i / 9 + 1) := by
  have h1 : i ≤ 9 * (i / 9 + 1) := by omega
  have h2 : 10 ^ i ≤ 10 ^ (9 * (i / 9 + 1)) := Nat.pow_le_pow_right (by omega) h1
  refine Nat.lt_of_le_of_lt h2 ?_
  rw [Nat.pow_mul]
  exact Nat.pow_lt_pow_left (by omega) (by omega)
theorem digits_room (N m k : Nat) (hN : N < 4294967296 ^ m) (h : 10 ^ k ≤ N) : k < 10 * m := by
  rcases Nat.lt_or_ge k (10 * m) with h1 | h1
  · exact h1
  · have h2 : 10 ^ (10 * m) ≤ 10 ^ k := Nat.pow_le_pow_right (by omega) h1
    have h3 : 4294967296 ^ m ≤ 10 ^ (10 * m) := by
      rw [Nat.pow_mul]
      exact Nat.pow_le_pow_left (by omega) m
    omega
end Go.Proofs.Ytlihnagfmfpdcaa.Dec
