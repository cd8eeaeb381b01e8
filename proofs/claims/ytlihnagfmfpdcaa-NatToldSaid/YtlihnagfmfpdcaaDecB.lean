/- The text of a plain number in decimal digits. -/
import Derived.Test.YtlihnagfmfpdcaaDecMath
import Derived.Laws.BytesArg
namespace Go.Proofs.Ytlihnagfmfpdcaa.Dec

def dlen (N : Nat) : Nat := if h : N < 10 then 1 else dlen (N / 10) + 1
termination_by N
decreasing_by omega
theorem dlen_pos (N : Nat) : 1 ≤ dlen N := by rw [dlen]; split <;> omega
theorem dlen_is (N : Nat) : IsLen N (dlen N) := by
  induction N using Nat.strongRecOn with
  | _ N ih =>
    rw [dlen]
    split
    · rename_i h
      exact ⟨Nat.le_refl _, by simpa using h, Or.inl rfl⟩
    · rename_i h
      obtain ⟨h1, h2, h3⟩ := ih (N / 10) (by omega)
      refine ⟨by omega, ?_, Or.inr ?_⟩
      · rw [Nat.pow_succ]; omega
      · rw [Nat.add_sub_cancel]
        rcases h3 with h3 | h3
        · rw [h3]; omega
        · obtain ⟨k, hk⟩ : ∃ k, dlen (N / 10) = k + 1 := ⟨dlen (N / 10) - 1, by omega⟩
          rw [hk] at h3 ⊢
          rw [Nat.add_sub_cancel] at h3
          rw [Nat.pow_succ]; omega
/-- The first digit of a number that isn't 0. -/
theorem top_digit (N k : Nat) (h : IsLen N k) (h0 : N ≠ 0) : N / 10 ^ (k - 1) % 10 ≠ 0 := by
  obtain ⟨h1, h2, h3⟩ := h
  obtain ⟨j, rfl⟩ : ∃ j, k = j + 1 := ⟨k - 1, by omega⟩
  rw [Nat.add_sub_cancel] at h3 ⊢
  rw [Nat.pow_succ] at h2
  have hp : 0 < 10 ^ j := Nat.pow_pos (by omega)
  have h4 : N / 10 ^ j < 10 := Nat.div_lt_of_lt_mul (by omega)
  have h5 : 1 ≤ N / 10 ^ j := by
    rcases h3 with h3 | h3
    · have : j = 0 := by omega
      subst this
      simp; omega
    · exact (Nat.le_div_iff_mul_le hp).2 (by omega)
  omega
theorem digit_beyond (N k j : Nat) (h : N < 10 ^ k) (hj : k ≤ j) : N / 10 ^ j % 10 = 0 := by
  rw [Nat.div_eq_of_lt (Nat.lt_of_lt_of_le h (Nat.pow_le_pow_right (by omega) hj))]
/-- A digit of a group of nine. -/
theorem group_digit (N i j : Nat) (hj : j < 9) : N / 10 ^ (9 * i) % 1000000000 / 10 ^ j % 10 = N / 10 ^ (9 * i + j) % 10 := by
  have e : (1000000000 : Nat) = 10 ^ j * 10 ^ (9 - j) := by rw [← Nat.pow_add, show j + (9 - j) = 9 by omega]
  rw [e, Nat.mod_mul_right_div_self, Nat.div_div_eq_div_mul, ← Nat.pow_add]
  obtain ⟨k, hk⟩ : ∃ k, 9 - j = k + 1 := ⟨8 - j, by omega⟩
  rw [hk, Nat.pow_succ, Nat.mul_comm (10 ^ k) 10, Nat.mod_mul_right_mod]
def str (xs : List Nat) : ByteArray := strOfNums (xs.map fun (x : Nat) => (x : Int))
theorem str_size (xs : List Nat) : (str xs).size = xs.length := by rw [str, strOfNums_size, List.length_map]
theorem str_data (xs : List Nat) : (str xs).data.toList = xs.map fun n => UInt8.ofNat n := by
  rw [str, strOfNums_data, List.map_map]
  rfl
/-- The text of N. -/
def text (N : Nat) : ByteArray := str (low N (dlen N))
theorem text_size (N : Nat) : (text N).size = dlen N := by rw [text, str_size, low_length]
theorem div_group (N i : Nat) : N / 10 ^ (9 * i) / 1000000000 = N / 10 ^ (9 * (i + 1)) := by
  rw [Nat.div_div_eq_div_mul, show (1000000000 : Nat) = 10 ^ 9 from rfl, ← Nat.pow_add, show 9 * i + 9 = 9 * (i + 1) by omega]
/-- Room for one group more. -/
theorem group_room (N m i : Nat) (hN : N < 4294967296 ^ m) (h : N / 10 ^ (9 * i) ≠ 0) : 9 * (i + 1) ≤ 10 * m + 8 := by
  have h1 : 10 ^ (9 * i) ≤ N := by
    rcases Nat.lt_or_ge N (10 ^ (9 * i)) with h2 | h2
    · exact absurd (Nat.div_eq_of_lt h2) h
    · exact h2
  have := digits_room N m (9 * i) hN h1
  omega
end Go.Proofs.Ytlihnagfmfpdcaa.Dec
