/- Texts of digits: their order, and the number that they spell. -/
import Derived.Test.YtlihnagfmfpdcaaRefText
import Derived.Test.YtlihnagfmfpdcaaParse
namespace Go.Proofs.Ytlihnagfmfpdcaa
open Go.RowKit

theorem u8n (x : Nat) (h : x < 256) : (UInt8.ofNat x).toNat = x := by
  have : (UInt8.ofNat x).toNat = x % 256 := rfl
  omega
theorem byteAt_str (xs : List Nat) (i : Nat) (h : i < xs.length) (hb : ∀ x ∈ xs, x < 256) : byteAt (Dec.str xs) i = xs.getD i 0 := by
  have hs : i < (Dec.str xs).size := by rw [Dec.str_size]; exact h
  rw [byteAt_eq _ _ hs]
  have e : (Dec.str xs)[i] = (Dec.str xs).data.toList[i]'(by rw [Dec.str_data]; simpa using h) := by simp [ByteArray.getElem_eq_getElem_data]
  rw [e]
  have e2 : (Dec.str xs).data.toList[i]'(by rw [Dec.str_data]; simpa using h) = UInt8.ofNat xs[i] := by simp [Dec.str_data]
  rw [e2, u8n _ (hb _ (List.getElem_mem h)), List.getD_eq_getElem?_getD, List.getElem?_eq_getElem h]
  rfl
theorem byteAt_low (N k i : Nat) (h : i < k) : byteAt (Dec.str (Dec.low N k)) i = 48 + N / 10 ^ (k - 1 - i) % 10 := by
  rw [byteAt_str _ _ (by rw [Dec.low_length]; exact h) (fun x hx => by have := Dec.low_byte N k x hx; omega), Dec.low_get N k i h]
theorem low_allDig (N k : Nat) : allDig (Dec.str (Dec.low N k)) := by
  intro i hi
  rw [Dec.str_size, Dec.low_length] at hi
  rw [byteAt_low N k i hi]
  omega
theorem low_num (N k : Nat) (h : N < 10 ^ k) : numOf (Dec.str (Dec.low N k)) (Dec.str (Dec.low N k)).size = N := by
  rw [Dec.str_size, Dec.low_length]
  unfold numOf
  rw [Dec.upto_low N k h _ (fun i hi => by rw [byteAt_low N k i hi]; omega) k (Nat.le_refl _), Nat.sub_self, Nat.pow_zero, Nat.div_one]
theorem low_size (N k : Nat) : (Dec.str (Dec.low N k)).size = k := by rw [Dec.str_size, Dec.low_length]
theorem low_nought (N k : Nat) (h : N < 10 ^ k) : (⟨#[48]⟩ : ByteArray) ++ Dec.str (Dec.low N k) = Dec.str (Dec.low N (k + 1)) := by
  have := str_cons 48 (Dec.low N k)
  rw [Dec.low, Nat.div_eq_of_lt h]
  exact this
theorem pow_more {N k : Nat} (h : N < 10 ^ k) : N < 10 ^ (k + 1) := Nat.lt_of_lt_of_le h (Nat.pow_le_pow_right (by omega) (by omega))
theorem mod_split (N k : Nat) : N % 10 ^ (k + 1) = N / 10 ^ k % 10 * 10 ^ k + N % 10 ^ k := by
  rw [Nat.pow_succ, Nat.mod_mul, Nat.mul_comm]; omega
theorem dig_lt (d e : Nat) (hd : d < 10) (he : e < 10) : (UInt8.ofNat (48 + d) < UInt8.ofNat (48 + e)) ↔ d < e := by
  rw [UInt8.lt_iff_toNat_lt, u8n _ (by omega), u8n _ (by omega)]
  omega
theorem dig_eq (d e : Nat) (hd : d < 10) (he : e < 10) : (UInt8.ofNat (48 + d) = UInt8.ofNat (48 + e)) ↔ d = e := by
  rw [← UInt8.toNat_inj, u8n _ (by omega), u8n _ (by omega)]
  omega
theorem digit_order (p a b x y : Nat) (hx : x < p) (hy : y < p) : (a * p + x < b * p + y) ↔ (a < b ∨ a = b ∧ x < y) := by
  constructor
  · intro h
    rcases Nat.lt_trichotomy a b with h1 | h1 | h1
    · exact Or.inl h1
    · subst h1; exact Or.inr ⟨rfl, by omega⟩
    · have := Nat.mul_le_mul_right p (show b + 1 ≤ a by omega)
      rw [Nat.add_mul] at this; omega
  · rintro (h | ⟨rfl, h⟩)
    · have := Nat.mul_le_mul_right p (show a + 1 ≤ b by omega)
      rw [Nat.add_mul] at this; omega
    · omega
theorem digit_same (p a b x y : Nat) (hx : x < p) (hy : y < p) : (a * p + x = b * p + y) ↔ (a = b ∧ x = y) := by
  have h1 := digit_order p a b x y hx hy
  have h2 := digit_order p b a y x hy hx
  omega
theorem less_low (N M k : Nat) : Op.bytesLess ((Dec.low N k).map UInt8.ofNat) ((Dec.low M k).map UInt8.ofNat) = decide (N % 10 ^ k < M % 10 ^ k) := by
  induction k with
  | zero => simp [Dec.low, Op.bytesLess, Nat.mod_one]
  | succ k ih =>
    have hp : 0 < 10 ^ k := Nat.pow_pos (by omega)
    rw [Dec.low, Dec.low, List.map_cons, List.map_cons, Op.bytesLess, ih, mod_split N k, mod_split M k]
    have h1 := dig_lt (N / 10 ^ k % 10) (M / 10 ^ k % 10) (Nat.mod_lt _ (by omega)) (Nat.mod_lt _ (by omega))
    have h2 := dig_eq (N / 10 ^ k % 10) (M / 10 ^ k % 10) (Nat.mod_lt _ (by omega)) (Nat.mod_lt _ (by omega))
    have h3 := digit_order (10 ^ k) (N / 10 ^ k % 10) (M / 10 ^ k % 10) (N % 10 ^ k) (M % 10 ^ k) (Nat.mod_lt _ hp) (Nat.mod_lt _ hp)
    rw [Bool.eq_iff_iff]
    simp only [Bool.or_eq_true, Bool.and_eq_true, decide_eq_true_eq, beq_iff_eq]
    rw [h1, h2, h3]
theorem same_low (N M k : Nat) : ((Dec.low N k).map UInt8.ofNat == (Dec.low M k).map UInt8.ofNat) = decide (N % 10 ^ k = M % 10 ^ k) := by
  induction k with
  | zero => simp [Dec.low, Nat.mod_one]
  | succ k ih =>
    have hp : 0 < 10 ^ k := Nat.pow_pos (by omega)
    have h2 := dig_eq (N / 10 ^ k % 10) (M / 10 ^ k % 10) (Nat.mod_lt _ (by omega)) (Nat.mod_lt _ (by omega))
    have h3 := digit_same (10 ^ k) (N / 10 ^ k % 10) (M / 10 ^ k % 10) (N % 10 ^ k) (M % 10 ^ k) (Nat.mod_lt _ hp) (Nat.mod_lt _ hp)
    rw [Dec.low, Dec.low, List.map_cons, List.map_cons, List.cons_beq_cons, ih, mod_split N k, mod_split M k]
    rw [Bool.eq_iff_iff]
    simp only [Bool.and_eq_true, decide_eq_true_eq, beq_iff_eq]
    rw [h2, h3]
theorem low_toList (N k : Nat) : (Dec.str (Dec.low N k)).toList = (Dec.low N k).map UInt8.ofNat := by rw [Lib.toList_data, Dec.str_data]
/-- Texts of as many digits stand in the order of their numbers. -/
theorem text_less {N M : Nat} (h : Dec.dlen N = Dec.dlen M) : Op.bytesLess (Dec.text N).toList (Dec.text M).toList = decide (N < M) := by
  unfold Dec.text
  have h1 := (Dec.dlen_is N).2.1
  have h2 := (Dec.dlen_is M).2.1
  rw [← h] at h2 ⊢
  rw [low_toList, low_toList, less_low, Nat.mod_eq_of_lt h1, Nat.mod_eq_of_lt h2]
theorem text_same {N M : Nat} (h : Dec.dlen N = Dec.dlen M) : ((Dec.text N).toList == (Dec.text M).toList) = decide (N = M) := by
  unfold Dec.text
  have h1 := (Dec.dlen_is N).2.1
  have h2 := (Dec.dlen_is M).2.1
  rw [← h] at h2 ⊢
  rw [low_toList, low_toList, same_low, Nat.mod_eq_of_lt h1, Nat.mod_eq_of_lt h2]
theorem dlen_less {N M : Nat} (h : Dec.dlen N ≠ Dec.dlen M) : decide (Dec.dlen N < Dec.dlen M) = decide (N < M) := by
  have h1 := fun hl => Dec.isLen_le (Dec.dlen_is N) (Dec.dlen_is M) hl
  have h2 := fun hl => Dec.isLen_le (Dec.dlen_is M) (Dec.dlen_is N) hl
  rw [decide_eq_decide]
  constructor
  · intro h3
    rcases Nat.lt_or_ge N M with h4 | h4
    · exact h4
    · have := h2 h4; omega
  · intro h3
    have := h1 (by omega)
    omega
theorem isLen_dlen0 : Dec.dlen 0 = 1 := Dec.isLen_uniq (Dec.dlen_is 0) ⟨by omega, by omega, Or.inl rfl⟩
theorem first_byte {N : Nat} (h : 1 < Dec.dlen N) : byteAt (Dec.text N) 0 ≠ 48 := by
  unfold Dec.text
  rw [byteAt_low N _ 0 (by omega), Nat.sub_zero]
  have h0 : N ≠ 0 := by
    rintro rfl
    have := isLen_dlen0
    omega
  have := Dec.top_digit N _ (Dec.dlen_is N) h0
  omega
end Go.Proofs.Ytlihnagfmfpdcaa
