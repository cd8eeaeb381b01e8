/- What lex's first and check say of the rest of a text, in the words of LexMath. -/
import Derived.Test.YtifikcaiknnjfaaLexS
namespace Go.Proofs.Ytifikcaiknnjfaa
open Go.RowKit
open Lx

/-- lex's own size of the token at i: nought where no token begins. -/
def tokSize (f : Nat → Nat) (n i : Nat) : Nat :=
  if letB (f i) = true then stop wrdB f n i - i else if digB (f i) = true then stop digB f n i - i else if bigB (f i) = true then 1
  else if 2 ≤ n - i ∧ twoB (f i) (f (i + 1)) = true then 2 else if sgnB (f i) = true then 1 else 0
theorem firstSize_ext (s : ByteArray) (i : Nat) (hi : i < s.size) : firstSize (s.extract i s.size) = tokSize (byteAt s) s.size i := by
  have e0 := ext_byte s i s.size 0 (Nat.le_refl _) (by omega)
  have hz := ext_size s i s.size (by omega) (Nat.le_refl _)
  have h1 := stop_ext wrdB s i (by omega)
  have h2 := stop_ext digB s i (by omega)
  unfold firstSize tokSize sgnSize
  rw [e0, Nat.add_zero]
  by_cases c1 : letB (byteAt s i) = true
  · rw [if_pos c1, if_pos c1]; omega
  · rw [if_neg c1, if_neg c1]
    by_cases c2 : digB (byteAt s i) = true
    · rw [if_pos c2, if_pos c2]; omega
    · rw [if_neg c2, if_neg c2]
      by_cases c3 : bigB (byteAt s i) = true
      · rw [if_pos c3, if_pos c3]
      · rw [if_neg c3, if_neg c3, hz]
        by_cases c4 : 2 ≤ s.size - i
        · rw [ext_byte s i s.size 1 (Nat.le_refl _) (by omega)]
        · have c5 : ∀ P : Prop, ¬ (2 ≤ s.size - i ∧ P) := fun P h => c4 h.1
          rw [if_neg (c5 _), if_neg (c5 _)]
theorem two_sgn {x y : Nat} (h : twoB x y = true) : sgnB x = true := by
  rcases two_cases h with ⟨rfl, _⟩ | ⟨rfl, _⟩ | ⟨rfl, _⟩ | ⟨rfl, _⟩ | ⟨rfl, _⟩ | ⟨rfl, _⟩ <;> rfl
theorem tokSize_le (f : Nat → Nat) {n i : Nat} (hi : i < n) : i + tokSize f n i ≤ n := by
  have h1 := stop_ge wrdB f (n := n) (i := i) (by omega)
  have h2 := stop_ge digB f (n := n) (i := i) (by omega)
  unfold tokSize
  split
  · omega
  · split
    · omega
    · split
      · omega
      · split
        · omega
        · split <;> omega
theorem tokErr_size (f : Nat → Nat) {n i : Nat} (hi : i < n) : (tokSize f n i = 0 ↔ tokErr f n i = 100) ∧ (tokErr f n i ≠ 100 → i + tokSize f n i = tokEnd f n i) := by
  have h1 := stop_ge wrdB f (n := n) (i := i + 1) (by omega)
  have h2 := stop_ge digB f (n := n) (i := i + 1) (by omega)
  unfold tokSize tokErr tokEnd
  by_cases c1 : letB (f i) = true
  · have e := stop_step wrdB f hi
    rw [if_pos (by unfold wrdB; rw [c1]; rfl)] at e
    simp only [c1, if_true]
    rw [e]
    refine ⟨⟨by omega, ?_⟩, by omega⟩
    split <;> omega
  · simp only [show letB (f i) = false by simpa using c1, Bool.false_eq_true, if_false]
    by_cases c2 : digB (f i) = true
    · have e := stop_step digB f hi
      rw [if_pos c2] at e
      simp only [c2, if_true]
      rw [e]
      refine ⟨⟨by omega, ?_⟩, by omega⟩
      split
      · omega
      · split <;> omega
    · simp only [show digB (f i) = false by simpa using c2, Bool.false_eq_true, if_false]
      by_cases c3 : bigB (f i) = true
      · simp [c3]
      · simp only [show bigB (f i) = false by simpa using c3, Bool.false_eq_true, if_false]
        by_cases c4 : 2 ≤ n - i ∧ twoB (f i) (f (i + 1)) = true
        · have c5 := two_sgn c4.2
          have c6 : i + 1 < n ∧ twoB (f i) (f (i + 1)) = true := ⟨by omega, c4.2⟩
          rw [if_pos c4, if_pos c6]
          simp [c5]
        · have c6 : ¬ (i + 1 < n ∧ twoB (f i) (f (i + 1)) = true) := fun h => c4 ⟨by omega, h.2⟩
          rw [if_neg c4, if_neg c6]
          by_cases c5 : sgnB (f i) = true
          · simp [c5]
          · simp [show sgnB (f i) = false by simpa using c5]
/-- check of the token's text. -/
theorem chk_ext (s : ByteArray) (i : Nat) (hi : i < s.size) : chk (tokKind (byteAt s i)) ((s.extract i s.size).extract 0 (tokSize (byteAt s) s.size i)) = tokErr (byteAt s) s.size i := by
  have hle := tokSize_le (byteAt s) hi
  have hz0 := ext_size s i s.size (by omega) (Nat.le_refl _)
  have hz : ((s.extract i s.size).extract 0 (tokSize (byteAt s) s.size i)).size = tokSize (byteAt s) s.size i := by
    rw [ext_size _ 0 _ (Nat.zero_le _) (by omega)]; rfl
  have hb : 0 < tokSize (byteAt s) s.size i → byteAt ((s.extract i s.size).extract 0 (tokSize (byteAt s) s.size i)) 0 = byteAt s i := by
    intro h
    rw [ext_byte _ 0 _ 0 (by omega) (by omega), ext_byte s i s.size 0 (Nat.le_refl _) (by omega)]
    rfl
  have he := tokErr_size (byteAt s) hi
  unfold chk
  rw [hz]
  by_cases h0 : tokSize (byteAt s) s.size i = 0
  · rw [if_pos h0, he.1.1 h0]
  · rw [if_neg h0, hb (by omega)]
    have hne : tokErr (byteAt s) s.size i ≠ 100 := fun h => h0 (he.1.2 h)
    revert hne
    generalize hts : tokSize (byteAt s) s.size i = z at *
    unfold tokSize at hts
    unfold tokErr tokKind
    by_cases c1 : letB (byteAt s i) = true
    · rw [if_pos c1] at hts
      simp [c1, hts]
    · simp only [show letB (byteAt s i) = false by simpa using c1, Bool.false_eq_true, if_false] at hts ⊢
      by_cases c2 : digB (byteAt s i) = true
      · rw [if_pos c2] at hts
        simp [c2, hts]
      · simp only [show digB (byteAt s i) = false by simpa using c2, Bool.false_eq_true, if_false]
        by_cases c3 : bigB (byteAt s i) = true
        · simp [c3]
        · simp only [show bigB (byteAt s i) = false by simpa using c3, Bool.false_eq_true, if_false]
          by_cases c5 : sgnB (byteAt s i) = true
          · simp [c5]
          · simp [show sgnB (byteAt s i) = false by simpa using c5]
end Go.Proofs.Ytifikcaiknnjfaa
