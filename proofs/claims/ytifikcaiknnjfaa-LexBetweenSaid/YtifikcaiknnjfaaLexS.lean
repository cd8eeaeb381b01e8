/- The rest of a text: what the contracts of lex say of it, told of the whole text. -/
import Derived.Test.YtifikcaiknnjfaaLexG
namespace Go.Proofs.Ytifikcaiknnjfaa
open Go.RowKit
open Lx

theorem ext_size (s : ByteArray) (i j : Nat) (h : i ≤ j) (hj : j ≤ s.size) : (s.extract i j).size = j - i := by simp; omega
theorem ext_byte (s : ByteArray) (i j k : Nat) (hj : j ≤ s.size) (hk : i + k < j) : byteAt (s.extract i j) k = byteAt s (i + k) := by
  have h1 : k < (s.extract i j).size := by rw [ext_size s i j (by omega) hj]; omega
  rw [byteAt_eq _ _ h1, byteAt_eq s (i + k) (by omega)]
  simp [ByteArray.getElem_eq_getElem_data]
theorem ext_ext (s : ByteArray) (i n k : Nat) (hn : n ≤ s.size) (hk : i + k ≤ n) : (s.extract i n).extract k (n - i) = s.extract (i + k) n := by
  apply ByteArray.ext
  apply Array.ext
  · simp; omega
  · intro j h1 h2
    simp
theorem till_shift {p : Nat → Bool} {f g : Nat → Nat} {a : Nat} (m k : Nat) (h : ∀ j, k ≤ j → j < k + m → g j = f (a + j)) : a + till p g m k = till p f m (a + k) := by
  induction m generalizing k with
  | zero => rfl
  | succ m ih =>
    rw [till, till, h k (Nat.le_refl _) (by omega)]
    split
    · rw [ih (k + 1) (fun j h1 h2 => h j (by omega) (by omega))]; congr 1
    · rfl
theorem stop_ext (p : Nat → Bool) (s : ByteArray) (i : Nat) (hi : i ≤ s.size) : i + stop p (byteAt (s.extract i s.size)) (s.extract i s.size).size 0 = stop p (byteAt s) s.size i := by
  unfold stop
  rw [ext_size s i s.size hi (Nat.le_refl _), Nat.sub_zero]
  exact till_shift _ 0 (fun j _ h2 => ext_byte s i s.size j (Nat.le_refl _) (by omega))
theorem skipGo_shift {f g : Nat → Nat} {a : Nat} (m k : Nat) (com : Bool) (h : ∀ j, k ≤ j → j < k + m → g j = f (a + j)) : a + skipGo g m k com = skipGo f m (a + k) com := by
  induction m generalizing k com with
  | zero => rfl
  | succ m ih =>
    rw [skipGo, skipGo, h k (Nat.le_refl _) (by omega)]
    have e := fun c => ih (k + 1) c (fun j h1 h2 => h j (by omega) (by omega))
    split
    · exact e false
    · split
      · exact e true
      · split
        · rfl
        · exact e com
theorem skip_ext (s : ByteArray) (i : Nat) (hi : i ≤ s.size) : i + skip (byteAt (s.extract i s.size)) (s.extract i s.size).size 0 false = skip (byteAt s) s.size i false := by
  unfold skip
  rw [ext_size s i s.size hi (Nat.le_refl _), Nat.sub_zero]
  exact skipGo_shift _ 0 false (fun j _ h2 => ext_byte s i s.size j (Nat.le_refl _) (by omega))
theorem tokKind_ext (s : ByteArray) (i : Nat) (hi : i < s.size) : tokKind (byteAt (s.extract i s.size) 0) = tokKind (byteAt s i) := by
  rw [ext_byte s i s.size 0 (Nat.le_refl _) (by omega)]; rfl
theorem posAt_ext (s : ByteArray) (i k : Nat) (h : i + k ≤ s.size) : (List.range k).foldl (fun q j => stepP q (byteAt (s.extract i (i + k)) j)) (posAt (byteAt s) i) = posAt (byteAt s) (i + k) := by
  have : ∀ m, m ≤ k → (List.range m).foldl (fun q j => stepP q (byteAt (s.extract i (i + k)) j)) (posAt (byteAt s) i) = posAt (byteAt s) (i + m) := by
    intro m
    induction m with
    | zero => intro _; rfl
    | succ m ih =>
      intro hm
      rw [List.range_succ, List.foldl_append, ih (by omega)]
      show stepP _ _ = posAt _ (i + m + 1)
      rw [posAt, ext_byte s i (i + k) m h (by omega)]
  exact this k (Nat.le_refl _)
end Go.Proofs.Ytifikcaiknnjfaa
