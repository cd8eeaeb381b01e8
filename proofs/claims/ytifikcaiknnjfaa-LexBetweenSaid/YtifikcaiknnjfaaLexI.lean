/- plumblineref10: Name, Number; that lex's answer the same. -/
import Derived.Test.YtifikcaiknnjfaaLexH
namespace Go.Proofs.Ytifikcaiknnjfaa
open Go.RowKit
open Lx

def wordC (c : Nat) : Bool := decide (1 ≤ clsB c) && decide (clsB c ≤ 3)
def digC (c : Nat) : Bool := decide (clsB c = 2)
theorem wordC_eq {c : Nat} (hc : c < 256) : wordC c = wrdB c := by
  have h : allC (fun c => wordC c == wrdB c) 256 = true := by kernel_rfl
  simpa using allC_spec h hc
theorem digC_eq {c : Nat} (hc : c < 256) : digC c = digB c := by
  have h : allC (fun c => digC c == digB c) 256 = true := by kernel_rfl
  simpa using allC_spec h hc
theorem cls1_eq {c : Nat} (hc : c < 256) : decide (clsB c = 1) = letB c := by
  have h : allC (fun c => decide (clsB c = 1) == letB c) 256 = true := by kernel_rfl
  simpa using allC_spec h hc
/-- p holds of every byte from k on. -/
def allFrom (p : Nat → Bool) (s : ByteArray) (k : Nat) : Bool := decide (stop p (byteAt s) s.size k = s.size)
theorem allFrom_step {p : Nat → Bool} {s : ByteArray} {k : Nat} (h : k < s.size) : allFrom p s k = (p (byteAt s k) && allFrom p s (k + 1)) := by
  unfold allFrom
  rw [stop_step _ _ h]
  cases hp : p (byteAt s k) with
  | true => simp
  | false => simp; omega
theorem allFrom_end (p : Nat → Bool) (s : ByteArray) : allFrom p s s.size = true := by unfold allFrom; rw [stop_end]; simp
theorem allFrom_congr {p q : Nat → Bool} (s : ByteArray) (h : ∀ c, c < 256 → p c = q c) : allFrom p s 0 = allFrom q s 0 := by
  have : ∀ m k, k + m = s.size → allFrom p s k = allFrom q s k := by
    intro m
    induction m with
    | zero => intro k hk; obtain rfl : k = s.size := by omega
              rw [allFrom_end, allFrom_end]
    | succ m ih => intro k hk; rw [allFrom_step (p := p) (k := k) (by omega), allFrom_step (p := q) (k := k) (by omega), h _ (byteAt_lt s k), ih (k + 1) (by omega)]
  exact this s.size 0 (by omega)
def rnumB (s : ByteArray) : Bool := !(decide (s.size = 0) || decide (60 < s.size) || (decide (1 < s.size) && decide (byteAt s 0 = 48))) && allFrom digC s 0
def rnameB (s : ByteArray) : Bool := !(decide (s.size = 0) || decide (20 < s.size) || !decide (clsB (byteAt s 0) = 1) || resB s) && allFrom wordC s 0
theorem digit_first {s : ByteArray} (h : 0 < s.size) (ha : allFrom digB s 0 = true) : digB (byteAt s 0) = true := by
  rw [allFrom_step h] at ha
  simp at ha
  exact ha.1
theorem dig_not_let {c : Nat} (h : digB c = true) : letB c = false := by unfold digB at h; unfold letB; simp at h ⊢; omega
theorem number_eq (s : ByteArray) : isB 3 s = rnumB s := by
  unfold isB rnumB
  by_cases h0 : s.size = 0
  · simp [h0]
  · rw [show allFrom digC s 0 = allFrom digB s 0 from allFrom_congr s (fun c hc => digC_eq hc)]
    unfold tokKind firstSize chk
    by_cases hd : digB (byteAt s 0) = true
    · have hl := dig_not_let hd
      simp only [hl, hd, Bool.false_eq_true, if_false, if_true, h0]
      rw [show decide (stop digB (byteAt s) s.size 0 = s.size) = allFrom digB s 0 from rfl]
      cases allFrom digB s 0 with
      | false => simp
      | true =>
        generalize s.size = n at *
        generalize byteAt s 0 = b at *
        by_cases h1 : 60 < n
        · simp [h0, h1]
        · by_cases h2 : 1 < n ∧ b = 48
          · simp [h0, h1, h2.1, h2.2]
          · by_cases h3 : 1 < n
            · have h4 : ¬ b = 48 := fun h => h2 ⟨h3, h⟩
              simp [h0, h1, h3, h4]
            · simp [h0, h1, h3]
    · have hn : allFrom digB s 0 = false := by
        cases h : allFrom digB s 0 with
        | false => rfl
        | true => exact absurd (digit_first (by omega) h) hd
      rw [hn, Bool.and_false]
      have hk : ¬ (if letB (byteAt s 0) = true then 1 else if digB (byteAt s 0) = true then 3 else if bigB (byteAt s 0) = true then 4 else 2) = 3 := by
        rw [if_neg hd]
        split
        · omega
        · split <;> omega
      rw [decide_eq_false hk]
      simp
theorem name_eq (s : ByteArray) : (isB 1 s && !resB s) = rnameB s := by
  unfold isB rnameB
  by_cases h0 : s.size = 0
  · simp [h0]
  · rw [show allFrom wordC s 0 = allFrom wrdB s 0 from allFrom_congr s (fun c hc => wordC_eq hc), cls1_eq (byteAt_lt s 0)]
    unfold tokKind firstSize chk
    by_cases hl : letB (byteAt s 0) = true
    · simp only [hl, if_true, h0, if_false]
      rw [show decide (stop wrdB (byteAt s) s.size 0 = s.size) = allFrom wrdB s 0 from rfl]
      cases allFrom wrdB s 0 with
      | false => simp
      | true =>
        generalize resB s = r at *
        generalize s.size = n at *
        by_cases h1 : 20 < n
        · simp [h0, h1]
        · simp [h0, h1]
    · have hk : ¬ (if letB (byteAt s 0) = true then 1 else if digB (byteAt s 0) = true then 3 else if bigB (byteAt s 0) = true then 4 else 2) = 1 := by
        rw [if_neg hl]
        split
        · omega
        · split <;> omega
      rw [decide_eq_false hk, show letB (byteAt s 0) = false by simpa using hl]
      simp
end Go.Proofs.Ytifikcaiknnjfaa
