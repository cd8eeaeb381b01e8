/- Tokens of a text, on plain numbers: f gives the bytes, n their number. -/
import Derived.Test.YtifikcaiknnjfaaProg
namespace Go.Proofs.Ytifikcaiknnjfaa.Lx

def letB (c : Nat) : Bool := decide (97 ≤ c) && decide (c ≤ 122)
def digB (c : Nat) : Bool := decide (48 ≤ c) && decide (c ≤ 57)
def wrdB (c : Nat) : Bool := letB c || digB c || c == 95
def bigB (c : Nat) : Bool := c == 88 || c == 71 || c == 70 || c == 85 || c == 82
def sgnB (c : Nat) : Bool := [40, 41, 44, 59, 58, 46, 43, 42, 38, 124, 33, 64, 61, 60, 62, 47, 45].contains c
def twoB (a b : Nat) : Bool := (a == 45 && b == 62) || (a == 58 && b == 61) || (a == 33 && b == 61) || (a == 60 && b == 61) || (a == 62 && b == 61) || (a == 46 && b == 46)
/-- The first place from i on, of m places, at which p does not hold. -/
def till (p : Nat → Bool) (f : Nat → Nat) : Nat → Nat → Nat
  | 0, i => i
  | m + 1, i => if p (f i) then till p f m (i + 1) else i
def stop (p : Nat → Bool) (f : Nat → Nat) (n i : Nat) : Nat := till p f (n - i) i
theorem till_ge (p : Nat → Bool) (f : Nat → Nat) (m i : Nat) : i ≤ till p f m i ∧ till p f m i ≤ i + m := by
  induction m generalizing i with
  | zero => simp [till]
  | succ m ih =>
    rw [till]
    split
    · have := ih (i + 1); omega
    · omega
theorem stop_ge (p : Nat → Bool) (f : Nat → Nat) {n i : Nat} (h : i ≤ n) : i ≤ stop p f n i ∧ stop p f n i ≤ n := by
  have := till_ge p f (n - i) i
  unfold stop
  omega
theorem stop_step (p : Nat → Bool) (f : Nat → Nat) {n i : Nat} (h : i < n) : stop p f n i = if p (f i) then stop p f n (i + 1) else i := by
  unfold stop
  obtain ⟨m, hm⟩ : ∃ m, n - i = m + 1 := ⟨n - i - 1, by omega⟩
  rw [hm, till, show n - (i + 1) = m by omega]
theorem stop_end (p : Nat → Bool) (f : Nat → Nat) (n : Nat) : stop p f n n = n := by unfold stop; rw [Nat.sub_self]; rfl
/-- Blanks and remarks. -/
def skipGo (f : Nat → Nat) : Nat → Nat → Bool → Nat
  | 0, i, _ => i
  | m + 1, i, com => if f i = 10 then skipGo f m (i + 1) false else if f i = 35 then skipGo f m (i + 1) true else if com = false ∧ f i ≠ 32 ∧ f i ≠ 9 then i else skipGo f m (i + 1) com
def skip (f : Nat → Nat) (n i : Nat) (com : Bool) : Nat := skipGo f (n - i) i com
theorem skip_step (f : Nat → Nat) {n i : Nat} (com : Bool) (h : i < n) : skip f n i com = if f i = 10 then skip f n (i + 1) false else if f i = 35 then skip f n (i + 1) true else if com = false ∧ f i ≠ 32 ∧ f i ≠ 9 then i else skip f n (i + 1) com := by
  unfold skip
  obtain ⟨m, hm⟩ : ∃ m, n - i = m + 1 := ⟨n - i - 1, by omega⟩
  rw [hm, skipGo, show n - (i + 1) = m by omega]
theorem skip_end (f : Nat → Nat) (n : Nat) (com : Bool) : skip f n n com = n := by unfold skip; rw [Nat.sub_self]; rfl
theorem skipGo_ge (f : Nat → Nat) (m i : Nat) (com : Bool) : i ≤ skipGo f m i com ∧ skipGo f m i com ≤ i + m := by
  induction m generalizing i com with
  | zero => simp [skipGo]
  | succ m ih =>
    rw [skipGo]
    split
    · have := ih (i + 1) false; omega
    · split
      · have := ih (i + 1) true; omega
      · split
        · omega
        · have := ih (i + 1) com; omega
theorem skip_ge (f : Nat → Nat) {n i : Nat} (com : Bool) (h : i ≤ n) : i ≤ skip f n i com ∧ skip f n i com ≤ n := by
  have := skipGo_ge f (n - i) i com
  unfold skip
  omega
/-- A place's line and column. -/
def stepP (p : Nat × Nat) (c : Nat) : Nat × Nat := if c = 10 then (p.1 + 1, 1) else (p.1, p.2 + 1)
def posAt (f : Nat → Nat) : Nat → Nat × Nat
  | 0 => (1, 1)
  | i + 1 => stepP (posAt f i) (f i)
theorem posAt_le (f : Nat → Nat) (i : Nat) : 1 ≤ (posAt f i).1 ∧ (posAt f i).1 ≤ i + 1 ∧ 1 ≤ (posAt f i).2 ∧ (posAt f i).2 ≤ i + 1 := by
  induction i with
  | zero => simp [posAt]
  | succ i ih =>
    rw [posAt, stepP]
    split
    · dsimp only; omega
    · dsimp only; omega
/-- The token that begins at i, below n: its end, its kind, its error. -/
def tokEnd (f : Nat → Nat) (n i : Nat) : Nat :=
  if letB (f i) then stop wrdB f n i else if digB (f i) then stop digB f n i else if bigB (f i) then i + 1 else if i + 1 < n ∧ twoB (f i) (f (i + 1)) = true then i + 2 else i + 1
def tokKind (c : Nat) : Nat := if letB c then 1 else if digB c then 3 else if bigB c then 4 else 2
def tokErr (f : Nat → Nat) (n i : Nat) : Nat :=
  if letB (f i) then (if 20 < stop wrdB f n i - i then 2 else 0)
  else if digB (f i) then (if 60 < stop digB f n i - i then 2 else if 1 < stop digB f n i - i ∧ f i = 48 then 20 else 0)
  else if bigB (f i) then 0 else if sgnB (f i) then 0 else 100
/-- A kind, where the token begins and ends. -/
abbrev Tok := Nat × Nat × Nat
structure Res where
  toks : List Tok
  code : Nat
  off : Nat
def lexGo (f : Nat → Nat) (n : Nat) : Nat → Nat → List Tok → Res
  | 0, i, _ => ⟨[], 0, i⟩
  | m + 1, i, acc =>
    if skip f n i false = n then ⟨acc ++ [(5, n, n)], 0, 0⟩
    else if tokErr f n (skip f n i false) ≠ 0 then ⟨[], tokErr f n (skip f n i false), skip f n i false⟩
    else lexGo f n m (tokEnd f n (skip f n i false)) (acc ++ [(tokKind (f (skip f n i false)), skip f n i false, tokEnd f n (skip f n i false))])
def lexAll (f : Nat → Nat) (n : Nat) : Res := if 16384 < n then ⟨[], 2, 0⟩ else lexGo f n (n + 1) 0 []
theorem tokEnd_gt (f : Nat → Nat) {n i : Nat} (h : i < n) : i < tokEnd f n i ∧ tokEnd f n i ≤ n := by
  unfold tokEnd
  split
  · rename_i hl
    rw [stop_step _ _ h, if_pos (by unfold wrdB; rw [hl]; rfl)]
    have := stop_ge wrdB f (n := n) (i := i + 1) (by omega)
    omega
  · split
    · rename_i hd
      rw [stop_step _ _ h, if_pos hd]
      have := stop_ge digB f (n := n) (i := i + 1) (by omega)
      omega
    · split
      · omega
      · split <;> omega
end Go.Proofs.Ytifikcaiknnjfaa.Lx
