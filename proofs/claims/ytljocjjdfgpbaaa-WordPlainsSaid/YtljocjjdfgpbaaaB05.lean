/- Texts of one seat, put together: LexMath LexCx LexA LexTok LexKIn LexSame. -/
import Derived.Test.YtljocjjdfgpbaaaProg
import Derived.Laws.ComplexArith
import Derived.Test.YtljocjjdfgpbaaaB01
import Derived.Test.YtljocjjdfgpbaaaB02
import Derived.Test.YtljocjjdfgpbaaaB04
import Derived.Deep.DeepCutAuto
set_option linter.unusedVariables false
/- Tokens of a text, on plain numbers: f gives the bytes, n their number. -/
namespace Go.Proofs.Ytljocjjdfgpbaaa.Lx

def letB (c : Nat) : Bool := decide (97 ≤ c) && decide (c ≤ 122)
def digB (c : Nat) : Bool := decide (48 ≤ c) && decide (c ≤ 57)
def wrdB (c : Nat) : Bool := letB c || digB c || c == 95
def bigB (c : Nat) : Bool := c == 88 || c == 71 || c == 70 || c == 85 || c == 82
def sgnB (c : Nat) : Bool := [40, 41, 44, 59, 58, 46, 43, 42, 38, 124, 33, 64, 61, 60, 62, 47, 45].contains c
def twoB (a b : Nat) : Bool := (a == 45 && b == 62) || (a == 58 && b == 61) || (a == 33 && b == 61) || (a == 60 && b == 61) || (a == 62 && b == 61) || (a == 46 && b == 46)
/-- The first place from i on, of m places, at which p does not hold. -/
def till (p : Nat → Bool) (f : Nat → Nat) : Nat → Nat → Nat
  | 0, i => i
  | m + 1, i => if p (f i) then till p f m (i + 1) else i
def stop (p : Nat → Bool) (f : Nat → Nat) (n i : Nat) : Nat := till p f (n - i) i
theorem till_ge (p : Nat → Bool) (f : Nat → Nat) (m i : Nat) : i ≤ till p f m i ∧ till p f m i ≤ i + m := by
  induction m generalizing i with
  | zero => simp [till]
  | succ m ih =>
    rw [till]
    split
    · have := ih (i + 1); omega
    · omega
theorem stop_ge (p : Nat → Bool) (f : Nat → Nat) {n i : Nat} (h : i ≤ n) : i ≤ stop p f n i ∧ stop p f n i ≤ n := by
  have := till_ge p f (n - i) i
  unfold stop
  omega
theorem stop_step (p : Nat → Bool) (f : Nat → Nat) {n i : Nat} (h : i < n) : stop p f n i = if p (f i) then stop p f n (i + 1) else i := by
  unfold stop
  obtain ⟨m, hm⟩ : ∃ m, n - i = m + 1 := ⟨n - i - 1, by omega⟩
  rw [hm, till, show n - (i + 1) = m by omega]
theorem stop_end (p : Nat → Bool) (f : Nat → Nat) (n : Nat) : stop p f n n = n := by unfold stop; rw [Nat.sub_self]; rfl
/-- Blanks and remarks. -/
def skipGo (f : Nat → Nat) : Nat → Nat → Bool → Nat
  | 0, i, _ => i
  | m + 1, i, com => if f i = 10 then skipGo f m (i + 1) false else if f i = 35 then skipGo f m (i + 1) true else if com = false ∧ f i ≠ 32 ∧ f i ≠ 9 then i else skipGo f m (i + 1) com
def skip (f : Nat → Nat) (n i : Nat) (com : Bool) : Nat := skipGo f (n - i) i com
theorem skip_step (f : Nat → Nat) {n i : Nat} (com : Bool) (h : i < n) : skip f n i com = if f i = 10 then skip f n (i + 1) false else if f i = 35 then skip f n (i + 1) true else if com = false ∧ f i ≠ 32 ∧ f i ≠ 9 then i else skip f n (i + 1) com := by
  unfold skip
  obtain ⟨m, hm⟩ : ∃ m, n - i = m + 1 := ⟨n - i - 1, by omega⟩
  rw [hm, skipGo, show n - (i + 1) = m by omega]
theorem skip_end (f : Nat → Nat) (n : Nat) (com : Bool) : skip f n n com = n := by unfold skip; rw [Nat.sub_self]; rfl
theorem skipGo_ge (f : Nat → Nat) (m i : Nat) (com : Bool) : i ≤ skipGo f m i com ∧ skipGo f m i com ≤ i + m := by
  induction m generalizing i com with
  | zero => simp [skipGo]
  | succ m ih =>
    rw [skipGo]
    split
    · have := ih (i + 1) false; omega
    · split
      · have := ih (i + 1) true; omega
      · split
        · omega
        · have := ih (i + 1) com; omega
theorem skip_ge (f : Nat → Nat) {n i : Nat} (com : Bool) (h : i ≤ n) : i ≤ skip f n i com ∧ skip f n i com ≤ n := by
  have := skipGo_ge f (n - i) i com
  unfold skip
  omega
/-- A place's line and column. -/
def stepP (p : Nat × Nat) (c : Nat) : Nat × Nat := if c = 10 then (p.1 + 1, 1) else (p.1, p.2 + 1)
def posAt (f : Nat → Nat) : Nat → Nat × Nat
  | 0 => (1, 1)
  | i + 1 => stepP (posAt f i) (f i)
theorem posAt_le (f : Nat → Nat) (i : Nat) : 1 ≤ (posAt f i).1 ∧ (posAt f i).1 ≤ i + 1 ∧ 1 ≤ (posAt f i).2 ∧ (posAt f i).2 ≤ i + 1 := by
  induction i with
  | zero => simp [posAt]
  | succ i ih =>
    rw [posAt, stepP]
    split
    · dsimp only; omega
    · dsimp only; omega
/-- The token that begins at i, below n: its end, its kind, its error. -/
def tokEnd (f : Nat → Nat) (n i : Nat) : Nat :=
  if letB (f i) then stop wrdB f n i else if digB (f i) then stop digB f n i else if bigB (f i) then i + 1 else if i + 1 < n ∧ twoB (f i) (f (i + 1)) = true then i + 2 else i + 1
def tokKind (c : Nat) : Nat := if letB c then 1 else if digB c then 3 else if bigB c then 4 else 2
def tokErr (f : Nat → Nat) (n i : Nat) : Nat :=
  if letB (f i) then (if 20 < stop wrdB f n i - i then 2 else 0)
  else if digB (f i) then (if 60 < stop digB f n i - i then 2 else if 1 < stop digB f n i - i ∧ f i = 48 then 20 else 0)
  else if bigB (f i) then 0 else if sgnB (f i) then 0 else 100
/-- A kind, where the token begins and ends. -/
abbrev Tok := Nat × Nat × Nat
structure Res where
  toks : List Tok
  code : Nat
  off : Nat
def lexGo (f : Nat → Nat) (n : Nat) : Nat → Nat → List Tok → Res
  | 0, i, _ => ⟨[], 0, i⟩
  | m + 1, i, acc =>
    if skip f n i false = n then ⟨acc ++ [(5, n, n)], 0, 0⟩
    else if tokErr f n (skip f n i false) ≠ 0 then ⟨[], tokErr f n (skip f n i false), skip f n i false⟩
    else lexGo f n m (tokEnd f n (skip f n i false)) (acc ++ [(tokKind (f (skip f n i false)), skip f n i false, tokEnd f n (skip f n i false))])
def lexAll (f : Nat → Nat) (n : Nat) : Res := if 16384 < n then ⟨[], 2, 0⟩ else lexGo f n (n + 1) 0 []
theorem tokEnd_gt (f : Nat → Nat) {n i : Nat} (h : i < n) : i < tokEnd f n i ∧ tokEnd f n i ≤ n := by
  unfold tokEnd
  split
  · rename_i hl
    rw [stop_step _ _ h, if_pos (by unfold wrdB; rw [hl]; rfl)]
    have := stop_ge wrdB f (n := n) (i := i + 1) (by omega)
    omega
  · split
    · rename_i hd
      rw [stop_step _ _ h, if_pos hd]
      have := stop_ge digB f (n := n) (i := i + 1) (by omega)
      omega
    · split
      · omega
      · split <;> omega
end Go.Proofs.Ytljocjjdfgpbaaa.Lx
/- Whole numbers below 2^51 as float64: sum, difference and the way back are exact. -/
namespace Go.Proofs.Ytljocjjdfgpbaaa.Lx
open Go

/-- The word of c above nought. -/
def wd (c : Nat) : Nat := (c.log2 + 1022) * 2 ^ 52 + c * 2 ^ (52 - c.log2)
/-- The word of a. -/
def FL (a : Int) : Nat := if a = 0 then 0 else Ieee.double.word (decide (a < 0)) (wd a.natAbs)
theorem log2_spec {c : Nat} (h : 0 < c) : 2 ^ c.log2 ≤ c ∧ c < 2 ^ (c.log2 + 1) := (Nat.log2_eq_iff (by omega)).1 rfl
theorem log2_lt52 {c : Nat} (h0 : 0 < c) (h : c < 2 ^ 52) : c.log2 < 52 := by
  rcases Nat.lt_or_ge c.log2 52 with h1 | h1
  · exact h1
  · have := Nat.pow_le_pow_right (show 0 < 2 by decide) h1
    have := (log2_spec h0).1
    omega
theorem log2_scale {c : Nat} (h0 : 0 < c) (k : Nat) : (c * 2 ^ k).log2 = c.log2 + k := by
  have hp : 0 < 2 ^ k := Nat.pow_pos (by decide)
  have h1 := log2_spec h0
  refine (Nat.log2_eq_iff (by have := Nat.mul_pos h0 hp; omega)).2 ⟨?_, ?_⟩
  · rw [Nat.pow_add]; exact Nat.mul_le_mul_right _ h1.1
  · rw [show c.log2 + k + 1 = (c.log2 + 1) + k by omega, Nat.pow_add 2 (c.log2 + 1)]; exact Nat.mul_lt_mul_of_pos_right h1.2 hp
theorem wd_form {c : Nat} (h0 : 0 < c) (h : c < 2 ^ 52) : ∃ r, r < 2 ^ 52 ∧ c * 2 ^ (52 - c.log2) = 2 ^ 52 + r ∧ wd c = (c.log2 + 1023) * 2 ^ 52 + r := by
  have hl := log2_lt52 h0 h
  have h1 := log2_spec h0
  have hp : 0 < 2 ^ (52 - c.log2) := Nat.pow_pos (by decide)
  have e1 : 2 ^ c.log2 * 2 ^ (52 - c.log2) = 2 ^ 52 := by rw [← Nat.pow_add]; congr 1; omega
  have e2 : 2 ^ (c.log2 + 1) * 2 ^ (52 - c.log2) = 2 ^ 53 := by rw [← Nat.pow_add]; congr 1; omega
  have h2 : 2 ^ 52 ≤ c * 2 ^ (52 - c.log2) := by rw [← e1]; exact Nat.mul_le_mul_right _ h1.1
  have h3 : c * 2 ^ (52 - c.log2) < 2 ^ 53 := by rw [← e2]; exact Nat.mul_lt_mul_of_pos_right h1.2 hp
  refine ⟨c * 2 ^ (52 - c.log2) - 2 ^ 52, by omega, by omega, ?_⟩
  unfold wd
  generalize c * 2 ^ (52 - c.log2) = x at *
  rw [Nat.add_mul, Nat.add_mul]
  omega
theorem wd_lt {c : Nat} (h0 : 0 < c) (h : c < 2 ^ 52) : 2 ^ 52 ≤ wd c ∧ wd c < 2047 * 2 ^ 52 := by
  obtain ⟨r, hr, -, e⟩ := wd_form h0 h
  have hl := log2_lt52 h0 h
  rw [e]
  generalize c.log2 = L at *
  omega
theorem near_of (neg : Bool) {c : Nat} (k : Nat) (h0 : 0 < c) (h : c < 2 ^ 52) : Ieee.double.nearest neg (c * 2 ^ k) (-(k : Int)) = Ieee.double.word neg (wd c) := by
  have hp : 0 < 2 ^ k := Nat.pow_pos (by decide)
  have hl := log2_lt52 h0 h
  have hw := wd_lt h0 h
  unfold Ieee.Format.nearest
  rw [if_neg (by have := Nat.mul_pos h0 hp; omega), log2_scale h0 k]
  have elast : max (-(k : Int) + ((c.log2 + k : Nat) : Int) - (Ieee.double.fractionBits : Int)) Ieee.double.leastPlace = (c.log2 : Int) - 52 := by
    rw [show Ieee.double.leastPlace = -1074 by decide, show Ieee.double.fractionBits = 52 from rfl]
    omega
  dsimp only
  rw [elast]
  have ecut : Ieee.Toward.even.cut neg ((c * 2 ^ k) <<< (-(k : Int) - ((c.log2 : Int) - 52)).toNat) ((c.log2 : Int) - 52 - -(k : Int)).toNat = c * 2 ^ (52 - c.log2) := by
    rcases Nat.le_total (k + c.log2) 52 with hk | hk
    · rw [show ((c.log2 : Int) - 52 - -(k : Int)).toNat = 0 by omega, show (-(k : Int) - ((c.log2 : Int) - 52)).toNat = 52 - c.log2 - k by omega]
      rw [Nat.shiftLeft_eq, Nat.mul_assoc, ← Nat.pow_add, show k + (52 - c.log2 - k) = 52 - c.log2 by omega]
      generalize c * 2 ^ (52 - c.log2) = n
      unfold Ieee.Toward.cut
      simp [Nat.mod_one]
    · rw [show (-(k : Int) - ((c.log2 : Int) - 52)).toNat = 0 by omega, show ((c.log2 : Int) - 52 - -(k : Int)).toNat = c.log2 + k - 52 by omega]
      rw [Nat.shiftLeft_zero]
      have hs : c * 2 ^ k = c * 2 ^ (52 - c.log2) * 2 ^ (c.log2 + k - 52) := by
        rw [Nat.mul_assoc, ← Nat.pow_add, show 52 - c.log2 + (c.log2 + k - 52) = k by omega]
      unfold Ieee.Toward.cut
      rw [log2_scale h0 k, Nat.min_eq_left (by omega), Nat.shiftLeft_eq, Nat.one_mul, hs]
      have hq : 0 < 2 ^ (c.log2 + k - 52) := Nat.pow_pos (by decide)
      generalize c * 2 ^ (52 - c.log2) = n
      generalize 2 ^ (c.log2 + k - 52) = g at *
      dsimp only
      rw [Nat.mul_div_cancel _ hq, Nat.mul_mod_left]
      have h1 : ¬ g < 0 := by omega
      have h2 : ¬ g = 0 := by omega
      simp [h1, h2]
  rw [ecut, show ((c.log2 : Int) - 52 - Ieee.double.leastPlace).toNat = c.log2 + 1022 by rw [show Ieee.double.leastPlace = -1074 by decide]; omega]
  rw [show Ieee.double.binade = 2 ^ 52 from rfl, show Ieee.double.infRung = 2047 * 2 ^ 52 from rfl]
  rw [show (c.log2 + 1022) * 2 ^ 52 + c * 2 ^ (52 - c.log2) = wd c from rfl, Nat.min_eq_left (by omega)]
theorem read_wd (neg : Bool) {c : Nat} (h0 : 0 < c) (h : c < 2 ^ 52) : Ieee.double.read (Ieee.double.word neg (wd c)) = .number neg (c * 2 ^ (52 - c.log2)) (-((52 - c.log2 : Nat) : Int)) := by
  have hl := log2_lt52 h0 h
  have hw := wd_lt h0 h
  obtain ⟨r, hr, e1, e2⟩ := wd_form h0 h
  unfold Ieee.Format.read Ieee.Format.word
  have s1 : (if neg then Ieee.double.signWeight + wd c else wd c) / Ieee.double.signWeight % 2 = neg.toNat := by
    rw [show Ieee.double.signWeight = 2 ^ 63 from rfl]
    cases neg
    · simp only [Bool.false_eq_true, if_false, Bool.toNat_false]; omega
    · simp only [if_true, Bool.toNat_true]; omega
  have s2 : (if neg then Ieee.double.signWeight + wd c else wd c) % Ieee.double.signWeight = wd c := by
    rw [show Ieee.double.signWeight = 2 ^ 63 from rfl]
    cases neg
    · simp only [Bool.false_eq_true, if_false]; omega
    · simp only [if_true]; omega
  dsimp only
  rw [s1, s2, show Ieee.double.binade = 2 ^ 52 from rfl, show Ieee.double.infRung = 2047 * 2 ^ 52 from rfl, if_neg (by omega), if_pos hw.2, e1, e2]
  have m1 : ((c.log2 + 1023) * 2 ^ 52 + r) % 2 ^ 52 = r := by omega
  have m2 : ((c.log2 + 1023) * 2 ^ 52 + r) / 2 ^ 52 = c.log2 + 1023 := by omega
  rw [m1, m2, show Ieee.double.leastPlace = -1074 by decide]
  have hb : (neg.toNat == 1) = neg := by cases neg <;> rfl
  rw [hb, show (-1074 : Int) + ((c.log2 + 1023 - 1 : Nat) : Int) = -((52 - c.log2 : Nat) : Int) by omega]
/-- A datum that stands for a whole number. -/
def Rep (d : Ieee.Datum) (a : Int) (neg0 : Bool) : Prop := ∃ (s : Bool) (k : Nat), d = .number s (a.natAbs * 2 ^ k) (-(k : Int)) ∧ (a < 0 → s = true) ∧ (0 < a → s = false) ∧ (a = 0 → s = neg0)
theorem read_FL {a : Int} (h : a.natAbs < 2 ^ 52) : Rep (Ieee.double.read (FL a)) a false := by
  unfold FL
  by_cases h0 : a = 0
  · subst h0
    have e : ∀ k : Nat, k = 1074 → Ieee.double.read 0 = .number false ((0 : Int).natAbs * 2 ^ k) (-(k : Int)) := by
      intro k hk
      rw [Int.natAbs_zero, Nat.zero_mul, hk]
      decide
    obtain ⟨k, hk⟩ : ∃ k : Nat, k = 1074 := ⟨_, rfl⟩
    exact ⟨false, k, e k hk, by omega, by omega, fun _ => rfl⟩
  · rw [if_neg h0, read_wd _ (by omega) h]
    refine ⟨_, _, rfl, fun h => by simpa using h, fun h => by simp; omega, fun h => absurd h h0⟩
theorem Rep.opp {d : Ieee.Datum} {a : Int} (h : Rep d a false) : Rep d.opposite (-a) true := by
  obtain ⟨s, k, rfl, h1, h2, h3⟩ := h
  refine ⟨!s, k, by simp [Ieee.Datum.opposite], fun h => by rw [h2 (by omega)]; rfl, fun h => by rw [h1 (by omega)]; rfl, fun h => by rw [h3 (by omega)]; rfl⟩
theorem signed_of {s : Bool} {a : Int} {i M : Nat} (h1 : a < 0 → s = true) (h2 : 0 < a → s = false) (hi : i ≤ M) : Ieee.signed s (a.natAbs * 2 ^ i) (-(i : Int) - -(M : Int)).toNat = a * 2 ^ M := by
  unfold Ieee.signed
  rw [show (-(i : Int) - -(M : Int)).toNat = M - i by omega, Nat.shiftLeft_eq, Nat.mul_assoc, ← Nat.pow_add, show i + (M - i) = M by omega]
  rcases Int.lt_trichotomy a 0 with h | h | h
  · rw [h1 h, if_pos rfl]
    rw [show a * 2 ^ M = -((-a) * 2 ^ M) by rw [Int.neg_mul, Int.neg_neg], Int.natCast_mul, show ((a.natAbs : Nat) : Int) = -a by omega]
    push_cast
    rfl
  · subst h; cases s <;> simp
  · rw [h2 h, if_neg (by decide)]
    rw [Int.natCast_mul, show ((a.natAbs : Nat) : Int) = a by omega]
    push_cast
    rfl
theorem sum_of {d e : Ieee.Datum} {a b : Int} {n : Bool} (hd : Rep d a false) (he : Rep e b n) (h : (a + b).natAbs < 2 ^ 52) : (d.sum e).map Ieee.double.write = some (FL (a + b)) := by
  obtain ⟨s, i, rfl, h1, h2, h3⟩ := hd
  obtain ⟨t, j, rfl, g1, g2, g3⟩ := he
  unfold Ieee.Datum.sum
  dsimp only
  obtain ⟨M, hM, hi, hj⟩ : ∃ M : Nat, min (-(i : Int)) (-(j : Int)) = -(M : Int) ∧ i ≤ M ∧ j ≤ M := ⟨max i j, by omega, by omega, by omega⟩
  rw [hM, signed_of h1 h2 hi, signed_of g1 g2 hj, ← Int.add_mul]
  have hpos : (0 : Int) < 2 ^ M := Int.pow_pos (by decide)
  show some (Ieee.double.nearest _ ((a + b) * 2 ^ M).natAbs (-(M : Int))) = _
  unfold FL
  by_cases h0 : a + b = 0
  · rw [h0, Int.zero_mul, if_pos rfl, if_pos rfl]
    have hst : (s && t) = false := by
      rcases Int.lt_trichotomy a 0 with h | h | h
      · rw [g2 (by omega)]; cases s <;> rfl
      · rw [h3 h]; rfl
      · rw [h2 h]; rfl
    rw [hst]
    rfl
  · have hne : ¬ (a + b) * 2 ^ M = 0 := by
      intro hh
      rcases Int.mul_eq_zero.1 hh with hh | hh
      · exact h0 hh
      · omega
    rw [if_neg hne, if_neg h0]
    have hsg : decide ((a + b) * 2 ^ M < 0) = decide (a + b < 0) := by
      by_cases hlt : a + b < 0
      · have : (a + b) * 2 ^ M < 0 := Int.mul_neg_of_neg_of_pos hlt hpos
        simp [hlt, this]
      · have : ¬ (a + b) * 2 ^ M < 0 := by
          have := Int.mul_nonneg (show 0 ≤ a + b by omega) (Int.le_of_lt hpos)
          omega
        simp [hlt, this]
    rw [hsg, Int.natAbs_mul, show ((2 : Int) ^ M).natAbs = 2 ^ M by rw [Int.natAbs_pow]; rfl, near_of _ M (by omega) h]
theorem add_FL {a b : Int} (ha : a.natAbs < 2 ^ 52) (hb : b.natAbs < 2 ^ 52) (h : (a + b).natAbs < 2 ^ 52) : floatBits .add .f64 (FL a) (FL b) = some (FL (a + b)) := sum_of (read_FL ha) (read_FL hb) h
theorem sub_FL {a b : Int} (ha : a.natAbs < 2 ^ 52) (hb : b.natAbs < 2 ^ 52) (h : (a - b).natAbs < 2 ^ 52) : floatBits .sub .f64 (FL a) (FL b) = some (FL (a - b)) := by
  rw [Int.sub_eq_add_neg]
  exact sum_of (read_FL ha) (read_FL hb).opp (by rw [← Int.sub_eq_add_neg]; exact h)
theorem toInt_FL {a : Int} (h : a.natAbs < 2 ^ 52) : floatToIntVal .f64 (FL a) .i64 = some a := by
  unfold floatToIntVal
  have e : (FloatKind.f64.decode (FL a)).toInt .zero = some a := by
    obtain ⟨s, k, e, h1, h2, -⟩ := read_FL h
    show (Ieee.double.read (FL a)).toInt .zero = some a
    rw [e]
    unfold Ieee.Datum.toInt Ieee.Datum.integral
    dsimp only
    have hc : Ieee.Toward.zero.cut s ((a.natAbs * 2 ^ k) <<< (-(k : Int)).toNat) (- -(k : Int)).toNat = a.natAbs := by
      rw [show (-(k : Int)).toNat = 0 by omega, show (- -(k : Int)).toNat = k by omega, Nat.shiftLeft_zero]
      unfold Ieee.Toward.cut
      by_cases h0 : a = 0
      · subst h0; simp
      · rw [log2_scale (by omega) k, Nat.min_eq_left (by omega), Nat.shiftLeft_eq, Nat.one_mul]
        have hq : 0 < 2 ^ k := Nat.pow_pos (by decide)
        dsimp only
        rw [Nat.mul_div_cancel _ hq]
        rfl
    rw [hc]
    have := signed_of (i := 0) (M := 0) h1 h2 (Nat.le_refl _)
    simp at this
    rw [this]
  rw [e]
  dsimp only
  rw [if_pos (by rw [show IntKind.i64.min = -9223372036854775808 from rfl, show IntKind.i64.max = 9223372036854775807 from rfl]; omega)]
theorem FL_one : FL 1 = 4607182418800017408 := by decide
theorem FL_zero : FL 0 = 0 := rfl
end Go.Proofs.Ytljocjjdfgpbaaa.Lx
/- lex: after, pos, blank, isLetter, isDigit, isWordPart, check. -/
namespace Go.Proofs.Ytljocjjdfgpbaaa
open Go.RowKit
open Lx

/-- Byte i of a text. -/
def byteAt (s : ByteArray) (i : Nat) : Nat := if h : i < s.size then (s[i]'h).toNat else 0
theorem byteAt_eq (s : ByteArray) (i : Nat) (h : i < s.size) : byteAt s i = (s[i]'h).toNat := by unfold byteAt; rw [dif_pos h]
theorem byteAt_lt (s : ByteArray) (i : Nat) : byteAt s i < 256 := by
  unfold byteAt
  split
  · exact UInt8.toNat_lt _
  · omega
def cx (p : Nat × Nat) : Value := .complex .f64 (FL p.1) (FL p.2)
def Draws (v : Value) (w : World) (e : Ending) (w' : World) : Prop := e = .returned v ∧ ∃ k, w' = w.drewN k
theorem foldP_le (g : Nat → Nat) (k : Nat) (p : Nat × Nat) (h1 : 1 ≤ p.1) (h2 : 1 ≤ p.2) :
    1 ≤ ((List.range k).foldl (fun q i => stepP q (g i)) p).1 ∧ ((List.range k).foldl (fun q i => stepP q (g i)) p).1 ≤ p.1 + k ∧ 1 ≤ ((List.range k).foldl (fun q i => stepP q (g i)) p).2 ∧ ((List.range k).foldl (fun q i => stepP q (g i)) p).2 ≤ p.2 + k := by
  induction k with
  | zero => simp; omega
  | succ k ih =>
    rw [List.range_succ, List.foldl_append]
    simp only [List.foldl_cons, List.foldl_nil]
    generalize (List.range k).foldl (fun q i => stepP q (g i)) p = q at *
    unfold stepP
    split <;> (dsimp only; omega)
end Go.Proofs.Ytljocjjdfgpbaaa
/- lex.Token in memory: four cells; append of one. -/
namespace Go.Proofs.Ytljocjjdfgpbaaa
open Go.RowKit
open Lx

/-- A token as its cells hold it. -/
structure TK where
  kind : Nat
  text : ByteArray
  line : Nat
  col : Nat
def TK.cells (t : TK) : List Value := [.int .i64 t.kind, .string t.text, .int .i64 t.line, .int .i64 t.col]
def flatK (ts : List TK) : List Value := (ts.map TK.cells).flatten
theorem flatK_append (ps qs : List TK) : flatK (ps ++ qs) = flatK ps ++ flatK qs := by unfold flatK; rw [List.map_append, List.flatten_append]
theorem flatK_mem {ps : List TK} {u : Value} (hu : u ∈ flatK ps) : (∃ z : Int, u = .int .i64 z) ∨ ∃ s, u = .string s := by
  unfold flatK at hu
  obtain ⟨l, hl, hu⟩ := List.mem_flatten.1 hu
  obtain ⟨p, -, rfl⟩ := List.mem_map.1 hl
  simp [TK.cells] at hu
  rcases hu with rfl | rfl | rfl | rfl
  · exact Or.inl ⟨_, rfl⟩
  · exact Or.inr ⟨_, rfl⟩
  · exact Or.inl ⟨_, rfl⟩
  · exact Or.inl ⟨_, rfl⟩
theorem flatK_one (ps : List TK) : ∀ u ∈ flatK ps, u.oneCell' = true := by
  intro u hu
  rcases flatK_mem hu with ⟨z, rfl⟩ | ⟨s, rfl⟩ <;> rfl
theorem flatK_nls (ps : List TK) : NLs (flatK ps) := by
  intro u hu
  rcases flatK_mem hu with ⟨z, rfl⟩ | ⟨s, rfl⟩
  · exact NL.i64 _
  · intro z h; cases h
theorem addr_add (b o j : Nat) : (⟨b, o, none⟩ : Addr).add j = ⟨b, o + j, none⟩ := by
  by_cases hj0 : j = 0
  · subst hj0; rfl
  · simp [Addr.add, hj0]
theorem tok_zero_nls : NLs (Value.agg #[.int .i64 0, .string ⟨#[]⟩, .int .i64 0, .int .i64 0]).cells.toList := by
  show NLs [.int .i64 0, .string ⟨#[]⟩, .int .i64 0, .int .i64 0]
  intro u hu
  simp only [List.mem_cons, List.not_mem_nil, or_false] at hu
  rcases hu with rfl | rfl | rfl | rfl
  · exact NL.i64 _
  · intro z h; cases h
  · exact NL.i64 _
  · exact NL.i64 _
end Go.Proofs.Ytljocjjdfgpbaaa
/- A slice of tokens: what it reads as. -/
namespace Go.Proofs.Ytljocjjdfgpbaaa
open Go.RowKit
open Lx

theorem flatK_cons (t : TK) (ts : List TK) : flatK (t :: ts) = t.cells ++ flatK ts := rfl
theorem flatK_get (ts : List TK) (i : Nat) (t : TK) (h : ts[i]? = some t) : (flatK ts)[4 * i]? = some (.int .i64 t.kind) ∧ (flatK ts)[4 * i + 1]? = some (.string t.text) ∧ (flatK ts)[4 * i + 2]? = some (.int .i64 t.line) ∧ (flatK ts)[4 * i + 3]? = some (.int .i64 t.col) := by
  induction ts generalizing i with
  | nil => simp at h
  | cons q ts ih =>
    rw [flatK_cons]
    cases i with
    | zero =>
      simp at h; subst h
      exact ⟨rfl, rfl, rfl, rfl⟩
    | succ i =>
      have h2 := ih i (by simpa using h)
      have hl : q.cells.length = 4 := rfl
      rw [show 4 * (i + 1) = q.cells.length + 4 * i by rw [hl]; omega, show q.cells.length + 4 * i + 1 = q.cells.length + (4 * i + 1) by omega, show q.cells.length + 4 * i + 2 = q.cells.length + (4 * i + 2) by omega, show q.cells.length + 4 * i + 3 = q.cells.length + (4 * i + 3) by omega,
        List.getElem?_append_right (by omega), List.getElem?_append_right (by omega), List.getElem?_append_right (by omega), List.getElem?_append_right (by omega)]
      simpa using h2
def KIn (w : World) (A : Option Addr) (n : Nat) (ts : List TK) : Prop :=
  ts.length = n ∧ (0 < n → ∃ b o, A = some ⟨b, o, none⟩ ∧ b < w.heap.size ∧ ∀ j u, (flatK ts)[j]? = some u → w.cell? ⟨b, o + j, none⟩ = some u)
theorem KIn.below {w w' : World} {A : Option Addr} {n : Nat} {ts : List TK} (h : KIn w A n ts) (hb : Below w.heap.size w w') : KIn w' A n ts := by
  refine ⟨h.1, fun hn => ?_⟩
  obtain ⟨b, o, e, hlt, hc⟩ := h.2 hn
  refine ⟨b, o, e, Nat.lt_of_lt_of_le hlt hb.size, fun j u hu => ?_⟩
  exact (World.cell?_of_block (w := w) (a := ⟨b, o + j, none⟩) (hb.block b hlt)).trans (hc j u hu)
theorem KIn.at_ {w : World} {A : Option Addr} {n i : Nat} {ts : List TK} (h : KIn w A n ts) (hi : i < n) : ∃ b o t, A = some ⟨b, o, none⟩ ∧ b < w.heap.size ∧ ts[i]? = some t ∧ w.cell? ⟨b, o + i * 4, none⟩ = some (.int .i64 t.kind) ∧ w.cell? ⟨b, o + i * 4 + 1, none⟩ = some (.string t.text) ∧ w.cell? ⟨b, o + i * 4 + 2, none⟩ = some (.int .i64 t.line) ∧ w.cell? ⟨b, o + i * 4 + 3, none⟩ = some (.int .i64 t.col) := by
  obtain ⟨b, o, e, hlt, hc⟩ := h.2 (by omega)
  have hl : i < ts.length := by rw [h.1]; exact hi
  obtain ⟨g0, g1, g2, g3⟩ := flatK_get ts i ts[i] (List.getElem?_eq_getElem hl)
  refine ⟨b, o, ts[i], e, hlt, List.getElem?_eq_getElem hl, ?_, ?_, ?_, ?_⟩
  · rw [show o + i * 4 = o + 4 * i by omega]; exact hc _ _ g0
  · rw [show o + i * 4 + 1 = o + (4 * i + 1) by omega]; exact hc _ _ g1
  · rw [show o + i * 4 + 2 = o + (4 * i + 2) by omega]; exact hc _ _ g2
  · rw [show o + i * 4 + 3 = o + (4 * i + 3) by omega]; exact hc _ _ g3
theorem LRow.kin {T : TypeId} {w : World} {base : Nat} {v : Value} {ts : List TK} (h : LRow T 4 w base v ts.length (flatK ts)) : ∃ A c, v = .slice A ts.length c ∧ ts.length ≤ c ∧ c ≤ 9223372036854775807 ∧ KIn w A ts.length ts := by
  obtain ⟨A, c, rfl, h1, h2, h3⟩ := h.len
  refine ⟨A, c, rfl, h1, h2, rfl, fun hn => ?_⟩
  obtain ⟨g, rfl, hb, hlt, hc⟩ := h.cell hn
  exact ⟨g, 0, rfl, hlt, fun j u hu => by rw [Nat.zero_add]; exact (hc j u hu).1⟩
theorem KIn.only {w w' : World} {A : Option Addr} {n g : Nat} {ts : List TK} (h : KIn w A n ts) (ho : Only g w w') (hne : 0 < n → ∀ a, A = some a → a.block ≠ g) : KIn w' A n ts := by
  refine ⟨h.1, fun hn => ?_⟩
  obtain ⟨b, o, e, hlt, hc⟩ := h.2 hn
  have hb : b ≠ g := hne hn _ e
  refine ⟨b, o, e, Nat.lt_of_lt_of_le hlt ho.size, fun j u hu => ?_⟩
  exact (World.cell?_of_block (w := w) (a := ⟨b, o + j, none⟩) (ho.block b hlt (fun hh => hb (by injection hh)))).trans (hc j u hu)
end Go.Proofs.Ytljocjjdfgpbaaa
/- plumblinelaw10.same of the same tokens, with their places. -/
namespace Go.Proofs.Ytljocjjdfgpbaaa
open Go.RowKit
open Lx

/-- The answer is true, and nothing that was there has turned. -/
def LexYes (w : World) (e : Ending) (w' : World) : Prop := e = .returned (.bool true) ∧ Below w.heap.size w w'
theorem below_cell {w w' : World} {b o : Nat} (h : Below w.heap.size w w') (hlt : b < w.heap.size) : w'.cell? ⟨b, o, none⟩ = w.cell? ⟨b, o, none⟩ :=
  World.cell?_of_block (w := w) (a := ⟨b, o, none⟩) (h.block b hlt)
end Go.Proofs.Ytljocjjdfgpbaaa
