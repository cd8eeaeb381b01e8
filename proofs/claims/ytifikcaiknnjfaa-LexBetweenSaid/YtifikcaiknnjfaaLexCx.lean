/- Whole numbers below 2^51 as float64: sum, difference and the way back are exact. -/
import Derived.Laws.ComplexArith
import Derived.Test.YtifikcaiknnjfaaProg
namespace Go.Proofs.Ytifikcaiknnjfaa.Lx
open Go

/-- The word of c above nought. -/
def wd (c : Nat) : Nat := (c.log2 + 1022) * 2 ^ 52 + c * 2 ^ (52 - c.log2)
/-- The word of a. -/
def FL (a : Int) : Nat := if a = 0 then 0 else Ieee.double.word (decide (a < 0)) (wd a.natAbs)
theorem log2_spec {c : Nat} (h : 0 < c) : 2 ^ c.log2 ≤ c ∧ c < 2 ^ (c.log2 + 1) := (Nat.log2_eq_iff (by omega)).1 rfl
theorem log2_lt52 {c : Nat} (h0 : 0 < c) (h : c < 2 ^ 52) : c.log2 < 52 := by
  rcases Nat.lt_or_ge c.log2 52 with h1 | h1
  · exact h1
  · have := Nat.pow_le_pow_right (show 0 < 2 by decide) h1
    have := (log2_spec h0).1
    omega
theorem log2_scale {c : Nat} (h0 : 0 < c) (k : Nat) : (c * 2 ^ k).log2 = c.log2 + k := by
  have hp : 0 < 2 ^ k := Nat.pow_pos (by decide)
  have h1 := log2_spec h0
  refine (Nat.log2_eq_iff (by have := Nat.mul_pos h0 hp; omega)).2 ⟨?_, ?_⟩
  · rw [Nat.pow_add]; exact Nat.mul_le_mul_right _ h1.1
  · rw [show c.log2 + k + 1 = (c.log2 + 1) + k by omega, Nat.pow_add 2 (c.log2 + 1)]; exact Nat.mul_lt_mul_of_pos_right h1.2 hp
theorem wd_form {c : Nat} (h0 : 0 < c) (h : c < 2 ^ 52) : ∃ r, r < 2 ^ 52 ∧ c * 2 ^ (52 - c.log2) = 2 ^ 52 + r ∧ wd c = (c.log2 + 1023) * 2 ^ 52 + r := by
  have hl := log2_lt52 h0 h
  have h1 := log2_spec h0
  have hp : 0 < 2 ^ (52 - c.log2) := Nat.pow_pos (by decide)
  have e1 : 2 ^ c.log2 * 2 ^ (52 - c.log2) = 2 ^ 52 := by rw [← Nat.pow_add]; congr 1; omega
  have e2 : 2 ^ (c.log2 + 1) * 2 ^ (52 - c.log2) = 2 ^ 53 := by rw [← Nat.pow_add]; congr 1; omega
  have h2 : 2 ^ 52 ≤ c * 2 ^ (52 - c.log2) := by rw [← e1]; exact Nat.mul_le_mul_right _ h1.1
  have h3 : c * 2 ^ (52 - c.log2) < 2 ^ 53 := by rw [← e2]; exact Nat.mul_lt_mul_of_pos_right h1.2 hp
  refine ⟨c * 2 ^ (52 - c.log2) - 2 ^ 52, by omega, by omega, ?_⟩
  unfold wd
  generalize c * 2 ^ (52 - c.log2) = x at *
  rw [Nat.add_mul, Nat.add_mul]
  omega
theorem wd_lt {c : Nat} (h0 : 0 < c) (h : c < 2 ^ 52) : 2 ^ 52 ≤ wd c ∧ wd c < 2047 * 2 ^ 52 := by
  obtain ⟨r, hr, -, e⟩ := wd_form h0 h
  have hl := log2_lt52 h0 h
  rw [e]
  generalize c.log2 = L at *
  omega
theorem near_of (neg : Bool) {c : Nat} (k : Nat) (h0 : 0 < c) (h : c < 2 ^ 52) : Ieee.double.nearest neg (c * 2 ^ k) (-(k : Int)) = Ieee.double.word neg (wd c) := by
  have hp : 0 < 2 ^ k := Nat.pow_pos (by decide)
  have hl := log2_lt52 h0 h
  have hw := wd_lt h0 h
  unfold Ieee.Format.nearest
  rw [if_neg (by have := Nat.mul_pos h0 hp; omega), log2_scale h0 k]
  have elast : max (-(k : Int) + ((c.log2 + k : Nat) : Int) - (Ieee.double.fractionBits : Int)) Ieee.double.leastPlace = (c.log2 : Int) - 52 := by
    rw [show Ieee.double.leastPlace = -1074 by decide, show Ieee.double.fractionBits = 52 from rfl]
    omega
  dsimp only
  rw [elast]
  have ecut : Ieee.Toward.even.cut neg ((c * 2 ^ k) <<< (-(k : Int) - ((c.log2 : Int) - 52)).toNat) ((c.log2 : Int) - 52 - -(k : Int)).toNat = c * 2 ^ (52 - c.log2) := by
    rcases Nat.le_total (k + c.log2) 52 with hk | hk
    · rw [show ((c.log2 : Int) - 52 - -(k : Int)).toNat = 0 by omega, show (-(k : Int) - ((c.log2 : Int) - 52)).toNat = 52 - c.log2 - k by omega]
      rw [Nat.shiftLeft_eq, Nat.mul_assoc, ← Nat.pow_add, show k + (52 - c.log2 - k) = 52 - c.log2 by omega]
      generalize c * 2 ^ (52 - c.log2) = n
      unfold Ieee.Toward.cut
      simp [Nat.mod_one]
    · rw [show (-(k : Int) - ((c.log2 : Int) - 52)).toNat = 0 by omega, show ((c.log2 : Int) - 52 - -(k : Int)).toNat = c.log2 + k - 52 by omega]
      rw [Nat.shiftLeft_zero]
      have hs : c * 2 ^ k = c * 2 ^ (52 - c.log2) * 2 ^ (c.log2 + k - 52) := by
        rw [Nat.mul_assoc, ← Nat.pow_add, show 52 - c.log2 + (c.log2 + k - 52) = k by omega]
      unfold Ieee.Toward.cut
      rw [log2_scale h0 k, Nat.min_eq_left (by omega), Nat.shiftLeft_eq, Nat.one_mul, hs]
      have hq : 0 < 2 ^ (c.log2 + k - 52) := Nat.pow_pos (by decide)
      generalize c * 2 ^ (52 - c.log2) = n
      generalize 2 ^ (c.log2 + k - 52) = g at *
      dsimp only
      rw [Nat.mul_div_cancel _ hq, Nat.mul_mod_left]
      have h1 : ¬ g < 0 := by omega
      have h2 : ¬ g = 0 := by omega
      simp [h1, h2]
  rw [ecut, show ((c.log2 : Int) - 52 - Ieee.double.leastPlace).toNat = c.log2 + 1022 by rw [show Ieee.double.leastPlace = -1074 by decide]; omega]
  rw [show Ieee.double.binade = 2 ^ 52 from rfl, show Ieee.double.infRung = 2047 * 2 ^ 52 from rfl]
  rw [show (c.log2 + 1022) * 2 ^ 52 + c * 2 ^ (52 - c.log2) = wd c from rfl, Nat.min_eq_left (by omega)]
theorem read_wd (neg : Bool) {c : Nat} (h0 : 0 < c) (h : c < 2 ^ 52) : Ieee.double.read (Ieee.double.word neg (wd c)) = .number neg (c * 2 ^ (52 - c.log2)) (-((52 - c.log2 : Nat) : Int)) := by
  have hl := log2_lt52 h0 h
  have hw := wd_lt h0 h
  obtain ⟨r, hr, e1, e2⟩ := wd_form h0 h
  unfold Ieee.Format.read Ieee.Format.word
  have s1 : (if neg then Ieee.double.signWeight + wd c else wd c) / Ieee.double.signWeight % 2 = neg.toNat := by
    rw [show Ieee.double.signWeight = 2 ^ 63 from rfl]
    cases neg
    · simp only [Bool.false_eq_true, if_false, Bool.toNat_false]; omega
    · simp only [if_true, Bool.toNat_true]; omega
  have s2 : (if neg then Ieee.double.signWeight + wd c else wd c) % Ieee.double.signWeight = wd c := by
    rw [show Ieee.double.signWeight = 2 ^ 63 from rfl]
    cases neg
    · simp only [Bool.false_eq_true, if_false]; omega
    · simp only [if_true]; omega
  dsimp only
  rw [s1, s2, show Ieee.double.binade = 2 ^ 52 from rfl, show Ieee.double.infRung = 2047 * 2 ^ 52 from rfl, if_neg (by omega), if_pos hw.2, e1, e2]
  have m1 : ((c.log2 + 1023) * 2 ^ 52 + r) % 2 ^ 52 = r := by omega
  have m2 : ((c.log2 + 1023) * 2 ^ 52 + r) / 2 ^ 52 = c.log2 + 1023 := by omega
  rw [m1, m2, show Ieee.double.leastPlace = -1074 by decide]
  have hb : (neg.toNat == 1) = neg := by cases neg <;> rfl
  rw [hb, show (-1074 : Int) + ((c.log2 + 1023 - 1 : Nat) : Int) = -((52 - c.log2 : Nat) : Int) by omega]
/-- A datum that stands for a whole number. -/
def Rep (d : Ieee.Datum) (a : Int) (neg0 : Bool) : Prop := ∃ (s : Bool) (k : Nat), d = .number s (a.natAbs * 2 ^ k) (-(k : Int)) ∧ (a < 0 → s = true) ∧ (0 < a → s = false) ∧ (a = 0 → s = neg0)
theorem read_FL {a : Int} (h : a.natAbs < 2 ^ 52) : Rep (Ieee.double.read (FL a)) a false := by
  unfold FL
  by_cases h0 : a = 0
  · subst h0
    have e : ∀ k : Nat, k = 1074 → Ieee.double.read 0 = .number false ((0 : Int).natAbs * 2 ^ k) (-(k : Int)) := by
      intro k hk
      rw [Int.natAbs_zero, Nat.zero_mul, hk]
      decide
    obtain ⟨k, hk⟩ : ∃ k : Nat, k = 1074 := ⟨_, rfl⟩
    exact ⟨false, k, e k hk, by omega, by omega, fun _ => rfl⟩
  · rw [if_neg h0, read_wd _ (by omega) h]
    refine ⟨_, _, rfl, fun h => by simpa using h, fun h => by simp; omega, fun h => absurd h h0⟩
theorem Rep.opp {d : Ieee.Datum} {a : Int} (h : Rep d a false) : Rep d.opposite (-a) true := by
  obtain ⟨s, k, rfl, h1, h2, h3⟩ := h
  refine ⟨!s, k, by simp [Ieee.Datum.opposite], fun h => by rw [h2 (by omega)]; rfl, fun h => by rw [h1 (by omega)]; rfl, fun h => by rw [h3 (by omega)]; rfl⟩
theorem signed_of {s : Bool} {a : Int} {i M : Nat} (h1 : a < 0 → s = true) (h2 : 0 < a → s = false) (hi : i ≤ M) : Ieee.signed s (a.natAbs * 2 ^ i) (-(i : Int) - -(M : Int)).toNat = a * 2 ^ M := by
  unfold Ieee.signed
  rw [show (-(i : Int) - -(M : Int)).toNat = M - i by omega, Nat.shiftLeft_eq, Nat.mul_assoc, ← Nat.pow_add, show i + (M - i) = M by omega]
  rcases Int.lt_trichotomy a 0 with h | h | h
  · rw [h1 h, if_pos rfl]
    rw [show a * 2 ^ M = -((-a) * 2 ^ M) by rw [Int.neg_mul, Int.neg_neg], Int.natCast_mul, show ((a.natAbs : Nat) : Int) = -a by omega]
    push_cast
    rfl
  · subst h; cases s <;> simp
  · rw [h2 h, if_neg (by decide)]
    rw [Int.natCast_mul, show ((a.natAbs : Nat) : Int) = a by omega]
    push_cast
    rfl
theorem sum_of {d e : Ieee.Datum} {a b : Int} {n : Bool} (hd : Rep d a false) (he : Rep e b n) (h : (a + b).natAbs < 2 ^ 52) : (d.sum e).map Ieee.double.write = some (FL (a + b)) := by
  obtain ⟨s, i, rfl, h1, h2, h3⟩ := hd
  obtain ⟨t, j, rfl, g1, g2, g3⟩ := he
  unfold Ieee.Datum.sum
  dsimp only
  obtain ⟨M, hM, hi, hj⟩ : ∃ M : Nat, min (-(i : Int)) (-(j : Int)) = -(M : Int) ∧ i ≤ M ∧ j ≤ M := ⟨max i j, by omega, by omega, by omega⟩
  rw [hM, signed_of h1 h2 hi, signed_of g1 g2 hj, ← Int.add_mul]
  have hpos : (0 : Int) < 2 ^ M := Int.pow_pos (by decide)
  show some (Ieee.double.nearest _ ((a + b) * 2 ^ M).natAbs (-(M : Int))) = _
  unfold FL
  by_cases h0 : a + b = 0
  · rw [h0, Int.zero_mul, if_pos rfl, if_pos rfl]
    have hst : (s && t) = false := by
      rcases Int.lt_trichotomy a 0 with h | h | h
      · rw [g2 (by omega)]; cases s <;> rfl
      · rw [h3 h]; rfl
      · rw [h2 h]; rfl
    rw [hst]
    rfl
  · have hne : ¬ (a + b) * 2 ^ M = 0 := by
      intro hh
      rcases Int.mul_eq_zero.1 hh with hh | hh
      · exact h0 hh
      · omega
    rw [if_neg hne, if_neg h0]
    have hsg : decide ((a + b) * 2 ^ M < 0) = decide (a + b < 0) := by
      by_cases hlt : a + b < 0
      · have : (a + b) * 2 ^ M < 0 := Int.mul_neg_of_neg_of_pos hlt hpos
        simp [hlt, this]
      · have : ¬ (a + b) * 2 ^ M < 0 := by
          have := Int.mul_nonneg (show 0 ≤ a + b by omega) (Int.le_of_lt hpos)
          omega
        simp [hlt, this]
    rw [hsg, Int.natAbs_mul, show ((2 : Int) ^ M).natAbs = 2 ^ M by rw [Int.natAbs_pow]; rfl, near_of _ M (by omega) h]
theorem add_FL {a b : Int} (ha : a.natAbs < 2 ^ 52) (hb : b.natAbs < 2 ^ 52) (h : (a + b).natAbs < 2 ^ 52) : floatBits .add .f64 (FL a) (FL b) = some (FL (a + b)) := sum_of (read_FL ha) (read_FL hb) h
theorem sub_FL {a b : Int} (ha : a.natAbs < 2 ^ 52) (hb : b.natAbs < 2 ^ 52) (h : (a - b).natAbs < 2 ^ 52) : floatBits .sub .f64 (FL a) (FL b) = some (FL (a - b)) := by
  rw [Int.sub_eq_add_neg]
  exact sum_of (read_FL ha) (read_FL hb).opp (by rw [← Int.sub_eq_add_neg]; exact h)
theorem toInt_FL {a : Int} (h : a.natAbs < 2 ^ 52) : floatToIntVal .f64 (FL a) .i64 = some a := by
  unfold floatToIntVal
  have e : (FloatKind.f64.decode (FL a)).toInt .zero = some a := by
    obtain ⟨s, k, e, h1, h2, -⟩ := read_FL h
    show (Ieee.double.read (FL a)).toInt .zero = some a
    rw [e]
    unfold Ieee.Datum.toInt Ieee.Datum.integral
    dsimp only
    have hc : Ieee.Toward.zero.cut s ((a.natAbs * 2 ^ k) <<< (-(k : Int)).toNat) (- -(k : Int)).toNat = a.natAbs := by
      rw [show (-(k : Int)).toNat = 0 by omega, show (- -(k : Int)).toNat = k by omega, Nat.shiftLeft_zero]
      unfold Ieee.Toward.cut
      by_cases h0 : a = 0
      · subst h0; simp
      · rw [log2_scale (by omega) k, Nat.min_eq_left (by omega), Nat.shiftLeft_eq, Nat.one_mul]
        have hq : 0 < 2 ^ k := Nat.pow_pos (by decide)
        dsimp only
        rw [Nat.mul_div_cancel _ hq]
        rfl
    rw [hc]
    have := signed_of (i := 0) (M := 0) h1 h2 (Nat.le_refl _)
    simp at this
    rw [this]
  rw [e]
  dsimp only
  rw [if_pos (by rw [show IntKind.i64.min = -9223372036854775808 from rfl, show IntKind.i64.max = 9223372036854775807 from rfl]; omega)]
theorem FL_one : FL 1 = 4607182418800017408 := by decide
theorem FL_zero : FL 0 = 0 := rfl
end Go.Proofs.Ytifikcaiknnjfaa.Lx
