/- Texts of one seat, put together: TermMathC DivMath. -/
import Derived.Test.YtakcgkohnomgjaaGreatDoorE17
import Derived.Test.YtakcgkohnomgjaaGreatDoorE11
set_option linter.unusedVariables false
set_option linter.unusedSimpArgs false
/- Linear terms on plain numbers: the content, what Shrink makes of it, first places, substitution. -/
namespace Go.Proofs.YtakcgkohnomgjaaGreatDoor.Tm

/-- The greatest common divisor of a number and all coefficients. -/
def gcdL : Nat → List (Int × Int) → Nat
  | g, [] => g
  | g, p :: ps => gcdL (Nat.gcd g p.2.natAbs) ps
theorem gcdL_append (g : Nat) (ps qs : List (Int × Int)) : gcdL g (ps ++ qs) = gcdL (gcdL g ps) qs := by
  induction ps generalizing g with
  | nil => rfl
  | cons p ps ih => rw [List.cons_append, gcdL, gcdL, ih]
theorem gcdL_take_succ (g : Nat) (L : List (Int × Int)) (q : Nat) (u c : Int) (h : L[q]? = some (u, c)) : gcdL g (L.take (q + 1)) = Nat.gcd (gcdL g (L.take q)) c.natAbs := by
  rw [List.take_add_one, h, gcdL_append]; rfl
def content (L : List (Int × Int)) : Int := (gcdL 0 (norm L) : Nat)
theorem gcdL_dvd (ps : List (Int × Int)) : ∀ g : Nat, gcdL g ps ∣ g ∧ ∀ p ∈ ps, gcdL g ps ∣ p.2.natAbs := by
  induction ps with
  | nil => intro g; exact ⟨Nat.dvd_refl _, fun p hp => by cases hp⟩
  | cons p ps ih =>
    intro g
    obtain ⟨h1, h2⟩ := ih (Nat.gcd g p.2.natAbs)
    refine ⟨Nat.dvd_trans h1 (Nat.gcd_dvd_left _ _), fun x hx => ?_⟩
    rcases List.mem_cons.1 hx with rfl | hx
    · exact Nat.dvd_trans h1 (Nat.gcd_dvd_right _ _)
    · exact h2 x hx
theorem gcdL_scale (m : Nat) (ps : List (Int × Int)) : ∀ a : Nat, gcdL (m * a) (ps.map fun p => (p.1, (m : Int) * p.2)) = m * gcdL a ps := by
  induction ps with
  | nil => intro a; rfl
  | cons p ps ih =>
    intro a
    rw [List.map_cons, gcdL, gcdL, ← ih]
    dsimp only
    rw [Int.natAbs_mul, Int.natAbs_natCast, Nat.gcd_mul_left]
theorem content_nonneg (L : List (Int × Int)) : 0 ≤ content L := Int.natCast_nonneg _
theorem content_zero {L : List (Int × Int)} : content L = 0 ↔ norm L = [] := by
  constructor
  · intro h
    have hp := norm_plain L
    unfold content at h
    cases hn : norm L with
    | nil => rfl
    | cons p ps =>
      exfalso
      obtain ⟨u, c⟩ := p
      rw [hn] at h hp
      have h1 := (gcdL_dvd ((u, c) :: ps) 0).2 (u, c) (by simp)
      have h0 : gcdL 0 ((u, c) :: ps) = 0 := by omega
      rw [h0] at h1
      have h2 := Nat.eq_zero_of_zero_dvd h1
      exact hp.2.1 (Int.natAbs_eq_zero.1 h2)
  · intro h
    unfold content
    rw [h]; rfl
/-- All coefficients divided. -/
def quot (g : Int) (ps : List (Int × Int)) : List (Int × Int) := ps.map fun p => (p.1, p.2.fdiv g)
theorem quot_back {g : Int} (hg : g ≠ 0) (ps : List (Int × Int)) (h : ∀ p ∈ ps, g ∣ p.2) : (quot g ps).map (fun p => (p.1, g * p.2)) = ps := by
  unfold quot
  rw [List.map_map]
  conv => rhs; rw [← List.map_id ps]
  apply List.map_congr_left
  intro p hp
  obtain ⟨t, ht⟩ := h p hp
  obtain ⟨u, c⟩ := p
  dsimp only at ht
  simp only [Function.comp, id]
  rw [ht, Int.mul_fdiv_cancel_left _ hg]
theorem rising_unscale {n : Int} {b : Int} {ps : List (Int × Int)} (h : Rising b (ps.map fun p => (p.1, n * p.2))) : Rising b ps := by
  induction ps generalizing b with
  | nil => trivial
  | cons p ps ih =>
    obtain ⟨u, c⟩ := p
    obtain ⟨h1, h2, h3⟩ := h
    exact ⟨h1, fun hc => h2 (by dsimp only at *; rw [hc, Int.mul_zero]), ih h3⟩
theorem content_dvd (L : List (Int × Int)) : ∀ p ∈ norm L, content L ∣ p.2 := fun p hp => by
  have h := (gcdL_dvd (norm L) 0).2 p hp
  exact Int.ofNat_dvd_left.2 h
theorem quot_plain (L : List (Int × Int)) (h : content L ≠ 0) : norm (quot (content L) (norm L)) = quot (content L) (norm L) :=
  norm_id (rising_unscale (n := content L) (by rw [quot_back h _ (content_dvd L)]; exact norm_plain L))
/-- What is left bears the content 1. -/
theorem content_quot (L : List (Int × Int)) (h : content L ≠ 0) : content (quot (content L) (norm L)) = 1 := by
  have h1 := gcdL_scale (gcdL 0 (norm L)) (quot (content L) (norm L)) 0
  rw [Nat.mul_zero] at h1
  have h2 := quot_back h (norm L) (content_dvd L)
  unfold content at h2
  unfold content at h1
  rw [h2] at h1
  unfold content
  have h3 := quot_plain L h
  unfold content at h3
  rw [h3]
  have h0 : gcdL 0 (norm L) ≠ 0 := by intro hh; apply h; unfold content; rw [hh]; rfl
  generalize gcdL 0 (quot (↑(gcdL 0 (norm L))) (norm L)) = x at *
  generalize gcdL 0 (norm L) = g at *
  have h4 : x = 1 := by
    have h5 : g * x = g * 1 := by omega
    exact Nat.eq_of_mul_eq_mul_left (by omega) h5
  rw [h4]; rfl
/-- The place at which v occurs first. -/
def firstAt (v : Int) : List Int → Option Nat
  | [] => none
  | x :: xs => if x = v then some 0 else (firstAt v xs).map (· + 1)
theorem firstAt_snoc (x v : Int) (us : List Int) : firstAt x (us ++ [v]) = match firstAt x us with | some i => some i | none => if v = x then some us.length else none := by
  induction us with
  | nil => simp [firstAt]
  | cons u us ih =>
    rw [List.cons_append, firstAt, firstAt, ih]
    by_cases h : u = x
    · simp [h]
    · simp only [if_neg h]
      cases firstAt x us with
      | some i => rfl
      | none =>
        by_cases h2 : v = x
        · simp [h2]
        · simp [h2]
theorem firstAt_lt (v : Int) (us : List Int) (i : Nat) (h : firstAt v us = some i) : i < us.length := by
  induction us generalizing i with
  | nil => simp [firstAt] at h
  | cons u us ih =>
    unfold firstAt at h
    split at h
    · injection h with h; subst h; simp
    · cases hx : firstAt v us with
      | none => rw [hx] at h; simp at h
      | some k =>
        rw [hx] at h
        simp at h
        have := ih k hx
        simp; omega
/-- What stands in variable v's place. -/
def place (vs : List Int) (ts : List (List (Int × Int) × Int)) (v : Int) : List (Int × Int) × Int :=
  match firstAt v vs with
  | some i => ts.getD i ([(v, 1)], 0)
  | none => ([(v, 1)], 0)
def putL (vs : List Int) (ts : List (List (Int × Int) × Int)) : List (Int × Int) → List (Int × Int)
  | [] => []
  | p :: ps => ((place vs ts p.1).1.map fun r => (r.1, p.2 * r.2)) ++ putL vs ts ps
def putK (vs : List Int) (ts : List (List (Int × Int) × Int)) : List (Int × Int) → Int
  | [] => 0
  | p :: ps => p.2 * (place vs ts p.1).2 + putK vs ts ps
theorem putL_append (vs : List Int) (ts : List (List (Int × Int) × Int)) (ps qs : List (Int × Int)) : putL vs ts (ps ++ qs) = putL vs ts ps ++ putL vs ts qs := by
  induction ps with
  | nil => rfl
  | cons p ps ih => rw [List.cons_append, putL, putL, ih, List.append_assoc]
theorem putK_append (vs : List Int) (ts : List (List (Int × Int) × Int)) (ps qs : List (Int × Int)) : putK vs ts (ps ++ qs) = putK vs ts ps + putK vs ts qs := by
  induction ps with
  | nil => simp [putK]
  | cons p ps ih => rw [List.cons_append, putK, putK, ih, Int.add_assoc]
end Go.Proofs.YtakcgkohnomgjaaGreatDoor.Tm
/- Division rounded down, by the quotient and the rest of the sizes; rounded up; Hat; what the reference reckons. -/
namespace Go.Proofs.YtakcgkohnomgjaaGreatDoor
open Go.RowKit

theorem fdiv_of {Z Y q r : Int} (h : r + Y * q = Z) (hr : (0 ≤ r ∧ r < Y) ∨ (Y < r ∧ r ≤ 0)) : Z.fdiv Y = q ∧ Z.fmod Y = r := by
  rcases hr with ⟨h1, h2⟩ | ⟨h1, h2⟩
  · exact (Int.fdiv_fmod_unique (by omega)).2 ⟨h, h1, h2⟩
  · exact (Int.fdiv_fmod_unique' (by omega)).2 ⟨h, h1, h2⟩
theorem fdiv_back (Z Y : Int) (hY : Y ≠ 0) : Z.fmod Y + Y * Z.fdiv Y = Z ∧ ((0 ≤ Z.fmod Y ∧ Z.fmod Y < Y) ∨ (Y < Z.fmod Y ∧ Z.fmod Y ≤ 0)) := by
  rcases Int.lt_trichotomy Y 0 with hn | h0 | hp
  · have h := (Int.fdiv_fmod_unique' hn (a := Z)).1 ⟨rfl, rfl⟩
    exact ⟨h.1, Or.inr h.2⟩
  · exact absurd h0 hY
  · have h := (Int.fdiv_fmod_unique hp (a := Z)).1 ⟨rfl, rfl⟩
    exact ⟨h.1, Or.inl h.2⟩

/-- Rounded down, out of the sizes' quotient and rest: the same signs, or nothing left over. -/
theorem divz_same (s : Bool) (N M : Nat) (hM : 0 < M) : (sg s N).fdiv (sg s M) = sg false (N / M) ∧ (sg s N).fmod (sg s M) = sg s (N % M) := by
  have h1 := Nat.div_add_mod N M
  have h2 := Nat.mod_lt N hM
  have h3 : (M : Int) * ((N / M : Nat) : Int) + ((N % M : Nat) : Int) = (N : Int) := by rw [← Int.natCast_mul, ← Int.natCast_add, h1]
  generalize N / M = Q at *
  generalize N % M = R at *
  refine fdiv_of ?_ ?_ <;> cases s <;> simp only [sg, if_true, if_false, Bool.false_eq_true, Int.neg_mul] <;> generalize (M : Int) * (Q : Int) = P at * <;> omega
theorem divz_even (s t : Bool) (N M : Nat) (hst : s ≠ t) (hM : 0 < M) (h0 : N % M = 0) : (sg s N).fdiv (sg t M) = sg true (N / M) ∧ (sg s N).fmod (sg t M) = 0 := by
  have h1 := Nat.div_add_mod N M
  have h3 : (M : Int) * ((N / M : Nat) : Int) + ((N % M : Nat) : Int) = (N : Int) := by rw [← Int.natCast_mul, ← Int.natCast_add, h1]
  rw [h0] at h3
  generalize N / M = Q at *
  refine fdiv_of ?_ ?_ <;> cases s <;> cases t <;> simp only [sg, if_true, if_false, Bool.false_eq_true, Int.neg_mul, Int.mul_neg, Int.neg_neg, ne_eq, not_true_eq_false] at * <;> generalize (M : Int) * (Q : Int) = P at * <;> omega
theorem divz_odd (s t : Bool) (N M : Nat) (hst : s ≠ t) (hM : 0 < M) (h0 : 0 < N % M) : (sg s N).fdiv (sg t M) = sg true (N / M) - 1 ∧ (sg s N).fmod (sg t M) = sg s (N % M) + sg t M := by
  have h1 := Nat.div_add_mod N M
  have h2 := Nat.mod_lt N hM
  have h3 : (M : Int) * ((N / M : Nat) : Int) + ((N % M : Nat) : Int) = (N : Int) := by rw [← Int.natCast_mul, ← Int.natCast_add, h1]
  generalize N / M = Q at *
  generalize N % M = R at *
  refine fdiv_of ?_ ?_ <;> cases s <;> cases t <;> simp only [sg, if_true, if_false, Bool.false_eq_true, Int.neg_mul, Int.mul_neg, Int.neg_neg, Int.mul_sub, Int.mul_one, Int.sub_neg, ne_eq, not_true_eq_false, reduceCtorEq, not_false_eq_true] at * <;> generalize (M : Int) * (Q : Int) = P at * <;> omega

/-- The reference's way: the quotient of the sizes with the sign, what is left over, and one step down where the rest has the other sign. -/
theorem divz_ref (Z Y : Int) (hY : Y ≠ 0) (q0 : Int) (hq : q0 = sg (decide (Z.sign * Y.sign < 0)) (Z.natAbs / Y.natAbs)) :
    ((Z - q0 * Y).sign * Y.sign < 0 → Z.fdiv Y = q0 - 1 ∧ Z.fmod Y = Z - q0 * Y + Y) ∧ (¬ ((Z - q0 * Y).sign * Y.sign < 0) → Z.fdiv Y = q0 ∧ Z.fmod Y = Z - q0 * Y) ∧ (Z - q0 * Y).natAbs < Y.natAbs := by
  have hM : 0 < Y.natAbs := by omega
  have h1 := Nat.div_add_mod Z.natAbs Y.natAbs
  have h2 := Nat.mod_lt Z.natAbs hM
  have h3 : (Y.natAbs : Int) * ((Z.natAbs / Y.natAbs : Nat) : Int) + ((Z.natAbs % Y.natAbs : Nat) : Int) = (Z.natAbs : Int) := by rw [← Int.natCast_mul, ← Int.natCast_add, h1]
  subst hq
  generalize Z.natAbs / Y.natAbs = Q at *
  generalize Z.natAbs % Y.natAbs = R at *
  clear h1
  have hd : ∀ q r : Int, r + Y * q = Z → ((0 ≤ r ∧ r < Y) ∨ (Y < r ∧ r ≤ 0)) → Z.fdiv Y = q ∧ Z.fmod Y = r := fun q r h hr => fdiv_of h hr
  rcases Int.lt_trichotomy Y 0 with hy | hy | hy
  · have e : (Y.natAbs : Int) = -Y := by omega
    rw [e, Int.neg_mul] at h3
    rw [Int.sign_eq_neg_one_of_neg hy]
    rcases Int.lt_trichotomy Z 0 with hz | hz | hz
    · rw [Int.sign_eq_neg_one_of_neg hz]
      have e2 : sg (decide ((-1 : Int) * -1 < 0)) Q = (Q : Int) := rfl
      rw [e2, Int.mul_comm (Q : Int) Y]
      have hq1 := hd Q (Z - Y * Q)
      generalize Y * (Q : Int) = P at *
      have hs : ¬ ((Z - P).sign * -1 < 0) := by
        have : (Z - P).sign ≤ 0 := Int.sign_nonpos_iff.2 (by omega)
        omega
      exact ⟨fun h => absurd h hs, fun _ => hq1 (by omega) (by omega), by omega⟩
    · subst hz
      rw [Int.sign_zero]
      have e2 : sg (decide ((0 : Int) * -1 < 0)) Q = (Q : Int) := rfl
      rw [e2, Int.mul_comm (Q : Int) Y]
      have hq1 := hd Q (0 - Y * Q)
      generalize Y * (Q : Int) = P at *
      have hs : ¬ ((0 - P).sign * -1 < 0) := by
        have : (0 - P).sign ≤ 0 := Int.sign_nonpos_iff.2 (by omega)
        omega
      exact ⟨fun h => absurd h hs, fun _ => hq1 (by omega) (by omega), by omega⟩
    · rw [Int.sign_eq_one_of_pos hz]
      have e2 : sg (decide ((1 : Int) * -1 < 0)) Q = -(Q : Int) := rfl
      rw [e2, Int.neg_mul, Int.mul_comm (Q : Int) Y]
      have hq1 := hd (-Q) (Z - -(Y * Q))
      have hq2 := hd (-Q - 1) (Z - -(Y * Q) + Y)
      rw [Int.mul_neg] at hq1
      rw [Int.mul_sub, Int.mul_one, Int.mul_neg] at hq2
      generalize Y * (Q : Int) = P at *
      by_cases hr : Z - -P = 0
      · have hs : ¬ ((Z - -P).sign * -1 < 0) := by rw [hr, Int.sign_zero]; omega
        exact ⟨fun h => absurd h hs, fun _ => hq1 (by omega) (by omega), by omega⟩
      · have hs : (Z - -P).sign * -1 < 0 := by rw [Int.sign_eq_one_of_pos (show 0 < Z - -P by omega)]; omega
        exact ⟨fun _ => hq2 (by omega) (by omega), fun h => absurd hs h, by omega⟩
  · exact absurd hy hY
  · have e : (Y.natAbs : Int) = Y := by omega
    rw [e] at h3
    rw [Int.sign_eq_one_of_pos hy]
    rcases Int.lt_trichotomy Z 0 with hz | hz | hz
    · rw [Int.sign_eq_neg_one_of_neg hz]
      have e2 : sg (decide ((-1 : Int) * 1 < 0)) Q = -(Q : Int) := rfl
      rw [e2, Int.neg_mul, Int.mul_comm (Q : Int) Y]
      have hq1 := hd (-Q) (Z - -(Y * Q))
      have hq2 := hd (-Q - 1) (Z - -(Y * Q) + Y)
      rw [Int.mul_neg] at hq1
      rw [Int.mul_sub, Int.mul_one, Int.mul_neg] at hq2
      generalize Y * (Q : Int) = P at *
      by_cases hr : Z - -P = 0
      · have hs : ¬ ((Z - -P).sign * 1 < 0) := by rw [hr, Int.sign_zero]; omega
        exact ⟨fun h => absurd h hs, fun _ => hq1 (by omega) (by omega), by omega⟩
      · have hs : (Z - -P).sign * 1 < 0 := by rw [Int.sign_eq_neg_one_of_neg (show Z - -P < 0 by omega)]; omega
        exact ⟨fun _ => hq2 (by omega) (by omega), fun h => absurd hs h, by omega⟩
    · subst hz
      rw [Int.sign_zero]
      have e2 : sg (decide ((0 : Int) * 1 < 0)) Q = (Q : Int) := rfl
      rw [e2, Int.mul_comm (Q : Int) Y]
      have hq1 := hd Q (0 - Y * Q)
      generalize Y * (Q : Int) = P at *
      have hs : ¬ ((0 - P).sign * 1 < 0) := by
        have : 0 ≤ (0 - P).sign := Int.sign_nonneg_iff.2 (by omega)
        omega
      exact ⟨fun h => absurd h hs, fun _ => hq1 (by omega) (by omega), by omega⟩
    · rw [Int.sign_eq_one_of_pos hz]
      have e2 : sg (decide ((1 : Int) * 1 < 0)) Q = (Q : Int) := rfl
      rw [e2, Int.mul_comm (Q : Int) Y]
      have hq1 := hd Q (Z - Y * Q)
      generalize Y * (Q : Int) = P at *
      have hs : ¬ ((Z - P).sign * 1 < 0) := by
        have : 0 ≤ (Z - P).sign := Int.sign_nonneg_iff.2 (by omega)
        omega
      exact ⟨fun h => absurd h hs, fun _ => hq1 (by omega) (by omega), by omega⟩

/-- Rounded up. -/
def cdiv (Z Y : Int) : Int := -((-Z).fdiv Y)
theorem cdiv_eq (Z Y : Int) (hY : Y ≠ 0) : cdiv Z Y = if Z.fmod Y = 0 then Z.fdiv Y else Z.fdiv Y + 1 := by
  obtain ⟨h1, h2⟩ := fdiv_back Z Y hY
  unfold cdiv
  by_cases h0 : Z.fmod Y = 0
  · rw [if_pos h0, (fdiv_of (Z := -Z) (Y := Y) (q := -(Z.fdiv Y)) (r := 0) (by rw [Int.mul_neg]; omega) (by omega)).1]
    omega
  · rw [if_neg h0, (fdiv_of (Z := -Z) (Y := Y) (q := -(Z.fdiv Y) - 1) (r := Y - Z.fmod Y) (by rw [Int.mul_sub, Int.mul_neg, Int.mul_one]; omega) (by omega)).1]
    omega
/-- What differs by a multiple of Y and is nearest to 0. -/
def hatN (Z Y : Int) : Int := if Y ≤ 2 * Z.fmod Y then Z.fmod Y - Y else Z.fmod Y
theorem fdiv_small (Z Y : Int) (k : Nat) (h : Z.natAbs < 4294967296 ^ k) : (Z.fdiv Y).natAbs < 4294967296 ^ k := Nat.lt_of_le_of_lt (Int.natAbs_fdiv_le_natAbs Z Y) h
theorem fmod_small (Z Y : Int) (k : Nat) (hY : Y ≠ 0) (h : Y.natAbs < 4294967296 ^ k) : (Z.fmod Y).natAbs < 4294967296 ^ k := by
  obtain ⟨-, h2⟩ := fdiv_back Z Y hY
  exact Nat.lt_of_le_of_lt (by omega) h
theorem hat_small (Z Y : Int) (k : Nat) (hY : 0 < Y) (h : Y.natAbs < 4294967296 ^ k) : (hatN Z Y).natAbs < 4294967296 ^ k := by
  obtain ⟨-, h2⟩ := fdiv_back Z Y (by omega)
  unfold hatN
  refine Nat.lt_of_le_of_lt ?_ h
  split <;> omega
end Go.Proofs.YtakcgkohnomgjaaGreatDoor
