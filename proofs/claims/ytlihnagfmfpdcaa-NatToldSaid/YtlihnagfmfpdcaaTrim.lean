/- nat.trimmed, cmp.Compare. -/
import Derived.Test.YtlihnagfmfpdcaaBase
namespace Go.Proofs.Ytlihnagfmfpdcaa
open Go.RowKit

/-- What nat.trimmed hands back: the argument's own memory, cut, or nil. -/
def IsCut (w : World) (A A' : Option Addr) (n m N : Nat) : Prop := m = (Limb.canon N).length ∧ m ≤ n ∧ Nums w A' m (Limb.canon N) ∧ (A' = A ∨ A' = none)
def TrimmedPost (A : Option Addr) (n N : Nat) (w : World) (e : Ending) (w' : World) : Prop := ∃ A' m, e = .returned (.slice A' m m) ∧ IsCut w A A' n m N ∧ w = w'

theorem isCut_none (w : World) (A : Option Addr) (xs : List Nat) (n : Nat) (hx : Nums w A n xs) (hz : ∀ j, 0 ≤ j → j < n → xs.getD j 0 = 0) : IsCut w A none n 0 (Limb.val xs) := by
  have hc := Limb.canon_take xs hx.ok 0 (Nat.zero_le _) (fun i _ hi => hz i (Nat.zero_le _) (by rw [← hx.len]; exact hi)) (fun h => absurd h (by omega))
  rw [List.take_zero] at hc
  unfold IsCut
  rw [hc]
  exact ⟨rfl, Nat.zero_le _, Nums.nil _ _, .inr rfl⟩
theorem isCut_some (w : World) (A : Option Addr) (xs : List Nat) (n k : Nat) (hk : k ≤ n) (hx : Nums w A n xs) (hz : ∀ j, k ≤ j → j < n → xs.getD j 0 = 0) (_h0 : k ≠ 0) (hnz : xs.getD (k - 1) 0 ≠ 0) : IsCut w A A n k (Limb.val xs) := by
  have hl := hx.len
  have hc := Limb.canon_take xs hx.ok k (by omega) (fun i h1 h2 => hz i h1 (by omega)) (fun _ => hnz)
  unfold IsCut
  rw [hc]
  exact ⟨by rw [List.length_take]; omega, hk, hx.take hk, .inl rfl⟩

set_option maxHeartbeats 400000 in
theorem trimmed_any (A : Option Addr) (n c : Nat) (xs : List Nat) (w : World) (hx : Nums w A n xs) (hc : n ≤ c) (hm : c ≤ 9223372036854775807) :
    Calls Try.prog 53 #[.slice A n c] w (TrimmedPost A n (Limb.val xs) w) := by
  go_enter Try.func53, Try.ntmps53
  go_wp2
  go_loop [3] (fun i => ∃ k : Nat, k ≤ n ∧ i = .int .i64 k ∧ Hid (∀ j, k ≤ j → j < n → xs.getD j 0 = 0)) (fun i => (intOf i).toNat)
  case atStart => exact ⟨n, Nat.le_refl _, rfl, fun j h1 h2 => by omega⟩
  case round =>
    obtain ⟨k, hk, rfl, HZ⟩ := hrel
    by_cases h0 : k = 0
    · subst h0
      go_wp2
      go_ret
      exact ⟨none, 0, rfl, isCut_none w A xs n hx HZ.out, rfl⟩
    · obtain ⟨b, o, x, rfl, hx1, hx2, hcell⟩ := hx.at_ (i := k - 1) (by omega)
      have HX := Lib.hid hx2
      have HK := Lib.hid h0
      clear hx2
      have hk1 : 1 ≤ k := by omega
      clear h0
      by_cases hx0 : x = 0
      · have hb : ((x : Int) != 0) = false := by simp [hx0]
        have HX0 := Lib.hid hx0
        clear hx0
        go_wp2
        go_round
        case rel =>
          refine ⟨k - 1, by omega, by go_num, fun j h1 h2 => ?_⟩
          by_cases hj : j = k - 1
          · subst hj
            rw [← HX.out, HX0.out]
          · exact HZ.out j (by omega) h2
        case measure => simp [intOf]; omega
      · have hb : ((x : Int) != 0) = true := by simp [hx0]
        have HX0 := Lib.hid hx0
        clear hx0
        go_wp2
        go_ret
        exact ⟨_, k, rfl, isCut_some w _ xs n k hk hx HZ.out HK.out (by rw [← HX.out]; exact HX0.out), rfl⟩

/-- Where nat.trimmed's result begins. -/
def cutA (A : Option Addr) (N : Nat) : Option Addr := if N = 0 then none else A
/-- The number of a number's limbs. -/
def L (N : Nat) : Nat := (Limb.canon N).length
theorem cutA_zero (A : Option Addr) : cutA A 0 = none := rfl
theorem cutA_pos (A : Option Addr) {N : Nat} (h : N ≠ 0) : cutA A N = A := by unfold cutA; rw [if_neg h]
theorem isCut_det (w : World) (A : Option Addr) (xs : List Nat) (n : Nat) (hx : Nums w A n xs) : IsCut w A (cutA A (Limb.val xs)) n (L (Limb.val xs)) (Limb.val xs) := by
  have hl : (Limb.canon (Limb.val xs)).length ≤ n := by
    have := Limb.val_lt xs hx.ok
    rw [hx.len] at this
    exact Limb.canon_len_le _ _ this
  refine ⟨rfl, hl, ?_, ?_⟩
  · by_cases h0 : Limb.val xs = 0
    · rw [h0]; exact Nums.nil _ _
    · rw [cutA_pos A h0]
      have h1 := hx.take (k := L (Limb.val xs)) hl
      have h2 : Limb.canon (Limb.val xs) = xs.take (L (Limb.val xs)) := by
        have e1 := Limb.canon_eq_fixed xs.length (Limb.val xs) (Limb.val_lt xs hx.ok)
        rw [Limb.fixed_of_val xs hx.ok] at e1
        exact e1
      rw [h2]; exact h1
  · by_cases h0 : Limb.val xs = 0
    · rw [h0]; exact .inr rfl
    · rw [cutA_pos A h0]; exact .inl rfl
def TrimDetPost (A : Option Addr) (N : Nat) (w : World) (e : Ending) (w' : World) : Prop := e = .returned (.slice (cutA A N) (L N) (L N)) ∧ w = w'
set_option maxHeartbeats 400000 in
theorem trimmed_det (A : Option Addr) (n c : Nat) (xs : List Nat) (w : World) (hx : Nums w A n xs) (hc : n ≤ c) (hm : c ≤ 9223372036854775807) :
    Calls Try.prog 53 #[.slice A n c] w (TrimDetPost A (Limb.val xs) w) := by
  have HI := hide (isCut_det w A xs n hx)
  go_enter Try.func53, Try.ntmps53
  go_wp2
  go_loop [3] (fun i => ∃ k : Nat, k ≤ n ∧ i = .int .i64 k ∧ Hid (∀ j, k ≤ j → j < n → xs.getD j 0 = 0)) (fun i => (intOf i).toNat)
  case atStart => exact ⟨n, Nat.le_refl _, rfl, fun j h1 h2 => by omega⟩
  case round =>
    obtain ⟨k, hk, rfl, HZ⟩ := hrel
    by_cases h0 : k = 0
    · subst h0
      go_wp2
      go_ret
      have hv : Limb.val xs = 0 := by
        have := (isCut_none w A xs n hx HZ.out).1
        exact (Limb.canon_len_zero _).1 this.symm
      exact ⟨by rw [hv]; rfl, rfl⟩
    · obtain ⟨b, o, x, rfl, hx1, hx2, hcell⟩ := hx.at_ (i := k - 1) (by omega)
      have HX := Lib.hid hx2
      have HK := Lib.hid h0
      clear hx2
      have hk1 : 1 ≤ k := by omega
      clear h0
      by_cases hx0 : x = 0
      · have hb : ((x : Int) != 0) = false := by simp [hx0]
        have HX0 := Lib.hid hx0
        clear hx0
        go_wp2
        go_round
        case rel =>
          refine ⟨k - 1, by omega, by go_num, fun j h1 h2 => ?_⟩
          by_cases hj : j = k - 1
          · subst hj
            rw [← HX.out, HX0.out]
          · exact HZ.out j (by omega) h2
        case measure => simp [intOf]; omega
      · have hb : ((x : Int) != 0) = true := by simp [hx0]
        have HX0 := Lib.hid hx0
        clear hx0
        have hk2 := (isCut_some w _ xs n k hk hx HZ.out HK.out (by rw [← HX.out]; exact HX0.out)).1
        have hv : Limb.val xs ≠ 0 := by
          intro hv
          rw [hv] at hk2
          exact HK.out hk2
        have HK2 := Lib.hid hk2
        have HV := hide hv
        clear hk2 hv
        go_wp2
        go_ret
        refine ⟨?_, rfl⟩
        have hl : L (Limb.val xs) = k := HK2.out.symm
        rw [cutA_pos _ HV.out, hl]
        rfl

theorem nan_int (a : Int) (w : World) : Calls Try.prog 95 #[.int .i64 a] w fun e w' => e = .returned (.bool false) ∧ w = w' := by
  go_enter Try.func95, Try.ntmps95
  go_wp2
  go_ret
  exact ⟨by simp, rfl⟩
theorem nan_u32 (a : Int) (w : World) : Calls Try.prog 96 #[.int .u32 a] w fun e w' => e = .returned (.bool false) ∧ w = w' := by
  go_enter Try.func96, Try.ntmps96
  go_wp2
  go_ret
  exact ⟨by simp, rfl⟩

/-- -1, 0, 1. -/
def sgn3 (a b : Int) : Int := if a < b then -1 else if b < a then 1 else 0
def CmpPost (a b : Int) (w : World) (e : Ending) (w' : World) : Prop := e = .returned (.int .i64 (sgn3 a b)) ∧ w = w'

set_option maxHeartbeats 400000 in
theorem compare_int (a b : Int) (w : World) : Calls Try.prog 62 #[.int .i64 a, .int .i64 b] w (CmpPost a b w) := by
  rcases Int.lt_trichotomy a b with h | h | h
  · have hfin : sgn3 a b = -1 := by simp [sgn3, h]
    have HF := Lib.hid hfin
    clear hfin
    go_enter Try.func62, Try.ntmps62
    go_wp2_with (go_at_call 95; refine (nan_int _ _).mono ?_; rintro e w' ⟨rfl, rfl⟩)
    go_ret
    exact ⟨by rw [HF.out]; rfl, rfl⟩
  · subst h
    have hfin : sgn3 a a = 0 := by simp [sgn3]
    have HF := Lib.hid hfin
    clear hfin
    go_enter Try.func62, Try.ntmps62
    go_wp2_with (go_at_call 95; refine (nan_int _ _).mono ?_; rintro e w' ⟨rfl, rfl⟩)
    go_ret
    exact ⟨by rw [HF.out]; rfl, rfl⟩
  · have hfin : sgn3 a b = 1 := by simp [sgn3, h]; omega
    have HF := Lib.hid hfin
    clear hfin
    have h2 : ¬ a < b := by omega
    go_enter Try.func62, Try.ntmps62
    go_wp2_with (go_at_call 95; refine (nan_int _ _).mono ?_; rintro e w' ⟨rfl, rfl⟩)
    go_ret
    exact ⟨by rw [HF.out]; rfl, rfl⟩
set_option maxHeartbeats 400000 in
theorem compare_u32 (a b : Int) (w : World) : Calls Try.prog 63 #[.int .u32 a, .int .u32 b] w (CmpPost a b w) := by
  rcases Int.lt_trichotomy a b with h | h | h
  · have hfin : sgn3 a b = -1 := by simp [sgn3, h]
    have HF := Lib.hid hfin
    clear hfin
    go_enter Try.func63, Try.ntmps63
    go_wp2_with (go_at_call 96; refine (nan_u32 _ _).mono ?_; rintro e w' ⟨rfl, rfl⟩)
    go_ret
    exact ⟨by rw [HF.out]; rfl, rfl⟩
  · subst h
    have hfin : sgn3 a a = 0 := by simp [sgn3]
    have HF := Lib.hid hfin
    clear hfin
    go_enter Try.func63, Try.ntmps63
    go_wp2_with (go_at_call 96; refine (nan_u32 _ _).mono ?_; rintro e w' ⟨rfl, rfl⟩)
    go_ret
    exact ⟨by rw [HF.out]; rfl, rfl⟩
  · have hfin : sgn3 a b = 1 := by simp [sgn3, h]; omega
    have HF := Lib.hid hfin
    clear hfin
    have h2 : ¬ a < b := by omega
    go_enter Try.func63, Try.ntmps63
    go_wp2_with (go_at_call 96; refine (nan_u32 _ _).mono ?_; rintro e w' ⟨rfl, rfl⟩)
    go_ret
    exact ⟨by rw [HF.out]; rfl, rfl⟩
end Go.Proofs.Ytlihnagfmfpdcaa
