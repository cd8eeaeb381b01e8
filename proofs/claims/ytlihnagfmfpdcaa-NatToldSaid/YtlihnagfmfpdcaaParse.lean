/- nat.Parse. -/
import Derived.Test.YtlihnagfmfpdcaaScale
import Derived.Test.YtlihnagfmfpdcaaBitsAny
namespace Go.Proofs.Ytlihnagfmfpdcaa
open Go.RowKit
open Limb (limb limb_lt upto upto_succ upto_all upto_zero)

/-- The number that a text of digits spells. -/
def numOf (s : ByteArray) (i : Nat) : Nat := Dec.upto (fun j => byteAt s j - 48) i
theorem numOf_lt (s : ByteArray) (h : allDig s) (i : Nat) (hi : i ≤ s.size) : numOf s i < 10 ^ i :=
  Dec.upto_lt _ i (fun j hj => by have := h j (by omega); omega)
def ErrB (k : Int) (w : World) (e : Ending) (w' : World) : Prop := e = .returned (.tuple #[.slice none 0 0, .int .i64 k]) ∧ Below w.heap.size w w'
theorem parse_long (s : ByteArray) (w : World) (h : 4000 < s.size) (hs : s.size ≤ 9223372036854775807) : Calls Try.prog 16 #[.string s] w (ErrB 2 w) := by
  go_enter Try.func16, Try.ntmps16
  go_wp2_with fail
  go_ret2
  exact ⟨rfl, Below.refl _ _⟩
theorem parse_form (s : ByteArray) (w : World) (hs : s.size ≤ 4000) (hno : ¬ (allDig s ∧ s.size ≠ 0)) : Calls Try.prog 16 #[.string s] w (ErrB 20 w) := by
  have hd := allDigits_any s false w (by omega) (by simp only [Bool.false_eq_true, false_iff]; exact hno)
  clear hno
  go_enter Try.func16, Try.ntmps16
  go_wp2_with fail
  refine hd.mono ?_
  rintro e w1 ⟨rfl, k, rfl⟩
  go_wp2_with fail
  go_ret2
  exact ⟨rfl, bl_drewN w k⟩
theorem ten_next (j : Nat) (hj : j ≤ 8) : (10 ^ j * 10 = 1000000000 ∧ j = 8) ∨ (10 ^ j * 10 ≠ 1000000000 ∧ j + 1 ≤ 8) := by
  rcases Nat.lt_or_ge j 8 with h | h
  · right
    have h1 : 10 ^ j ≤ 10 ^ 7 := Nat.pow_le_pow_right (by omega) (by omega)
    omega
  · left
    have : j = 8 := by omega
    subst this
    exact ⟨rfl, rfl⟩
theorem ten_le (j : Nat) (hj : j ≤ 8) : 10 ^ j ≤ 100000000 ∧ 1 ≤ 10 ^ j := by
  have h1 : 10 ^ j ≤ 10 ^ 8 := Nat.pow_le_pow_right (by omega) hj
  exact ⟨by omega, Nat.pow_pos (by omega)⟩
theorem parse_alg (V p g d U : Nat) (h : V * p + g = U) : V * (p * 10) + (g * 10 + d) = U * 10 + d := by
  rw [← h, Nat.add_mul, Nat.mul_assoc]; omega

def PsRel (s : ByteArray) (g n : Nat) (w : World) (k gq wq : Nat) (wr : World) : Prop :=
  ∃ (cur : List Nat) (j : Nat), cur.length = n ∧ Limb.Ok cur ∧ Row wr g cur ∧ Below w.heap.size w wr ∧ j ≤ 8 ∧ wq = 10 ^ j ∧ gq < 10 ^ j ∧ Limb.val cur * 10 ^ j + gq = numOf s k ∧ (k = s.size → j = 0)

set_option maxHeartbeats 4000000 in
theorem parse_ok (s : ByteArray) (w : World) (hs : s.size ≤ 4000) (hd : allDig s) (h0 : s.size ≠ 0) : Calls Try.prog 16 #[.string s] w (LeftPost (numOf s s.size) w) := by
  have hda := allDigits_any s true w (by omega) (by simp only [true_iff]; exact ⟨hd, h0⟩)
  have HD := hide hd
  have HLT := hide (fun i hi => numOf_lt s hd i hi)
  have hroom := hide (Dec.limbs_room s.size)
  have en : (s.size : Int) / 9 + 1 = ((s.size / 9 + 1 : Nat) : Int) := by omega
  have hn : s.size / 9 + 1 ≤ 445 := by omega
  generalize s.size / 9 + 1 = n at *
  clear hd
  go_enter Try.func16, Try.ntmps16
  go_wp2_with fail
  refine hda.mono ?_
  rintro e w1 ⟨rfl, hw1⟩
  have b1 : Below w.heap.size w w1 := by obtain ⟨k, rfl⟩ := hw1; exact bl_drewN w k
  clear hw1 hda
  go_wp2_with (at_make; refine wpList_make_u32 _ rfl _ _ rfl _ n rfl rfl (by omega) (by omega) ?_; intro w2 hr2 hb2 hs2)
  have t2 := b1.next hb2
  have hg : w.heap.size ≤ w1.heap.size := b1.size
  generalize w1.heap.size = g at *
  go_loopw [5, 6, 23] (fun a b i wr => ∃ k gq wq : Nat, k ≤ s.size ∧ i = .int .i64 (k : Int) ∧ a = .int .u32 (gq : Int) ∧ b = .int .u32 (wq : Int) ∧ Hid (PsRel s g n w k gq wq wr)) (fun _ _ i _ => s.size - (intOf i).toNat)
  case atStart => exact ⟨0, 0, 1, Nat.zero_le _, rfl, rfl, rfl, List.replicate n 0, 0, by simp, Limb.Ok.replicate n, hr2, t2, by omega, rfl, by omega, by rw [Limb.val_replicate]; rfl, fun _ => rfl⟩
  case round =>
    clear hr2 t2 hb2
    obtain ⟨k, gq, wq, hk, rfl, rfl, rfl, R⟩ := hrel
    by_cases hkn : k < s.size
    · have hbe := byteAt_eq s k hkn
      have hdk := HD.out k hkn
      rw [hbe] at hdk
      have hnum := hide (show numOf s (k + 1) = numOf s k * 10 + ((s[k]'hkn).toNat - 48) by
        show Dec.upto _ (k + 1) = _
        rw [Dec.upto, hbe]; rfl)
      obtain ⟨cur, j, hl, ho, hr, hb, hj, hw, hq, hv, -⟩ := R.out
      have hten := ten_next j hj
      have hle := ten_le j hj
      have hcl := hide hl
      have hval := hide hv
      rw [← hw] at hten hle hq hval
      clear R hbe hl hv
      obtain ⟨bt, hB⟩ : ∃ bt, (s[k]'hkn).toNat = bt := ⟨_, rfl⟩
      rw [hB] at hdk hnum
      have e5 : ((wq * 10 : Nat) : Int) = (wq : Int) * 10 := by omega
      have e6 : ((gq * 10 + (bt - 48) : Nat) : Int) = (gq : Int) * 10 + ((bt : Int) - 48) := by omega
      have hstep := hide (parse_alg _ _ _ (bt - 48) _ hval.out)
      have HW := hide hw
      clear hw
      by_cases hlast : wq * 10 = 1000000000 ∨ k + 1 = s.size
      · have hsc := scale_any g n (wq * 10) (gq * 10 + (bt - 48)) cur wr hr ho (by rw [hcl.out]; omega) (by omega) (by omega)
        unfold ScPost at hsc
        rw [hcl.out, e5, e6] at hsc
        have hlt := hide (HLT.out (k + 1) (by omega))
        have hcase : ((wq : Int) * 10 == 1000000000) = true ∨ (((wq : Int) * 10 == 1000000000) = false ∧ ((k : Int) == (s.size : Int) - 1) = true) := by
          by_cases h9 : wq * 10 = 1000000000
          · left; simp; omega
          · right
            have : k + 1 = s.size := by omega
            constructor
            · simp; omega
            · simp; omega
        clear e5 e6 hlast hten
        rcases hcase with c1 | ⟨c1, c2⟩
        all_goals
          go_wp2_with fail
          refine hsc.mono ?_
          rintro e w3 ⟨cur3, cy, rfl, hl3, ho3, hr3, hon3, hv3⟩
          have hL3 := hide hl3
          have hv4 := hv3.out
          rw [hstep.out, ← hnum.out] at hv4
          have hv5 := hide (Limb.carry_zero _ _ _ _ hv4 (Nat.lt_of_lt_of_le hlt.out (Nat.le_of_lt (Nat.lt_of_le_of_lt (Nat.pow_le_pow_right (by omega) (by omega)) hroom.out))))
          have hb3 := hb.trans (hon3.below hb.size hg)
          clear hv3 hv4 hl3
          go_wp2_with fail
          go_roundw
          case rel => exact ⟨k + 1, 0, 1, by omega, by go_num, rfl, rfl, cur3, 0, hL3.out, ho3, hr3, hb3, by omega, rfl, by omega, by rw [Nat.pow_zero, Nat.mul_one, Nat.add_zero]; exact hv5.out, fun _ => rfl⟩
          case measure => simp [intOf]; omega
      · have hj8 : j + 1 ≤ 8 := by omega
        have c1 : ((wq : Int) * 10 == 1000000000) = false := by simp; omega
        have c2 : ((k : Int) == (s.size : Int) - 1) = false := by simp; omega
        have hk1 : k + 1 ≠ s.size := by omega
        clear hlast hten
        go_wp2_with fail
        go_roundw
        case rel => exact ⟨k + 1, gq * 10 + (bt - 48), wq * 10, by omega, by go_num, by rw [e6], by rw [e5], cur, j + 1, hcl.out, ho, hr, hb, hj8, by rw [Nat.pow_succ, ← HW.out], by rw [Nat.pow_succ, ← HW.out]; omega, by rw [Nat.pow_succ, ← HW.out, hnum.out]; exact hstep.out, fun h => absurd h hk1⟩
        case measure => simp [intOf]; omega
    · obtain rfl : k = s.size := by omega
      obtain ⟨cur, j, hl, ho, hr, hb, hj, hw, hq, hv, hj0⟩ := R.out
      have hj1 := hj0 rfl
      subst hj1
      rw [Nat.pow_zero] at hq hv hw
      have hval := hide (show Limb.val cur = numOf s s.size by omega)
      have hcl := hide hl
      clear hl hv R
      go_wp2_with fail
      refine (trimmed_row g n n (numOf s s.size) w.heap.size cur wr hr ho (by rw [hcl.out]; exact Nat.le_refl _) (Nat.le_refl _) (by omega) hg (by rw [List.take_of_length_le (by rw [hcl.out]; exact Nat.le_refl _)]; exact hval.out)).mono ?_
      rintro e w' ⟨A', m, rfl, how, rfl⟩
      go_wp2_with fail
      go_ret2
      exact ⟨A', m, rfl, how, hb⟩
end Go.Proofs.Ytlihnagfmfpdcaa
