/- plumblineref01.Parse. -/
import Derived.Test.YtlihnagfmfpdcaaParse
namespace Go.Proofs.Ytlihnagfmfpdcaa
open Go.RowKit
open Limb (limb limb_lt upto upto_succ upto_all upto_zero)

theorem rparse_long (s : ByteArray) (w : World) (h : 4000 < s.size) (hs : s.size ≤ 9223372036854775807) : Calls Try.prog 17 #[.string s] w (ErrB 2 w) := by
  go_enter Try.func17, Try.ntmps17
  go_wp2_with fail
  go_ret2
  exact ⟨rfl, Below.refl _ _⟩
def RPPost (s : ByteArray) (w : World) (e : Ending) (w' : World) : Prop :=
  (allDig s ∧ s.size ≠ 0 → RefTwoPost (numOf s s.size) w e w') ∧ (¬ (allDig s ∧ s.size ≠ 0) → ErrB 20 w e w')
def RPRel (s : ByteArray) (w : World) (k : Nat) (v : Value) (wr : World) : Prop :=
  ∃ (B : Option Addr) (m c : Nat) (ys : List Nat), v = .slice B m c ∧ Nums wr B m ys ∧ m ≤ c ∧ c ≤ 9223372036854775807 ∧ m ≤ 446 ∧ Hid (Limb.val ys = numOf s k) ∧ Below w.heap.size w wr ∧ Hid (∀ j, j < k → 48 ≤ byteAt s j ∧ byteAt s j ≤ 57)

theorem len_cap {w : World} {A : Option Addr} {n N k : Nat} (h : Nums w A n (Limb.canon N)) (hN : N < 10 ^ k) (hk : k ≤ 4005) : n ≤ 446 := by
  obtain ⟨M, hM⟩ : ∃ M : Nat, M = 4005 := ⟨_, rfl⟩
  have h1 : n ≤ M / 9 + 1 := short_canon h (Nat.lt_of_lt_of_le hN (Nat.le_of_lt (Nat.lt_of_le_of_lt (Nat.pow_le_pow_right (by omega) (show k ≤ M by omega)) (Dec.limbs_room M))))
  omega
set_option maxHeartbeats 4000000 in
theorem rparse_any (s : ByteArray) (w : World) (hs : s.size ≤ 4000) : Calls Try.prog 17 #[.string s] w (RPPost s w) := by
  go_enter Try.func17, Try.ntmps17
  go_wp2_with fail
  go_loopw [4, 5] (fun v i wr => ∃ k : Nat, k ≤ s.size ∧ i = .int .i64 (k : Int) ∧ RPRel s w k v wr) (fun _ i _ => s.size - (intOf i).toNat)
  case atStart => exact ⟨0, Nat.zero_le _, rfl, _, 0, 0, [], rfl, Nums.nil _ _, by omega, by omega, by omega, rfl, bl_alloc w _, fun j hj => absurd hj (by omega)⟩
  case round =>
    obtain ⟨k, hk, rfl, B, m, c, ys, rfl, oB, lc, lc9, lm, HV, tr, HD⟩ := hrel
    by_cases hkn : k < s.size
    · have hbe := byteAt_eq s k hkn
      by_cases hd : 48 ≤ byteAt s k ∧ byteAt s k ≤ 57
      · have hD2 : Hid (∀ j, j < k + 1 → 48 ≤ byteAt s j ∧ byteAt s j ≤ 57) := fun j hj => by
          rcases Nat.eq_or_lt_of_le (Nat.le_of_lt_succ hj) with h | h
          · subst h; exact hd
          · exact HD.out j h
        have hnum := hide (show numOf s (k + 1) = numOf s k * 10 + ((s[k]'hkn).toNat - 48) by
          show Dec.upto _ (k + 1) = _
          rw [Dec.upto, hbe]; rfl)
        have hlt := hide (show numOf s (k + 1) < 10 ^ (k + 1) from Dec.upto_lt _ (k + 1) (fun j hj => by have := hD2.out j hj; omega))
        rw [hbe] at hd
        obtain ⟨bt, hB⟩ : ∃ bt, (s[k]'hkn).toNat = bt := ⟨_, rfl⟩
        rw [hB] at hd hnum
        clear hbe
        have eus : (#[.int .u32 ((bt : Int) - 48)] : Array Value) = (u32s [bt - 48]).toArray := by
          simp [u32s]; omega
        have hok : Limb.Ok [bt - 48] := Limb.Ok.cons (by omega) Limb.Ok.nil
        have EUS := hide eus
        have hw1 : IntKind.u8.wrap ((bt : Int) - 48) = (bt : Int) - 48 := by simp [IntKind.wrap, IntKind.bits, IntKind.signed]; omega
        have hw2 : IntKind.u32.wrap ((bt : Int) - 48) = (bt : Int) - 48 := by simp [IntKind.wrap, IntKind.bits, IntKind.signed]; omega
        have hm10 := hide (show Limb.val ys * 10 < 4294967296 ^ (m + 1) by have := oB.lt; rw [Nat.pow_succ]; omega)
        clear eus
        go_wp2_with fail
        go_region_with (first
          | (go_at_call 55; refine (small_any B m c ys 10 _ ?_ (by omega) (by omega)).mono ?_; (first | exact oB.drew | exact (oB.drew).alloc _); rintro e w1 ⟨A1, n1, c1, rfl, o1, l1, m1, b1⟩; have ln1 : n1 ≤ m + 1 := short_canon o1 hm10.out)
          | (go_at_call 54; refine (radd_any A1 _ n1 c1 1 1 (Limb.canon (Limb.val ys * 10)) [bt - 48] _ ?_ ?_ (by omega) (by omega)).mono ?_; (first | exact o1 | exact o1.alloc _); (first | exact Nums.new _ _ _ EUS.out hok 1 rfl | exact (Nums.new wr [bt - 48] _ EUS.out hok 1 rfl).drew.below b1 | exact (Nums.new wr.drew [bt - 48] _ EUS.out hok 1 rfl).below b1); rintro e w2 ⟨A2, n2, c2, rfl, o2, l2, m2, b2⟩))
        all_goals
          rw [Limb.val_canon, HV.out, show Limb.val [bt - 48] = bt - 48 by simp [Limb.val], ← hnum.out] at o2
          have ln2 : n2 ≤ 446 := len_cap o2 hlt.out (by omega)
          have t2 : Below w.heap.size w w2 := by first | exact ((tr.drew.next b1).next (bl_alloc w1 _)).next b2 | exact ((tr.next (bl_alloc wr _)).drew.next b1).next b2 | exact ((tr.drew.next (bl_alloc wr.drew _)).next b1).next b2
          go_wp2_with fail
          go_roundw
          case rel => exact ⟨k + 1, by omega, by go_num, A2, n2, c2, _, rfl, o2, l2, m2, ln2, by show _ = _; rw [Limb.val_canon], t2, hD2⟩
          case measure => simp [intOf]; omega
      · have hno : Hid (¬ (allDig s ∧ s.size ≠ 0)) := fun h => hd (h.1 k hkn)
        rw [hbe] at hd
        by_cases g1 : (48 : Int) ≤ ((s[k]'hkn).toNat : Int)
        · have g2 : ¬ ((s[k]'hkn).toNat : Int) ≤ 57 := by omega
          clear hd hbe
          go_wp2_with fail
          go_ret2
          exact ⟨fun h => absurd h hno.out, fun _ => ⟨rfl, tr⟩⟩
        · clear hd hbe
          go_wp2_with fail
          go_ret2
          exact ⟨fun h => absurd h hno.out, fun _ => ⟨rfl, tr⟩⟩
    · obtain rfl : k = s.size := by omega
      have hall := hide (show allDig s from fun i hi => HD.out i hi)
      by_cases h0 : s.size = 0
      · have hno : Hid (¬ (allDig s ∧ s.size ≠ 0)) := fun h => h.2 h0
        have c1 : ((s.size : Int) == 0) = true := by rw [h0]; rfl
        clear h0
        go_wp2_with fail
        go_ret2
        exact ⟨fun h => absurd h hno.out, fun _ => ⟨rfl, tr⟩⟩
      · have hyes : Hid (allDig s ∧ s.size ≠ 0) := ⟨hall.out, h0⟩
        have c1 : ((s.size : Int) == 0) = false := beq_eq_false_iff_ne.2 (by omega)
        clear h0
        go_wp2_with fail
        refine (rtrim_any B m c ys wr oB (by omega)).mono ?_
        rintro e w2 ⟨A2, n2, c2, rfl, o2, l2, m2, b2⟩
        rw [HV.out] at o2
        go_wp2_with fail
        go_ret2
        exact ⟨fun _ => ⟨A2, n2, c2, rfl, o2, l2, m2, tr.next b2⟩, fun h => absurd hyes.out h⟩
end Go.Proofs.Ytlihnagfmfpdcaa
