/- plumblinelaw01.NatPowers: the walk. -/
import Derived.Test.YtodbhaecomfmgaaAlive3
import Derived.Test.YtodbhaecomfmgaaRefMove
namespace Go.Proofs.Ytodbhaecomfmgaa
open Go.RowKit

theorem rpow_any (A : Option Addr) (n c : Nat) (xs : List Nat) (k : Nat) (w : World) (hx : Nums w A n xs) (hb : n ≤ 1073741824) (hk : k ≤ 9223372036854775807) (h0 : Limb.bl (Limb.val xs) = 0 ∨ k ≤ 1048576 / Limb.bl (Limb.val xs)) :
    Calls Try.prog 30 #[.slice A n c, .int .i64 (k : Int)] w (RefTwoPost (Limb.val xs ^ k) w) := by
  rcases Nat.eq_zero_or_pos (Limb.bl (Limb.val xs)) with h | h
  · have hz := (Limb.bl_eq_zero _).1 h
    have := rpow_zero A n c xs k w hx (by omega) hk hz
    rw [← hz] at this
    exact this
  · exact rpow_pos A n c xs k w hx hb h (by rcases h0 with h0 | h0 <;> omega)
theorem pow40_lt (a q : Nat) (h : a < 4294967296 ^ 4) (hq : q ≤ 40) : a ^ q < 4294967296 ^ 161 := by
  have h1 : a ^ q ≤ (4294967296 ^ 4) ^ q := Nat.pow_le_pow_left (Nat.le_of_lt h) q
  rw [← Nat.pow_mul] at h1
  have h2 : 4294967296 ^ (4 * q) < 4294967296 ^ 161 := Nat.pow_lt_pow_right (by omega) (by omega)
  exact Nat.lt_of_le_of_lt h1 h2
set_option maxHeartbeats 8000000 in
theorem natPowers_walk (A : Option Addr) (n c : Nat) (xs : List Nat) (z : Int) (w : World) (hx : Nums w A n xs) (hc : n ≤ c) (hm : c ≤ 9223372036854775807) (hlo : -9223372036854775808 ≤ z) (hhi : z ≤ 9223372036854775807) :
    Calls Try.prog 4 #[.slice A n c, .int .i64 z] w (YesPost w) := by
  by_cases hs : n ≤ 4
  · have hb128 : Limb.bl (Limb.val xs) ≤ 128 := Nat.le_trans (Limb.bl_le _ _ (by rw [← Limb.two_pow32]; exact hx.lt)) (by omega)
    have hok : ∀ q, q ≤ 40 → Limb.bl (Limb.val xs) = 0 ∨ q ≤ 1048576 / Limb.bl (Limb.val xs) := fun q hq => by
      rcases Nat.eq_zero_or_pos (Limb.bl (Limb.val xs)) with h | h
      · exact .inl h
      · refine .inr ((Nat.le_div_iff_mul_le h).2 ?_)
        have := Nat.mul_le_mul hq hb128
        omega
    have HOK := hide hok
    have HLT := hide (fun q hq => pow40_lt (Limb.val xs) q (lt_cap hx hs) hq)
    have hrb := fun w' (hw : Nums w' A n xs) => rbits_any A n c xs w' hw (by omega)
    unfold RBitsPost at hrb
    have HRB := hide hrb
    clear hok hrb
    have hz : (∃ q : Nat, q ≤ 40 ∧ ((z = (q : Int) ∧ ¬ (40 < z)) ∨ (40 < z ∧ z ≤ 1048576 ∧ bits BinOp.and IntKind.i64 z 31 = (q : Int) ∧ ¬ (40 < (q : Int))))) ∨ z < 0 ∨ 1048576 < z := by
      rcases Int.lt_or_le z 0 with h | h
      · exact .inr (.inl h)
      · rcases Int.lt_or_le 1048576 z with h1 | h1
        · exact .inr (.inr h1)
        · refine .inl ?_
          rcases Int.lt_or_le 40 z with h2 | h2
          · exact ⟨(z % 32).toNat, by omega, .inr ⟨h2, h1, by rw [i64_low31]; omega, by omega⟩⟩
          · exact ⟨z.toNat, by omega, .inl ⟨by omega, by omega⟩⟩
    rcases hz with ⟨q, hq, hz⟩ | hz | hz
    · rcases hz with ⟨rfl, hz⟩ | ⟨hz, hz2, hz3, hz4⟩
      all_goals
        go_enter Try.func4, Try.ntmps4
        go_wp2_with fail
        refine (moving_any w).mono ?_
        rintro e w1 ⟨rfl, b1⟩
        go_wp2_with fail
        refine (pow_any A n c xs q w1 (hx.below b1) hc hm (by omega) (by omega) (HOK.out q hq)).mono ?_
        rintro e w2 ⟨A2, n2, rfl, o2, b2⟩
        have t2 := b1.next b2
        have l2 := own_c o2
        go_wp2_with fail
        refine (rpow_any A n c xs q w2 (hx.below t2) (by omega) (by omega) (HOK.out q hq)).mono ?_
        rintro e w3 ⟨A3, n3, c3, rfl, o3, l3, m3, b3⟩
        have l3b : n3 ≤ 161 := short_canon o3 (HLT.out q hq)
        have t3 := t2.next b3
        go_wp2_with fail
        refine (rtrim_any A3 n3 c3 _ w3 o3 (by omega)).mono ?_
        rintro e w4 ⟨A4, n4, c4, rfl, o4, l4, m4, b4⟩
        rw [Limb.val_canon] at o4
        have t4 := t3.next b4
        go_wp2_with fail
        refine (lsame_yes A2 A4 n2 n4 n2 c4 _ w4 (o2.nums.below (b3.next b4)) o4 (by omega)).mono ?_
        rintro e w5 ⟨rfl, b5⟩
        go_wp2_with fail
        go_ret
        exact ⟨rfl, t4.next b5⟩
    · go_enter Try.func4, Try.ntmps4
      go_wp2_with fail
      refine (moving_any w).mono ?_
      rintro e w1 ⟨rfl, b1⟩
      go_wp2_with fail
      refine (pow_arg A n c z w1 hz).mono ?_
      rintro e w' ⟨rfl, rfl⟩
      go_wp2_with fail
      refine (rpow_arg A n c z w1 hz).mono ?_
      rintro e w' ⟨rfl, rfl⟩
      go_wp2_with fail
      refine (rtrim_any none 0 0 [] w1 (Nums.nil _ _) (by omega)).mono ?_
      rintro e w4 ⟨A4, n4, c4, rfl, o4, l4, m4, b4⟩
      go_wp2_with fail
      refine (lsame_yes none A4 0 n4 0 c4 0 w4 (Nums.nil _ _) o4 (by omega)).mono ?_
      rintro e w5 ⟨rfl, b5⟩
      go_wp2_with fail
      go_ret
      exact ⟨rfl, (b1.next b4).next b5⟩
    · obtain ⟨u, rfl⟩ := Int.eq_ofNat_of_zero_le (show 0 ≤ z by omega)
      rcases Nat.eq_zero_or_pos (Limb.bl (Limb.val xs)) with hb0 | hb0
      · have hx2 := hide hx
        have HB0 := hide hb0
        go_enter Try.func4, Try.ntmps4
        go_wp2_with fail
        refine (moving_any w).mono ?_
        rintro e w1 ⟨rfl, b1⟩
        have hr := HRB.out w1 (hx.below b1)
        rw [hb0] at hr
        clear hb0
        go_wp2_with fail
        refine hr.mono ?_
        rintro e w1' ⟨rfl, b1'⟩
        have t1 := b1.next b1'
        clear hr
        go_wp2_with fail
        refine (pow_any A n c xs 40 w1' (hx.below t1) hc hm (by omega) (by omega) (.inl HB0.out)).mono ?_
        rintro e w2 ⟨A2, n2, rfl, o2, b2⟩
        have t2 := t1.next b2
        have l2 := own_c o2
        go_wp2_with fail
        refine (rpow_any A n c xs 40 w2 (hx.below t2) (by omega) (by omega) (.inl HB0.out)).mono ?_
        rintro e w3 ⟨A3, n3, c3, rfl, o3, l3, m3, b3⟩
        have l3b : n3 ≤ 161 := short_canon o3 (HLT.out 40 (by omega))
        have t3 := t2.next b3
        go_wp2_with fail
        refine (rtrim_any A3 n3 c3 _ w3 o3 (by omega)).mono ?_
        rintro e w4 ⟨A4, n4, c4, rfl, o4, l4, m4, b4⟩
        rw [Limb.val_canon] at o4
        have t4 := t3.next b4
        go_wp2_with fail
        refine (lsame_yes A2 A4 n2 n4 n2 c4 _ w4 (o2.nums.below (b3.next b4)) o4 (by omega)).mono ?_
        rintro e w5 ⟨rfl, b5⟩
        go_wp2_with fail
        go_ret
        exact ⟨rfl, t4.next b5⟩
      · have hno : ¬ u ≤ 1048576 / Limb.bl (Limb.val xs) := by
          have := Nat.div_le_self 1048576 (Limb.bl (Limb.val xs))
          omega
        have HNO := hide hno
        have HB0 := hide hb0
        have hne : ((Limb.bl (Limb.val xs) : Int) == 0) = false := by simp; omega
        clear hno hb0
        go_enter Try.func4, Try.ntmps4
        go_wp2_with fail
        refine (moving_any w).mono ?_
        rintro e w1 ⟨rfl, b1⟩
        have hr := HRB.out w1 (hx.below b1)
        go_wp2_with fail
        refine hr.mono ?_
        rintro e w1' ⟨rfl, b1'⟩
        have t1 := b1.next b1'
        clear hr
        go_wp2_with fail
        refine (pow_long A n c xs u w1' (hx.below t1) hc hm (by omega) (by omega) HB0.out HNO.out).mono ?_
        rintro e w' ⟨rfl, rfl⟩
        go_wp2_with fail
        refine (rpow_long A n c xs u w1' (hx.below t1) (by omega) (by omega) HB0.out HNO.out).mono ?_
        rintro e w3 ⟨rfl, b3⟩
        have t3 := t1.next b3
        go_wp2_with fail
        refine (rtrim_any none 0 0 [] w3 (Nums.nil _ _) (by omega)).mono ?_
        rintro e w4 ⟨A4, n4, c4, rfl, o4, l4, m4, b4⟩
        go_wp2_with fail
        refine (lsame_yes none A4 0 n4 0 c4 0 w4 (Nums.nil _ _) o4 (by omega)).mono ?_
        rintro e w5 ⟨rfl, b5⟩
        go_wp2_with fail
        go_ret
        exact ⟨rfl, (t3.next b4).next b5⟩
  · go_enter Try.func4, Try.ntmps4
    go_wp2_with fail
    refine (moving_any w).mono ?_
    rintro e w1 ⟨rfl, b1⟩
    go_wp2_with fail
    go_ret
    exact ⟨rfl, b1⟩
end Go.Proofs.Ytodbhaecomfmgaa
