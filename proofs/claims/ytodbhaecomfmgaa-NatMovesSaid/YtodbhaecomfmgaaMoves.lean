/- plumblinelaw01.NatMoves: the walk. -/
import Derived.Test.YtodbhaecomfmgaaAlive3
import Derived.Test.YtodbhaecomfmgaaRefMove
namespace Go.Proofs.Ytodbhaecomfmgaa
open Go.RowKit

theorem two_le (q k : Nat) (h : q ≤ 32 * k) : 2 ^ q ≤ 4294967296 ^ k := by
  rw [Limb.two_pow32]; exact Nat.pow_le_pow_right (by omega) h
set_option maxHeartbeats 8000000 in
theorem natMoves_walk (A : Option Addr) (n c : Nat) (xs : List Nat) (z : Int) (w : World) (hx : Nums w A n xs) (hc : n ≤ c) (hm : c ≤ 9223372036854775807) (hlo : -9223372036854775808 ≤ z) (hhi : z ≤ 9223372036854775807) :
    Calls Try.prog 3 #[.slice A n c, .int .i64 z] w (YesPost w) := by
  by_cases hs : n ≤ 60
  · -- what z is, once the law has brought it into range
    have hz : (∃ q : Nat, q ≤ 3000 ∧ ((z = (q : Int) ∧ ¬ (3000 < z)) ∨ (3000 < z ∧ z ≤ 1048576 ∧ bits BinOp.and IntKind.i64 z 2047 = (q : Int)))) ∨ z < 0 ∨ 1048576 < z := by
      rcases Int.lt_or_le z 0 with h | h
      · exact .inr (.inl h)
      · rcases Int.lt_or_le 1048576 z with h1 | h1
        · exact .inr (.inr h1)
        · refine .inl ?_
          rcases Int.lt_or_le 3000 z with h2 | h2
          · exact ⟨(z % 2048).toNat, by omega, .inr ⟨h2, h1, by rw [i64_low2047]; omega⟩⟩
          · exact ⟨z.toNat, by omega, .inl ⟨by omega, by omega⟩⟩
    rcases hz with ⟨q, hq, hz⟩ | hz
    · rcases hz with ⟨rfl, hz⟩ | ⟨hz, hz2, hz3⟩
      all_goals
        go_enter Try.func3, Try.ntmps3
        go_wp2_with fail
        refine (moving_any w).mono ?_
        rintro e w1 ⟨rfl, b1⟩
        go_wp2_with fail
        refine (left_any A n c q xs w1 (hx.below b1) hc hm (by omega) (by omega)).mono ?_
        rintro e w2 ⟨A2, n2, rfl, o2, b2⟩
        have t2 := b1.next b2
        have l2 := own_c o2
        go_wp2_with fail
        refine (rleft_any A n c q xs w2 (hx.below t2) (by omega) (by omega)).mono ?_
        rintro e w3 ⟨A3, n3, c3, rfl, o3, l3, m3, b3⟩
        have l3b : n3 ≤ 160 := short_canon o3 (by
          have h1 := lt_cap hx hs
          have h2 := two_le q 100 (by omega)
          rw [show 160 = 60 + 100 from rfl, Nat.pow_add]
          exact Nat.lt_of_le_of_lt (Nat.mul_le_mul_left _ h2) (Nat.mul_lt_mul_of_pos_right h1 (Nat.pow_pos (by omega))))
        have t3 := t2.next b3
        go_wp2_with fail
        refine (rtrim_any A3 n3 c3 _ w3 o3 (by omega)).mono ?_
        rintro e w4 ⟨A4, n4, c4, rfl, o4, l4, m4, b4⟩
        rw [Limb.val_canon] at o4
        have t4 := t3.next b4
        go_wp2_with fail
        refine (lsame_yes A2 A4 n2 n4 n2 c4 _ w4 (o2.nums.below (b3.next b4)) o4 (by omega)).mono ?_
        rintro e w5 ⟨rfl, b5⟩
        have t5 := t4.next b5
        clear o2 o3 o4 b2 b3 b4 b5
        go_wp2_with fail
        refine (right_z A n c (q : Int) xs w5 (hx.below t5) hc hm (by omega) (by omega)).mono ?_
        rintro e w6 ⟨A6, n6, rfl, o6, b6⟩
        have l6 := own_c o6
        have t6 := t5.next b6
        go_wp2_with fail
        refine (rright_z A n c (q : Int) xs w6 (hx.below t6) (by omega) (by omega)).mono ?_
        rintro e w7 ⟨A7, n7, c7, rfl, o7, l7, m7, b7⟩
        have t7 := t6.next b7
        go_wp2_with fail
        refine (lsame_yes A6 A7 n6 n7 n6 c7 _ w7 (o6.nums.below b7) o7 (by omega)).mono ?_
        rintro e w8 ⟨rfl, b8⟩
        have t8 := t7.next b8
        clear o6 o7 b6 b7 b8
        go_wp2_with fail
        refine (bits_any A n c xs w8 (hx.below t8) hc hm (by omega)).mono ?_
        rintro e w' ⟨rfl, rfl⟩
        go_wp2_with fail
        refine (rbits_any A n c xs w8 (hx.below t8) (by omega)).mono ?_
        rintro e w9 ⟨rfl, b9⟩
        have t9 := t8.next b9
        go_wp2_with fail
        refine (bit_any A n c xs (q : Int) w9 (hx.below t9) (by omega) (by omega) (by omega)).mono ?_
        rintro e w10 ⟨rfl, hw⟩
        have b10 : Below w9.heap.size w9 w10 := by obtain ⟨k, rfl⟩ := hw; exact bl_drewN _ k
        clear hw
        have t10 := t9.next b10
        go_wp2_with fail
        refine (rbit_int A n c xs (q : Int) w10 (hx.below t10) (by omega) (by omega) (by omega)).mono ?_
        rintro e w11 ⟨rfl, hw⟩
        have b11 : Below w10.heap.size w10 w11 := by obtain ⟨k, rfl⟩ := hw; exact bl_drewN _ k
        clear hw
        have t11 := t10.next b11
        generalize bitAt (Limb.val xs) (q : Int) = bt at *
        go_wp2_with fail
        refine (bit_any A n c xs 7 w11 (hx.below t11) (by omega) (by omega) (by omega)).mono ?_
        rintro e w12 ⟨rfl, hw⟩
        have b12 : Below w11.heap.size w11 w12 := by obtain ⟨k, rfl⟩ := hw; exact bl_drewN _ k
        clear hw
        have t12 := t11.next b12
        go_wp2_with fail
        refine (rbit_int A n c xs 7 w12 (hx.below t12) (by omega) (by omega) (by omega)).mono ?_
        rintro e w13 ⟨rfl, hw⟩
        have b13 : Below w12.heap.size w12 w13 := by obtain ⟨k, rfl⟩ := hw; exact bl_drewN _ k
        clear hw
        generalize bitAt (Limb.val xs) 7 = bt7 at *
        go_wp2_with fail
        go_ret
        exact ⟨rfl, t12.next b13⟩
    · have hL : ∃ k : Int, (∀ w', Calls Try.prog 19 #[.slice A n c, .int .i64 z] w' (ErrPost k w')) ∧ (∀ w', Calls Try.prog 20 #[.slice A n c, .int .i64 z] w' (ErrPost k w')) := by
        rcases hz with h | h
        · exact ⟨1, fun w' => left_arg A n c z w' h, fun w' => rleft_arg A n c z w' h⟩
        · exact ⟨2, fun w' => left_long A n c z w' h, fun w' => rleft_long A n c z w' h⟩
      obtain ⟨k, hL1, hL2⟩ := hL
      have HL1 := hide hL1
      have HL2 := hide hL2
      clear hL1 hL2
      have hg : (decide (3000 < z) && decide (z ≤ 1048576)) = false := by simp; omega
      rcases hz with hz | hz
      all_goals
        go_enter Try.func3, Try.ntmps3
        go_wp2_with fail
        refine (moving_any w).mono ?_
        rintro e w1 ⟨rfl, b1⟩
        go_wp2_with fail
        refine (HL1.out w1).mono ?_
        rintro e w' ⟨rfl, rfl⟩
        go_wp2_with fail
        refine (HL2.out w1).mono ?_
        rintro e w' ⟨rfl, rfl⟩
        go_wp2_with fail
        refine (rtrim_any none 0 0 [] w1 (Nums.nil _ _) (by omega)).mono ?_
        rintro e w4 ⟨A4, n4, c4, rfl, o4, l4, m4, b4⟩
        have t4 := b1.next b4
        go_wp2_with fail
        refine (lsame_yes none A4 0 n4 0 c4 0 w4 (Nums.nil _ _) o4 (by omega)).mono ?_
        rintro e w5 ⟨rfl, b5⟩
        have t5 := t4.next b5
        clear o4 b4 b5
        go_wp2_with fail
        refine (right_z A n c z xs w5 (hx.below t5) hc hm (by omega) (by omega)).mono ?_
        rintro e w6 ⟨A6, n6, rfl, o6, b6⟩
        have l6 := own_c o6
        have t6 := t5.next b6
        go_wp2_with fail
        refine (rright_z A n c z xs w6 (hx.below t6) (by omega) (by omega)).mono ?_
        rintro e w7 ⟨A7, n7, c7, rfl, o7, l7, m7, b7⟩
        have t7 := t6.next b7
        go_wp2_with fail
        refine (lsame_yes A6 A7 n6 n7 n6 c7 _ w7 (o6.nums.below b7) o7 (by omega)).mono ?_
        rintro e w8 ⟨rfl, b8⟩
        have t8 := t7.next b8
        clear o6 o7 b6 b7 b8
        go_wp2_with fail
        refine (bits_any A n c xs w8 (hx.below t8) hc hm (by omega)).mono ?_
        rintro e w' ⟨rfl, rfl⟩
        go_wp2_with fail
        refine (rbits_any A n c xs w8 (hx.below t8) (by omega)).mono ?_
        rintro e w9 ⟨rfl, b9⟩
        have t9 := t8.next b9
        go_wp2_with fail
        refine (bit_any A n c xs z w9 (hx.below t9) (by omega) (by omega) (by omega)).mono ?_
        rintro e w10 ⟨rfl, hw⟩
        have b10 : Below w9.heap.size w9 w10 := by obtain ⟨k, rfl⟩ := hw; exact bl_drewN _ k
        clear hw
        have t10 := t9.next b10
        go_wp2_with fail
        refine (rbit_int A n c xs z w10 (hx.below t10) (by omega) (by omega) (by omega)).mono ?_
        rintro e w11 ⟨rfl, hw⟩
        have b11 : Below w10.heap.size w10 w11 := by obtain ⟨k, rfl⟩ := hw; exact bl_drewN _ k
        clear hw
        have t11 := t10.next b11
        generalize bitAt (Limb.val xs) z = bt at *
        go_wp2_with fail
        refine (bit_any A n c xs 7 w11 (hx.below t11) (by omega) (by omega) (by omega)).mono ?_
        rintro e w12 ⟨rfl, hw⟩
        have b12 : Below w11.heap.size w11 w12 := by obtain ⟨k, rfl⟩ := hw; exact bl_drewN _ k
        clear hw
        have t12 := t11.next b12
        go_wp2_with fail
        refine (rbit_int A n c xs 7 w12 (hx.below t12) (by omega) (by omega) (by omega)).mono ?_
        rintro e w13 ⟨rfl, hw⟩
        have b13 : Below w12.heap.size w12 w13 := by obtain ⟨k, rfl⟩ := hw; exact bl_drewN _ k
        clear hw
        generalize bitAt (Limb.val xs) 7 = bt7 at *
        go_wp2_with fail
        go_ret
        exact ⟨rfl, t12.next b13⟩
  · go_enter Try.func3, Try.ntmps3
    go_wp2_with fail
    refine (moving_any w).mono ?_
    rintro e w1 ⟨rfl, b1⟩
    go_wp2_with fail
    go_ret
    exact ⟨rfl, b1⟩
end Go.Proofs.Ytodbhaecomfmgaa
