/- plumblinelaw01.NatRoots: the walk. -/
import Derived.Test.YtodbhaecomfmgaaAlive3
namespace Go.Proofs.Ytodbhaecomfmgaa
open Go.RowKit

set_option maxHeartbeats 4000000 in
theorem natRoots_walk (A : Option Addr) (n c : Nat) (xs : List Nat) (w : World) (hx : Nums w A n xs) (hc : n ≤ c) (hm : c ≤ 9223372036854775807) :
    Calls Try.prog 6 #[.slice A n c] w (YesPost w) := by
  by_cases hs : n ≤ 60
  · go_enter Try.func6, Try.ntmps6
    go_wp2_with fail
    refine (moving_any w).mono ?_
    rintro e w1 ⟨rfl, b1⟩
    go_wp2_with fail
    refine (dividing_any w1).mono ?_
    rintro e w2 ⟨rfl, b2⟩
    go_wp2_with fail
    refine (adding_any w2).mono ?_
    rintro e w3 ⟨rfl, b3⟩
    have t3 := (b1.next b2).next b3
    go_wp2_with fail
    refine (root_any (Limb.val xs + 1) A n c xs w3 (by omega) (hx.below t3) hc hm (by omega)).mono ?_
    rintro e w4 ⟨A4, n4, R, rfl, o4, HR, b4⟩
    have t4 := t3.next b4
    have l4 : n4 ≤ 60 := short_canon o4.nums (by
      have h1 := HR.out.1
      have h2 : R ≤ R * R := Nat.le_mul_self R
      exact Nat.lt_of_le_of_lt (Nat.le_trans h2 h1) (lt_cap hx hs))
    have HN := hide (Limb.root_next _ R HR.out.2)
    have HL := hide HR.out.1
    clear HR
    go_wp2_with fail
    refine (add_any A4 _ n4 n4 1 1 _ _ _ (o4.nums.below (bl_alloc w4 _)) (Nat.le_refl _) (by omega) (by omega) (lit1 w4 1 1 #[.int .u32 1] rfl (by omega) (by omega) rfl) (by omega) (by omega) (by omega)).mono ?_
    rintro e w5 ⟨A5, n5, rfl, o5, b5⟩
    rw [Limb.val_canon, Limb.val_canon] at o5
    have l5 : n5 ≤ 61 := short_canon o5.nums (by
      have h4 : R < 4294967296 ^ n4 := by have := o4.nums.lt; rw [Limb.val_canon] at this; exact this
      have h5 : 4294967296 ^ n4 ≤ 4294967296 ^ 60 := Limb.pow_mono l4
      omega)
    have t5 := (t4.next (bl_alloc w4 _)).next b5
    have o4b := o4.nums.below ((bl_alloc w4 _).next b5)
    go_wp2_with fail
    refine (mul_any A4 A4 n4 n4 n4 n4 _ _ w5 o4b (Nat.le_refl _) (by omega) o4b (Nat.le_refl _) (by omega) (by omega)).mono ?_
    rintro e w6 ⟨A6, n6, rfl, o6, b6⟩
    rw [Limb.val_canon] at o6
    have l6 := own_c o6
    have t6 := t5.next b6
    have hcm := cmp_any A6 A n6 n6 n c _ xs w6 o6.nums (Nat.le_refl _) (by omega) (hx.below t6) hc hm
    rw [Limb.val_canon] at hcm
    have hc0 : ¬ (0 < cmpN (R * R) (Limb.val xs)) := by
      unfold cmpN sgn3
      have := HL.out
      split <;> (try split) <;> omega
    go_wp2_with fail
    refine hcm.mono ?_
    rintro e w7 ⟨rfl, hw7⟩
    have b7 : Below w6.heap.size w6 w7 := by obtain ⟨k, rfl⟩ := hw7; exact bl_drewN _ k
    have t7 := t6.next b7
    clear hcm hw7
    have o5b := o5.nums.below (b6.next b7)
    generalize cmpN (R * R) (Limb.val xs) = cv at *
    go_wp2_with fail
    refine (mul_any A5 A5 n5 n5 n5 n5 _ _ w7 o5b (Nat.le_refl _) (by omega) o5b (Nat.le_refl _) (by omega) (by omega)).mono ?_
    rintro e w8 ⟨A8, n8, rfl, o8, b8⟩
    rw [Limb.val_canon] at o8
    have l8 := own_c o8
    have t8 := t7.next b8
    have hcm := cmp_any A8 A n8 n8 n c _ xs w8 o8.nums (Nat.le_refl _) (by omega) (hx.below t8) hc hm
    rw [Limb.val_canon] at hcm
    have hc1 : 0 < cmpN ((R + 1) * (R + 1)) (Limb.val xs) := by rw [cmpN_gt' HN.out]; omega
    go_wp2_with fail
    refine hcm.mono ?_
    rintro e w9 ⟨rfl, hw9⟩
    have b9 : Below w8.heap.size w8 w9 := by obtain ⟨k, rfl⟩ := hw9; exact bl_drewN _ k
    clear hcm hw9
    have hb : decide (0 < cmpN ((R + 1) * (R + 1)) (Limb.val xs)) = true := decide_eq_true hc1
    generalize cmpN ((R + 1) * (R + 1)) (Limb.val xs) = cv2 at *
    go_wp2_with fail
    go_ret
    exact ⟨by first | rfl | (rw [hb]), t8.next b9⟩
  · go_enter Try.func6, Try.ntmps6
    go_wp2_with fail
    refine (moving_any w).mono ?_
    rintro e w1 ⟨rfl, b1⟩
    go_wp2_with fail
    refine (dividing_any w1).mono ?_
    rintro e w2 ⟨rfl, b2⟩
    go_wp2_with fail
    refine (adding_any w2).mono ?_
    rintro e w3 ⟨rfl, b3⟩
    go_wp2_with fail
    go_ret
    exact ⟨rfl, (b1.next b2).next b3⟩
end Go.Proofs.Ytodbhaecomfmgaa
