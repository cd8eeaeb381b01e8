/- plumblinelaw01.moving: the calls that move, count and look at bits, raise to powers and take roots are alive. -/
import Derived.Test.YtodbhaecomfmgaaPow
import Derived.Test.YtodbhaecomfmgaaRoot
import Derived.Test.YtodbhaecomfmgaaAlive2
namespace Go.Proofs.Ytodbhaecomfmgaa
open Go.RowKit

theorem bl_three : Limb.bl 3 = 2 := Limb.bl_spec 3 1 (by omega) (by omega)
theorem bl_moved : Limb.bl 25769803776 = 35 := Limb.bl_spec 25769803776 34 (by omega) (by omega)
theorem bit_moved : bitAt 25769803776 34 = true ∧ bitAt 25769803776 35 = false := by
  have h1 := bitAt_nat 25769803776 34
  have h2 := bitAt_nat 25769803776 35
  exact ⟨h1.trans (decide_eq_true (by omega)), h2.trans (decide_eq_false (by omega))⟩
theorem root_99 (r : Nat) (h : r * r ≤ 99 ∧ Limb.RootUp 99 r) : r = 9 := Limb.root_uniq 99 r 9 h.1 h.2 (by omega) (by omega)
set_option maxHeartbeats 4000000 in
theorem moving_any (w : World) : Calls Try.prog 18 #[] w (YesPost w) := by
  go_enter Try.func18, Try.ntmps18
  go_wp2_with fail
  refine (of_any 3 _ (by omega)).mono ?_
  rintro e w1 ⟨A1, n1, rfl, o1, b1⟩
  have l1 : n1 ≤ 2 := short_canon o1.nums (by omega)
  have hleft := left_any A1 n1 n1 33 _ w1 o1.nums (Nat.le_refl _) (by omega) (by omega) (by omega)
  rw [Limb.val_canon, show 3 * 2 ^ 33 = 25769803776 from rfl] at hleft
  go_wp2_with fail
  refine hleft.mono ?_
  rintro e w2 ⟨A2, n2, rfl, o2, b2⟩
  have l2 : n2 ≤ 2 := short_canon o2.nums (by omega)
  clear hleft
  go_wp2_with fail
  refine (of_any 3 _ (by omega)).mono ?_
  rintro e w3 ⟨A3, n3, rfl, o3, b3⟩
  have l3 : n3 ≤ 2 := short_canon o3.nums (by omega)
  have hpow := pow_any A3 n3 n3 _ 4 w3 o3.nums (Nat.le_refl _) (by omega) (by omega) (by omega) (.inr (by rw [Limb.val_canon, bl_three]; omega))
  rw [Limb.val_canon, show 3 ^ 4 = 81 from rfl] at hpow
  go_wp2_with fail
  refine hpow.mono ?_
  rintro e w4 ⟨A4, n4, rfl, o4, b4⟩
  have l4 : n4 ≤ 2 := short_canon o4.nums (by omega)
  clear hpow
  go_wp2_with fail
  refine (of_any 3 _ (by omega)).mono ?_
  rintro e w5 ⟨A5, n5, rfl, o5, b5⟩
  go_wp2_with fail
  refine (pow_arg A5 n5 n5 (-1) w5 (by omega)).mono ?_
  rintro e w' ⟨rfl, rfl⟩
  have t5 := (b3.next b4).next b5
  go_wp2_with fail
  refine (lsame_yes A2 _ n2 2 n2 _ 25769803776 _ ((o2.nums.below t5).below (bl_alloc w5 _)) (lit2 w5 0 6 25769803776 #[.int .u32 0, .int .u32 6] rfl (by omega) (by omega) (by omega) (by omega)) (by omega)).mono ?_
  rintro e w6 ⟨rfl, b6⟩
  have t6 := (t5.next (bl_alloc w5 _)).next b6
  have hright := right_z A2 n2 n2 34 _ w6 (o2.nums.below t6) (Nat.le_refl _) (by omega) (by omega) (by omega)
  rw [Limb.val_canon, show 25769803776 / 2 ^ (34 : Int).toNat = 1 from rfl] at hright
  go_wp2_with fail
  refine hright.mono ?_
  rintro e w7 ⟨A7, n7, rfl, o7, b7⟩
  have l7 : n7 ≤ 2 := short_canon o7.nums (by omega)
  clear hright
  go_wp2_with fail
  refine (lsame_yes A7 _ n7 1 n7 _ 1 _ (o7.nums.below (bl_alloc w7 _)) (lit1 w7 1 1 #[.int .u32 1] rfl (by omega) (by omega) rfl) (by omega)).mono ?_
  rintro e w8 ⟨rfl, b8⟩
  have t8 := ((t6.next b7).next (bl_alloc w7 _)).next b8
  have hbits := bits_any A2 n2 n2 _ w8 (o2.nums.below t8) (Nat.le_refl _) (by omega) (by omega)
  unfold BitsPost at hbits
  rw [Limb.val_canon, bl_moved] at hbits
  go_wp2_with fail
  refine hbits.mono ?_
  rintro e w' ⟨rfl, rfl⟩
  clear hbits
  have hb34 := bit_any A2 n2 n2 _ 34 w8 (o2.nums.below t8) (by omega) (by omega) (by omega)
  unfold BoolPost at hb34
  rw [Limb.val_canon, bit_moved.1] at hb34
  go_wp2_with fail
  refine hb34.mono ?_
  rintro e w' ⟨rfl, k1, rfl⟩
  clear hb34
  have d1 := bl_drewN w8 k1
  have hb35 := bit_any A2 n2 n2 _ 35 _ ((o2.nums.below t8).below d1) (by omega) (by omega) (by omega)
  unfold BoolPost at hb35
  rw [Limb.val_canon, bit_moved.2] at hb35
  go_wp2_with fail
  refine hb35.mono ?_
  rintro e w9 ⟨rfl, hw9⟩
  have d2 : Below (w8.drewN k1).heap.size (w8.drewN k1) w9 := by obtain ⟨k2, rfl⟩ := hw9; exact bl_drewN _ k2
  clear hb35 hw9
  have t9 := (t8.next d1).next d2
  go_wp2_with fail
  refine (lsame_yes A4 _ n4 1 n4 _ 81 _ ((((o4.nums.below b5).below (((bl_alloc w5 _).next b6).next ((b7.next (bl_alloc w7 _)).next b8))).below (d1.next d2)).below (bl_alloc w9 _)) (lit1 w9 81 81 #[.int .u32 81] rfl (by omega) (by omega) rfl) (by omega)).mono ?_
  rintro e w10 ⟨rfl, b10⟩
  have t10 := (t9.next (bl_alloc w9 _)).next b10
  go_wp2_with fail
  refine (of_any 99 _ (by omega)).mono ?_
  rintro e w11 ⟨A11, n11, rfl, o11, b11⟩
  have l11 : n11 ≤ 2 := short_canon o11.nums (by omega)
  have hroot := root_any (100) A11 n11 n11 _ w11 (by rw [Limb.val_canon]; omega) o11.nums (Nat.le_refl _) (by omega) (by omega)
  rw [Limb.val_canon] at hroot
  go_wp2_with fail
  refine hroot.mono ?_
  rintro e w12 ⟨A12, n12, R, rfl, o12, HR, b12⟩
  obtain rfl := root_99 R HR.out
  have l12 : n12 ≤ 2 := short_canon o12.nums (by omega)
  clear hroot
  go_wp2_with fail
  refine (lsame_yes A12 _ n12 1 n12 _ 9 _ (o12.nums.below (bl_alloc w12 _)) (lit1 w12 9 9 #[.int .u32 9] rfl (by omega) (by omega) rfl) (by omega)).mono ?_
  rintro e w13 ⟨rfl, b13⟩
  go_wp2_with fail
  go_ret
  exact ⟨rfl, (((((b1.next b2).next t10).next b11).next b12).next (bl_alloc w12 _)).next b13⟩
end Go.Proofs.Ytodbhaecomfmgaa
