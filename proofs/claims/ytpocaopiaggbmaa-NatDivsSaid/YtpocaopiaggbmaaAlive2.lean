/- plumblinelaw01.dividing: the calls that divide are alive. -/
import Derived.Test.YtpocaopiaggbmaaAlive1
import Derived.Test.YtpocaopiaggbmaaMulD
import Derived.Test.YtpocaopiaggbmaaGcd
namespace Go.Proofs.Ytpocaopiaggbmaa
open Go.RowKit

theorem lt_pow {w : World} {A : Option Addr} {n k : Nat} {xs : List Nat} (h : Nums w A n xs) (hk : n ≤ k) : Limb.val xs < 4294967296 ^ k := Nat.lt_of_lt_of_le h.lt (Limb.pow_mono hk)
set_option maxHeartbeats 4000000 in
theorem dividing_any (w : World) : Calls Try.prog 16 #[] w (YesPost w) := by
  go_enter Try.func16, Try.ntmps16
  go_wp2_with fail
  refine (of_any 100 _ (by omega)).mono ?_
  rintro e w1 ⟨A1, n1, rfl, o1, b1⟩
  have l1 : n1 ≤ 2 := short_canon o1.nums (by omega)
  go_wp2_with fail
  refine (of_any 7 _ (by omega)).mono ?_
  rintro e w2 ⟨A2, n2, rfl, o2, b2⟩
  have l2 : n2 ≤ 2 := short_canon o2.nums (by omega)
  go_wp2_with fail
  refine (div_yes A1 A2 n1 n1 n2 n2 _ _ w2 (o1.nums.below b2) (by omega) (by omega) (by omega) o2.nums (by omega) (by omega) (by omega) (by rw [Limb.val_canon]; omega)).mono ?_
  rintro e w3 ⟨A3, n3, c3, B3, m3, d3, rfl, o3, p3, b3⟩
  rw [Limb.val_canon, Limb.val_canon] at o3 p3
  have l3 : n3 ≤ 2 := short_canon o3.nums (by omega)
  have k3 : m3 ≤ 2 := short_canon p3.nums (by omega)
  go_wp2_with fail
  refine (of_any 1 _ (by omega)).mono ?_
  rintro e w4 ⟨A4, n4, rfl, o4, b4⟩
  have l4 : n4 ≤ 2 := short_canon o4.nums (by omega)
  go_wp2_with fail
  refine (div_no A4 none n4 n4 0 0 _ [] w4 o4.nums (by omega) (by omega) (Nums.nil _ _) (by omega) (by omega) rfl).mono ?_
  rintro e w' ⟨rfl, rfl⟩
  go_wp2_with fail
  refine (of_any 6 _ (by omega)).mono ?_
  rintro e w5 ⟨A5, n5, rfl, o5, b5⟩
  have l5 : n5 ≤ 2 := short_canon o5.nums (by omega)
  go_wp2_with fail
  refine (of_any 7 _ (by omega)).mono ?_
  rintro e w6 ⟨A6, n6, rfl, o6, b6⟩
  have l6 : n6 ≤ 2 := short_canon o6.nums (by omega)
  go_wp2_with fail
  refine (mul_any A5 A6 n5 n5 n6 n6 _ _ w6 (o5.nums.below b6) (by omega) (by omega) o6.nums (by omega) (by omega) (by omega)).mono ?_
  rintro e w7 ⟨A7, n7, rfl, o7, b7⟩
  rw [Limb.val_canon, Limb.val_canon] at o7
  have l7 : n7 ≤ 2 := short_canon o7.nums (by omega)
  go_wp2_with fail
  refine (lsame_yes A7 _ n7 1 n7 _ 42 _ (o7.nums.below (bl_alloc w7 _)) (lit1 w7 42 42 #[.int .u32 42] rfl (by omega) (by omega) rfl) (by omega)).mono ?_
  rintro e w8 ⟨rfl, b8⟩
  have t8 : Below w3.heap.size w3 w8 := ((((b4.next b5).next b6).next b7).next (bl_alloc w7 _)).next b8
  go_wp2_with fail
  refine (lsame_yes A3 _ n3 1 c3 _ 14 _ (o3.nums.below (t8.next (bl_alloc w8 _))) (lit1 w8 14 14 #[.int .u32 14] rfl (by omega) (by omega) rfl) (by omega)).mono ?_
  rintro e w9 ⟨rfl, b9⟩
  have t9 := (t8.next (bl_alloc w8 _)).next b9
  go_wp2_with fail
  refine (lsame_yes B3 _ m3 1 d3 _ 2 _ (p3.nums.below (t9.next (bl_alloc w9 _))) (lit1 w9 2 2 #[.int .u32 2] rfl (by omega) (by omega) rfl) (by omega)).mono ?_
  rintro e w10 ⟨rfl, b10⟩
  have t10 := (t9.next (bl_alloc w9 _)).next b10
  go_wp2_with fail
  refine (of_any 12 _ (by omega)).mono ?_
  rintro e w11 ⟨A11, n11, rfl, o11, b11⟩
  have l11 : n11 ≤ 2 := short_canon o11.nums (by omega)
  go_wp2_with fail
  refine (of_any 18 _ (by omega)).mono ?_
  rintro e w12 ⟨A12, n12, rfl, o12, b12⟩
  have l12 : n12 ≤ 2 := short_canon o12.nums (by omega)
  go_wp2_with fail
  refine (gcd_any A11 A12 n11 n11 n12 n12 _ _ w12 (o11.nums.below b12) (by omega) (by omega) (by omega) o12.nums (by omega) (by omega) (by omega)).mono ?_
  rintro e w13 ⟨A13, n13, rfl, o13, b13⟩
  rw [Limb.val_canon, Limb.val_canon] at o13
  have e13 : Nat.gcd 12 18 = 6 := by decide
  rw [e13] at o13
  clear e13
  have l13 : n13 ≤ 2 := short_canon o13.nums (by omega)
  go_wp2_with fail
  refine (lsame_yes A13 _ n13 1 n13 _ 6 _ (o13.nums.below (bl_alloc w13 _)) (lit1 w13 6 6 #[.int .u32 6] rfl (by omega) (by omega) rfl) (by omega)).mono ?_
  rintro e w14 ⟨rfl, b14⟩
  go_wp2_with fail
  go_ret
  exact ⟨rfl, (((((((b1.next b2).next b3).next t10).next b11).next b12).next b13).next (bl_alloc w13 _)).next b14⟩
end Go.Proofs.Ytpocaopiaggbmaa
