/- plumblinelaw01.NatSums: the walk. -/
import Derived.Test.YtdcpcbdlmempnaaAlive1
namespace Go.Proofs.Ytdcpcbdlmempnaa
open Go.RowKit

def LawPost (w : World) (e : Ending) (w' : World) : Prop := e = .returned (.bool true) ∧ Below w.heap.size w w'

set_option maxHeartbeats 4000000 in
theorem natSums_walk (A : Option Addr) (n c : Nat) (xs : List Nat) (B : Option Addr) (m d : Nat) (ys : List Nat) (w : World) (hx : Nums w A n xs) (hc : n ≤ c) (hm : c ≤ 9223372036854775807) (hy : Nums w B m ys) (hd : m ≤ d) (hmd : d ≤ 9223372036854775807) :
    Calls Try.prog 3 #[.slice A n c, .slice B m d] w (LawPost w) := by
  by_cases hs : n ≤ 300 ∧ m ≤ 300
  · obtain ⟨hn3, hm3⟩ := hs
    rcases Nat.lt_or_ge (Limb.val xs) (Limb.val ys) with hlt | hle
    · go_enter Try.func3, Try.ntmps3
      go_wp2_with fail
      refine (adding_any w).mono ?_
      rintro e w1 ⟨rfl, b1⟩
      go_wp2_with fail
      refine (short_yes A B n c m d 300 w1 (by omega) (by omega) (by omega)).mono ?_
      rintro e w' ⟨rfl, rfl⟩
      go_wp2_with fail
      refine (sub_no A B n c m d xs ys w1 (hx.below b1) hc hm (hy.below b1) hd hmd hlt).mono ?_
      rintro e w' ⟨rfl, k2, rfl⟩
      go_wp2_with fail
      have t2 := b1.next (bl_drewN w1 k2)
      refine (rsub_no A B n c m d xs ys _ (hx.below t2) (hy.below t2) (by omega) (by omega) hlt).mono ?_
      rintro e w' ⟨rfl, rfl⟩
      go_wp2_with fail
      refine (add_any A B n c m d xs ys _ (hx.below t2) hc hm (by omega) (hy.below t2) hd hmd (by omega)).mono ?_
      rintro e w3 ⟨A3, n3, rfl, o3, b3⟩
      have t3 := t2.next b3
      go_wp2_with fail
      refine (radd_any A B n c m d xs ys _ (hx.below t3) (hy.below t3) (by omega) (by omega)).mono ?_
      rintro e w4 ⟨A4, n4, c4, rfl, o4, _, _, b4⟩
      have t4 := t3.next b4
      go_wp2_with fail
      refine (lsame_yes A3 A4 n3 n4 n3 c4 _ w4 (o3.nums.below b4) o4 (by have := o3.2.2.1; omega)).mono ?_
      rintro e w5 ⟨rfl, b5⟩
      have t5 := t4.next b5
      go_wp2_with fail
      refine (lsame_yes none none 0 0 0 0 0 w5 (Nums.nil _ _) (Nums.nil _ _) (by omega)).mono ?_
      rintro e w6 ⟨rfl, b6⟩
      have t6 := t5.next b6
      go_wp2_with fail
      refine (cmp_any A B n c m d xs ys w6 (hx.below t6) hc hm (hy.below t6) hd hmd).mono ?_
      rintro e w7 ⟨rfl, k7, rfl⟩
      have t7 := t6.next (bl_drewN w6 k7)
      go_wp2_with fail
      refine (rcmp_any A B n c m d xs ys _ (hx.below t7) (hy.below t7) (by omega) (by omega)).mono ?_
      rintro e w8 ⟨rfl, rfl⟩
      go_wp2_with fail
      refine (trim_any A n c xs _ (hx.below t7) hc hm (by omega)).mono ?_
      rintro e w9 ⟨A9, n9, rfl, o9, b9⟩
      have t9 := t7.next b9
      go_wp2_with fail
      refine (rtrim_any A n c xs _ (hx.below t9) (by omega)).mono ?_
      rintro e w10 ⟨A10, n10, c10, rfl, o10, _, _, b10⟩
      have t10 := t9.next b10
      go_wp2_with fail
      refine (lsame_yes A9 A10 n9 n10 n9 c10 _ _ (o9.nums.below b10) o10 (by have := o9.2.2.1; omega)).mono ?_
      rintro e w11 ⟨rfl, b11⟩
      go_wp2_with fail
      go_ret
      exact ⟨rfl, t10.next b11⟩
    · go_enter Try.func3, Try.ntmps3
      go_wp2_with fail
      refine (adding_any w).mono ?_
      rintro e w1 ⟨rfl, b1⟩
      go_wp2_with fail
      refine (short_yes A B n c m d 300 w1 (by omega) (by omega) (by omega)).mono ?_
      rintro e w' ⟨rfl, rfl⟩
      go_wp2_with fail
      refine (sub_yes A B n c m d xs ys w1 (hx.below b1) hc hm (by omega) (hy.below b1) hd hmd hle).mono ?_
      rintro e w1a ⟨A1, n1, rfl, o1, b1a⟩
      have t1 := b1.next b1a
      go_wp2_with fail
      refine (rsub_yes A B n c m d xs ys _ (hx.below t1) (hy.below t1) (by omega) (by omega) hle).mono ?_
      rintro e w2 ⟨A2, n2, c2, rfl, o2, _, _, b2⟩
      have t2 := t1.next b2
      go_wp2_with fail
      refine (add_any A B n c m d xs ys _ (hx.below t2) hc hm (by omega) (hy.below t2) hd hmd (by omega)).mono ?_
      rintro e w3 ⟨A3, n3, rfl, o3, b3⟩
      have t3 := t2.next b3
      go_wp2_with fail
      refine (radd_any A B n c m d xs ys _ (hx.below t3) (hy.below t3) (by omega) (by omega)).mono ?_
      rintro e w4 ⟨A4, n4, c4, rfl, o4, _, _, b4⟩
      have t4 := t3.next b4
      go_wp2_with fail
      refine (lsame_yes A3 A4 n3 n4 n3 c4 _ w4 (o3.nums.below b4) o4 (by have := o3.2.2.1; omega)).mono ?_
      rintro e w5 ⟨rfl, b5⟩
      have t5 := t4.next b5
      go_wp2_with fail
      refine (lsame_yes A1 A2 n1 n2 n1 c2 _ w5 (o1.nums.below (((b2.next b3).next b4).next b5)) (o2.below ((b3.next b4).next b5)) (by have := o1.2.2.1; omega)).mono ?_
      rintro e w6 ⟨rfl, b6⟩
      have t6 := t5.next b6
      go_wp2_with fail
      refine (cmp_any A B n c m d xs ys w6 (hx.below t6) hc hm (hy.below t6) hd hmd).mono ?_
      rintro e w7 ⟨rfl, k7, rfl⟩
      have t7 := t6.next (bl_drewN w6 k7)
      go_wp2_with fail
      refine (rcmp_any A B n c m d xs ys _ (hx.below t7) (hy.below t7) (by omega) (by omega)).mono ?_
      rintro e w8 ⟨rfl, rfl⟩
      go_wp2_with fail
      refine (trim_any A n c xs _ (hx.below t7) hc hm (by omega)).mono ?_
      rintro e w9 ⟨A9, n9, rfl, o9, b9⟩
      have t9 := t7.next b9
      go_wp2_with fail
      refine (rtrim_any A n c xs _ (hx.below t9) (by omega)).mono ?_
      rintro e w10 ⟨A10, n10, c10, rfl, o10, _, _, b10⟩
      have t10 := t9.next b10
      go_wp2_with fail
      refine (lsame_yes A9 A10 n9 n10 n9 c10 _ _ (o9.nums.below b10) o10 (by have := o9.2.2.1; omega)).mono ?_
      rintro e w11 ⟨rfl, b11⟩
      go_wp2_with fail
      go_ret
      exact ⟨rfl, t10.next b11⟩
  · go_enter Try.func3, Try.ntmps3
    go_wp2_with fail
    refine (adding_any w).mono ?_
    rintro e w1 ⟨rfl, b1⟩
    go_wp2_with fail
    refine (short_no A B n c m d 300 w1 (by omega) (by omega) (by omega) (by omega)).mono ?_
    rintro e w' ⟨rfl, rfl⟩
    go_wp2_with fail
    go_ret
    exact ⟨rfl, b1⟩
end Go.Proofs.Ytdcpcbdlmempnaa
