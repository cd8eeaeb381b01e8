/- plumblinelaw01.NatDivs: the walk. -/
import Derived.Test.YtpocaopiaggbmaaRefGcd
import Derived.Test.YtpocaopiaggbmaaAlive2
namespace Go.Proofs.Ytpocaopiaggbmaa
open Go.RowKit

set_option maxHeartbeats 4000000 in
theorem natDivs_walk (A : Option Addr) (n c : Nat) (xs : List Nat) (B : Option Addr) (m d : Nat) (ys : List Nat) (w : World) (hx : Nums w A n xs) (hc : n ≤ c) (hm : c ≤ 9223372036854775807) (hy : Nums w B m ys) (hd : m ≤ d) (hmd : d ≤ 9223372036854775807) :
    Calls Try.prog 3 #[.slice A n c, .slice B m d] w (YesPost w) := by
  by_cases hs : n ≤ 20 ∧ m ≤ 20
  · obtain ⟨hn3, hm3⟩ := hs
    by_cases h0 : Limb.val ys = 0
    · have h00 := hide h0
      clear h0
      go_enter Try.func3, Try.ntmps3
      go_wp2_with fail
      refine (dividing_any w).mono ?_
      rintro e w1 ⟨rfl, b1⟩
      go_wp2_with fail
      refine (short_yes A B n c m d 20 w1 (by omega) (by omega) (by omega)).mono ?_
      rintro e w' ⟨rfl, rfl⟩
      go_wp2_with fail
      refine (div_no A B n c m d _ ys w1 (hx.below b1) hc hm (hy.below b1) hd hmd h00.out).mono ?_
      rintro e w' ⟨rfl, rfl⟩
      go_wp2_with fail
      refine (rdiv_no A B n c m d ys w1 (hy.below b1) (by omega) h00.out).mono ?_
      rintro e w2 ⟨rfl, b2⟩
      have t2 := b1.next b2
      go_wp2_with fail
      refine (rtrim_any none 0 0 [] w2 (Nums.nil _ _) (by omega)).mono ?_
      rintro e w3 ⟨A3, n3, c3, rfl, o3, l3, m3, b3⟩
      have t3 := t2.next b3
      go_wp2_with fail
      refine (lsame_yes none A3 0 n3 0 c3 0 w3 (Nums.nil _ _) o3 (by omega)).mono ?_
      rintro e w4 ⟨rfl, b4⟩
      have t4 := t3.next b4
      go_wp2_with fail
      refine (rtrim_any none 0 0 [] w4 (Nums.nil _ _) (by omega)).mono ?_
      rintro e w5 ⟨A5, n5, c5, rfl, o5, l5, m5, b5⟩
      have t5 := t4.next b5
      go_wp2_with fail
      refine (lsame_yes none A5 0 n5 0 c5 0 w5 (Nums.nil _ _) o5 (by omega)).mono ?_
      rintro e w6 ⟨rfl, b6⟩
      have t6 := t5.next b6
      go_wp2_with fail
      refine (gcd_any A B n c m d xs ys w6 (hx.below t6) hc hm (by omega) (hy.below t6) hd hmd (by omega)).mono ?_
      rintro e w7 ⟨A7, n7, rfl, o7, b7⟩
      have t7 := (t6).next b7
      go_wp2_with fail
      refine (rgcd_any A B n c m d xs ys w7 (hx.below t7) (by omega) (hy.below t7) (by omega)).mono ?_
      rintro e w8 ⟨A8, n8, c8, rfl, o8, l8, m8, b8⟩
      have t8 := t7.next b8
      go_wp2_with fail
      refine (lsame_yes A7 A8 n7 n8 n7 c8 _ w8 (o7.nums.below b8) o8 (by have := o7.2.2.1; omega)).mono ?_
      rintro e w9 ⟨rfl, b9⟩
      go_wp2_with fail
      go_ret
      exact ⟨rfl, t8.next b9⟩
    · have h00 := hide h0
      clear h0
      go_enter Try.func3, Try.ntmps3
      go_wp2_with fail
      refine (dividing_any w).mono ?_
      rintro e w1 ⟨rfl, b1⟩
      go_wp2_with fail
      refine (short_yes A B n c m d 20 w1 (by omega) (by omega) (by omega)).mono ?_
      rintro e w' ⟨rfl, rfl⟩
      go_wp2_with fail
      refine (div_yes A B n c m d xs ys w1 (hx.below b1) hc hm (by omega) (hy.below b1) hd hmd (by omega) h00.out).mono ?_
      rintro e wa ⟨Aa, na, ca, Ba, ma, da, rfl, oa, pa, ba⟩
      have ta := b1.next ba
      have sa := oa.2.2.1
      have sb := pa.2.2.1
      have sa1 := oa.2.1
      have sb1 := pa.2.1
      go_wp2_with fail
      refine (rdiv_yes A B n c m d xs ys wa (hx.below ta) (by omega) (hy.below ta) (by omega) h00.out).mono ?_
      rintro e w2 ⟨Ab, nb, cb, Bb, mb, db, rfl, ob, lb, lb9, pb, mb1, mb9, b2⟩
      have t2 := ta.next b2
      have lnb : nb ≤ 20 := short_canon ob (Nat.lt_of_le_of_lt (Nat.div_le_self _ _) (lt_pow hx hn3))
      have lmb : mb ≤ 20 := short_canon pb (Nat.lt_trans (Nat.mod_lt _ (Nat.pos_of_ne_zero h00.out)) (lt_pow hy hm3))
      go_wp2_with fail
      refine (rtrim_any Ab nb cb _ w2 ob (by omega)).mono ?_
      rintro e w3 ⟨A3, n3, c3, rfl, o3, l3, m3, b3⟩
      rw [Limb.val_canon] at o3
      have t3 := t2.next b3
      go_wp2_with fail
      refine (lsame_yes Aa A3 na n3 ca c3 _ w3 (oa.nums.below (b2.next b3)) o3 (by omega)).mono ?_
      rintro e w4 ⟨rfl, b4⟩
      have t4 := t3.next b4
      go_wp2_with fail
      refine (rtrim_any Bb mb db _ w4 (pb.below (b3.next b4)) (by omega)).mono ?_
      rintro e w5 ⟨A5, n5, c5, rfl, o5, l5, m5, b5⟩
      rw [Limb.val_canon] at o5
      have t5 := t4.next b5
      go_wp2_with fail
      refine (lsame_yes Ba A5 ma n5 da c5 _ w5 (pa.nums.below (((b2.next b3).next b4).next b5)) o5 (by omega)).mono ?_
      rintro e w6 ⟨rfl, b6⟩
      have t6 := t5.next b6
      clear oa pa ob pb o3 o5 b2 b3 b4 b5 b6
      go_wp2_with fail
      refine (gcd_any A B n c m d xs ys w6 (hx.below t6) hc hm (by omega) (hy.below t6) hd hmd (by omega)).mono ?_
      rintro e w7 ⟨A7, n7, rfl, o7, b7⟩
      have t7 := (t6).next b7
      go_wp2_with fail
      refine (rgcd_any A B n c m d xs ys w7 (hx.below t7) (by omega) (hy.below t7) (by omega)).mono ?_
      rintro e w8 ⟨A8, n8, c8, rfl, o8, l8, m8, b8⟩
      have t8 := t7.next b8
      go_wp2_with fail
      refine (lsame_yes A7 A8 n7 n8 n7 c8 _ w8 (o7.nums.below b8) o8 (by have := o7.2.2.1; omega)).mono ?_
      rintro e w9 ⟨rfl, b9⟩
      go_wp2_with fail
      go_ret
      exact ⟨rfl, t8.next b9⟩
  · go_enter Try.func3, Try.ntmps3
    go_wp2_with fail
    refine (dividing_any w).mono ?_
    rintro e w1 ⟨rfl, b1⟩
    go_wp2_with fail
    refine (short_no A B n c m d 20 w1 (by omega) (by omega) (by omega) (by omega)).mono ?_
    rintro e w' ⟨rfl, rfl⟩
    go_wp2_with fail
    go_ret
    exact ⟨rfl, b1⟩
end Go.Proofs.Ytpocaopiaggbmaa
