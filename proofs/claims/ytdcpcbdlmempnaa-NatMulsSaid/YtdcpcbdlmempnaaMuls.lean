/- plumblinelaw01.NatMuls, NatDivides, NatProductsBack: the walks. -/
import Derived.Test.YtdcpcbdlmempnaaAlive2
import Derived.Test.YtdcpcbdlmempnaaRefM
namespace Go.Proofs.Ytdcpcbdlmempnaa
open Go.RowKit

set_option maxHeartbeats 4000000 in
theorem natMuls_walk (A : Option Addr) (n c : Nat) (xs : List Nat) (B : Option Addr) (m d : Nat) (ys : List Nat) (w : World) (hx : Nums w A n xs) (hc : n ≤ c) (hm : c ≤ 9223372036854775807) (hy : Nums w B m ys) (hd : m ≤ d) (hmd : d ≤ 9223372036854775807) :
    Calls Try.prog 4 #[.slice A n c, .slice B m d] w (YesPost w) := by
  by_cases hs : n ≤ 120 ∧ m ≤ 120
  · obtain ⟨hn3, hm3⟩ := hs
    go_enter Try.func4, Try.ntmps4
    go_wp2_with fail
    refine (dividing_any w).mono ?_
    rintro e w1 ⟨rfl, b1⟩
    go_wp2_with fail
    refine (short_yes A B n c m d 120 w1 (by omega) (by omega) (by omega)).mono ?_
    rintro e w' ⟨rfl, rfl⟩
    go_wp2_with fail
    refine (mul_any A B n c m d xs ys w1 (hx.below b1) hc hm (hy.below b1) hd hmd (by omega)).mono ?_
    rintro e w2 ⟨A2, n2, rfl, o2, b2⟩
    have t2 := b1.next b2
    go_wp2_with fail
    refine (rmul_any A B n c m d xs ys w2 (hx.below t2) (hy.below t2) (by omega) (by omega)).mono ?_
    rintro e w3 ⟨A3, n3, c3, rfl, o3, _, _, b3⟩
    go_wp2_with fail
    refine (lsame_yes A2 A3 n2 n3 n2 c3 _ w3 (o2.nums.below b3) o3 (by have := o2.2.2.1; omega)).mono ?_
    rintro e w4 ⟨rfl, b4⟩
    go_wp2_with fail
    go_ret
    exact ⟨rfl, (t2.next b3).next b4⟩
  · go_enter Try.func4, Try.ntmps4
    go_wp2_with fail
    refine (dividing_any w).mono ?_
    rintro e w1 ⟨rfl, b1⟩
    go_wp2_with fail
    refine (short_no A B n c m d 120 w1 (by omega) (by omega) (by omega) (by omega)).mono ?_
    rintro e w' ⟨rfl, rfl⟩
    go_wp2_with fail
    go_ret
    exact ⟨rfl, b1⟩

set_option maxHeartbeats 4000000 in
theorem natDivides_walk (A : Option Addr) (n c : Nat) (xs : List Nat) (B : Option Addr) (m d : Nat) (ys : List Nat) (w : World) (hx : Nums w A n xs) (hc : n ≤ c) (hm : c ≤ 9223372036854775807) (hy : Nums w B m ys) (hd : m ≤ d) (hmd : d ≤ 9223372036854775807) :
    Calls Try.prog 11 #[.slice A n c, .slice B m d] w (YesPost w) := by
  by_cases hs : n ≤ 150 ∧ m ≤ 150
  · obtain ⟨hn3, hm3⟩ := hs
    by_cases h0 : Limb.val ys = 0
    · have h00 := hide h0
      go_enter Try.func11, Try.ntmps11
      clear h0
      go_wp2_with fail
      refine (adding_any w).mono ?_
      rintro e w1 ⟨rfl, b1⟩
      go_wp2_with fail
      refine (dividing_any w1).mono ?_
      rintro e w2 ⟨rfl, b2⟩
      have t2 := b1.next b2
      go_wp2_with fail
      refine (short_yes A B n c m d 150 w2 (by omega) (by omega) (by omega)).mono ?_
      rintro e w' ⟨rfl, rfl⟩
      go_wp2_with fail
      refine (div_no A B n c m d xs ys w2 (hx.below t2) hc hm (hy.below t2) hd hmd h00.out).mono ?_
      rintro e w' ⟨rfl, rfl⟩
      go_wp2_with fail
      refine (trim_any B m d ys w2 (hy.below t2) hd hmd (by omega)).mono ?_
      rintro e w3 ⟨A3, n3, rfl, o3, b3⟩
      rw [h00.out] at o3
      obtain rfl : n3 = 0 := o3.len
      go_wp2_with fail
      go_ret
      exact ⟨rfl, t2.next b3⟩
    · have h00 := hide h0
      go_enter Try.func11, Try.ntmps11
      clear h0
      go_wp2_with fail
      refine (adding_any w).mono ?_
      rintro e w1 ⟨rfl, b1⟩
      go_wp2_with fail
      refine (dividing_any w1).mono ?_
      rintro e w2 ⟨rfl, b2⟩
      have t2 := b1.next b2
      go_wp2_with fail
      refine (short_yes A B n c m d 150 w2 (by omega) (by omega) (by omega)).mono ?_
      rintro e w' ⟨rfl, rfl⟩
      go_wp2_with fail
      refine (div_yes A B n c m d xs ys w2 (hx.below t2) hc hm (by omega) (hy.below t2) hd hmd (by omega) h00.out).mono ?_
      rintro e w3 ⟨A3, n3, c3, B3, m3, d3, rfl, o3, p3, b3⟩
      have t3 := t2.next b3
      have l3 : n3 ≤ 150 := short_canon o3.nums (Nat.lt_of_le_of_lt (Nat.div_le_self _ _) (Nat.lt_of_lt_of_le hx.lt (Limb.pow_mono hn3)))
      have k3 : m3 ≤ 150 := short_canon p3.nums (Nat.lt_trans (Nat.mod_lt _ (Nat.pos_of_ne_zero h00.out)) (Nat.lt_of_lt_of_le hy.lt (Limb.pow_mono hm3)))
      have c39 := o3.2.2.1
      have d39 := p3.2.2.1
      have cc3 := o3.2.1
      have dd3 := p3.2.1
      go_wp2_with fail
      refine (trim_any B m d ys w3 (hy.below t3) hd hmd (by omega)).mono ?_
      rintro e w4 ⟨A4, n4, rfl, o4, b4⟩
      have t4 := t3.next b4
      have hn4 : ((n4 : Int) == 0) = false := by
        have : n4 ≠ 0 := fun h => h00.out ((Limb.canon_len_zero _).1 (by rw [← o4.len]; exact h))
        simp; omega
      have hn9 : n4 ≤ 150 := short_canon o4.nums (Nat.lt_of_lt_of_le hy.lt (Limb.pow_mono hm3))
      go_wp2_with fail
      refine (cmp_any B3 B m3 d3 m d _ ys w4 (p3.nums.below b4) dd3 (by omega) (hy.below t4) hd hmd).mono ?_
      rintro e w5 ⟨rfl, k5, rfl⟩
      rw [Limb.val_canon, cmpN_lt' (Nat.mod_lt _ (Nat.pos_of_ne_zero h00.out))]
      have t5 := t4.next (bl_drewN w4 k5)
      have b45 := b4.next (bl_drewN w4 k5)
      go_wp2_with fail
      refine (mul_any A3 B n3 c3 m d _ ys _ (o3.nums.below b45) cc3 (by omega) (hy.below t5) hd hmd (by omega)).mono ?_
      rintro e w6 ⟨A6, n6, rfl, o6, b6⟩
      rw [Limb.val_canon] at o6
      have t6 := t5.next b6
      have l6 : n6 ≤ 150 := short_canon o6.nums (Nat.lt_of_le_of_lt (Nat.div_mul_le_self _ _) (Nat.lt_of_lt_of_le hx.lt (Limb.pow_mono (by omega))))
      go_wp2_with fail
      refine (add_any A6 B3 n6 n6 m3 d3 _ _ w6 o6.nums (by omega) (by omega) (by omega) (p3.nums.below (b45.next b6)) dd3 (by omega) (by omega)).mono ?_
      rintro e w7 ⟨A7, n7, rfl, o7, b7⟩
      rw [Limb.val_canon, Limb.val_canon, Nat.div_add_mod'] at o7
      have t7 := t6.next b7
      have l7 : n7 ≤ 150 := short_canon o7.nums (Nat.lt_of_lt_of_le hx.lt (Limb.pow_mono (by omega)))
      go_wp2_with fail
      refine (cmp_any A7 A n7 n7 n c _ xs w7 o7.nums (by omega) (by omega) (hx.below t7) hc hm).mono ?_
      rintro e w8 ⟨rfl, k8, rfl⟩
      rw [Limb.val_canon, cmpN_eq']
      go_wp2_with fail
      go_ret
      exact ⟨rfl, t7.next (bl_drewN _ k8)⟩
  · go_enter Try.func11, Try.ntmps11
    go_wp2_with fail
    refine (adding_any w).mono ?_
    rintro e w1 ⟨rfl, b1⟩
    go_wp2_with fail
    refine (dividing_any w1).mono ?_
    rintro e w2 ⟨rfl, b2⟩
    go_wp2_with fail
    refine (short_no A B n c m d 150 w2 (by omega) (by omega) (by omega) (by omega)).mono ?_
    rintro e w' ⟨rfl, rfl⟩
    go_wp2_with fail
    go_ret
    exact ⟨rfl, b1.next b2⟩
end Go.Proofs.Ytdcpcbdlmempnaa
