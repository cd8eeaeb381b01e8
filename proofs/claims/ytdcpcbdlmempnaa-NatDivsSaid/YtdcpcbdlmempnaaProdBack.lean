/- plumblinelaw01.NatProductsBack: the walk. -/
import Derived.Test.YtdcpcbdlmempnaaAlive2
namespace Go.Proofs.Ytdcpcbdlmempnaa
open Go.RowKit

theorem lt_pow {w : World} {A : Option Addr} {n k : Nat} {xs : List Nat} (h : Nums w A n xs) (hk : n ≤ k) : Limb.val xs < 4294967296 ^ k := Nat.lt_of_lt_of_le h.lt (Limb.pow_mono hk)
theorem len_mul {w : World} {A : Option Addr} {n a b j k : Nat} (h : Nums w A n (Limb.canon (a * b))) (ha : a < 4294967296 ^ j) (hb : b < 4294967296 ^ k) : n ≤ j + k := short_canon h (mul_lt_pow a b j k ha hb)
theorem len_add {w : World} {A : Option Addr} {n a b k : Nat} (h : Nums w A n (Limb.canon (a + b))) (ha : a < 4294967296 ^ k) (hb : b < 4294967296 ^ k) : n ≤ k + 1 := short_canon h (add_lt a b k ha hb)

set_option maxHeartbeats 8000000 in
theorem natProductsBack_walk (A : Option Addr) (n c : Nat) (xs : List Nat) (B : Option Addr) (m d : Nat) (ys : List Nat) (C : Option Addr) (q u : Nat) (zs : List Nat) (w : World) (hx : Nums w A n xs) (hc : n ≤ c) (hm : c ≤ 9223372036854775807) (hy : Nums w B m ys) (hd : m ≤ d) (hmd : d ≤ 9223372036854775807) (hz : Nums w C q zs) (hu : q ≤ u) (hmu : u ≤ 9223372036854775807) :
    Calls Try.prog 10 #[.slice A n c, .slice B m d, .slice C q u] w (YesPost w) := by
  by_cases hs : n ≤ 150 ∧ m ≤ 150
  · obtain ⟨hn3, hm3⟩ := hs
    by_cases hq3 : q ≤ 150
    · have hxl := hide (lt_pow hx hn3)
      have hyl := hide (lt_pow hy hm3)
      have hzl := hide (lt_pow hz hq3)
      go_enter Try.func10, Try.ntmps10
      go_wp2_with fail
      refine (adding_any w).mono ?_
      rintro e w1 ⟨rfl, b1⟩
      go_wp2_with fail
      refine (dividing_any w1).mono ?_
      rintro e w2 ⟨rfl, b2⟩
      have t2 := b1.next b2
      go_wp2_with fail
      refine (short_yes A B n c m d 150 w2 (by omega) (by omega) (by omega)).mono ?_
      rintro e w' ⟨rfl, rfl⟩
      go_wp2_with fail
      refine (mul_any A B n c m d xs ys w2 (hx.below t2) hc hm (hy.below t2) hd hmd (by omega)).mono ?_
      rintro e w3 ⟨A3, n3, rfl, o3, b3⟩
      have t3 := t2.next b3
      have l3 : n3 ≤ 300 := len_mul o3.nums hxl.out hyl.out
      go_wp2_with fail
      refine (mul_any B A m d n c ys xs w3 (hy.below t3) hd hmd (hx.below t3) hc hm (by omega)).mono ?_
      rintro e w4 ⟨A4, n4, rfl, o4, b4⟩
      have t4 := t3.next b4
      have l4 : n4 ≤ 300 := len_mul o4.nums hyl.out hxl.out
      go_wp2_with fail
      refine (cmp_any A3 A4 n3 n3 n4 n4 _ _ w4 (o3.nums.below b4) (by omega) (by omega) o4.nums (by omega) (by omega)).mono ?_
      rintro e w5 ⟨rfl, k5, rfl⟩
      rw [Limb.val_canon, Limb.val_canon, Nat.mul_comm (Limb.val ys), cmpN_eq']
      have t5 := t4.next (bl_drewN w4 k5)
      have p5 := b4.next (bl_drewN w4 k5)
      go_wp2_with fail
      refine (add_any A C n c q u xs zs _ (hx.below t5) hc hm (by omega) (hz.below t5) hu hmu (by omega)).mono ?_
      rintro e w6 ⟨A6, n6, rfl, o6, b6⟩
      have t6 := t5.next b6
      have l6 : n6 ≤ 151 := len_add o6.nums hxl.out hzl.out
      have hsl := hide (add_lt _ _ 150 hxl.out hzl.out)
      go_wp2_with fail
      refine (mul_any A6 B n6 n6 m d _ ys w6 o6.nums (by omega) (by omega) (hy.below t6) hd hmd (by omega)).mono ?_
      rintro e w7 ⟨A7, n7, rfl, o7, b7⟩
      rw [Limb.val_canon] at o7
      have t7 := t6.next b7
      have l7 : n7 ≤ 301 := len_mul o7.nums hsl.out hyl.out
      go_wp2_with fail
      refine (mul_any C B q u m d zs ys w7 (hz.below t7) hu hmu (hy.below t7) hd hmd (by omega)).mono ?_
      rintro e w8 ⟨A8, n8, rfl, o8, b8⟩
      have t8 := t7.next b8
      have l8 : n8 ≤ 300 := len_mul o8.nums hzl.out hyl.out
      have p8 := ((p5.next b6).next b7).next b8
      go_wp2_with fail
      refine (add_any A3 A8 n3 n3 n8 n8 _ _ w8 (o3.nums.below p8) (by omega) (by omega) (by omega) o8.nums (by omega) (by omega) (by omega)).mono ?_
      rintro e w9 ⟨A9, n9, rfl, o9, b9⟩
      rw [Limb.val_canon, Limb.val_canon, ← Nat.add_mul] at o9
      have t9 := t8.next b9
      have l9 : n9 ≤ 301 := len_mul o9.nums hsl.out hyl.out
      go_wp2_with fail
      refine (cmp_any A7 A9 n7 n7 n9 n9 _ _ w9 (o7.nums.below (b8.next b9)) (by omega) (by omega) o9.nums (by omega) (by omega)).mono ?_
      rintro e w10 ⟨rfl, k10, rfl⟩
      rw [Limb.val_canon, cmpN_eq']
      have t10 := t9.next (bl_drewN w9 k10)
      have p10 := (p8.next b9).next (bl_drewN w9 k10)
      clear b4 p5 b6 b7 b8 p8 b9
      by_cases h0 : Limb.val ys = 0
      · have h00 := hide h0
        clear h0
        go_wp2_with fail
        refine (div_no A3 B n3 n3 m d _ ys _ (o3.nums.below p10) (by omega) (by omega) (hy.below t10) hd hmd h00.out).mono ?_
        rintro e w' ⟨rfl, rfl⟩
        go_wp2_with fail
        refine (trim_any B m d ys _ (hy.below t10) hd hmd (by omega)).mono ?_
        rintro e w11 ⟨A11, n11, rfl, o11, b11⟩
        rw [h00.out] at o11
        obtain rfl : n11 = 0 := o11.len
        have hn30 : n3 = 0 := by rw [o3.len, h00.out, Nat.mul_zero]; rfl
        subst hn30
        go_wp2_with fail
        go_ret
        exact ⟨rfl, t10.next b11⟩
      · have h00 := hide h0
        clear h0
        go_wp2_with fail
        refine (div_yes A3 B n3 n3 m d _ ys _ (o3.nums.below p10) (by omega) (by omega) (by omega) (hy.below t10) hd hmd (by omega) h00.out).mono ?_
        rintro e w11 ⟨A11, n11, c11, B11, m11, d11, rfl, o11, p11, b11⟩
        rw [Limb.val_canon, Nat.mul_div_cancel _ (Nat.pos_of_ne_zero h00.out)] at o11
        rw [Limb.val_canon, Nat.mul_mod_left] at p11
        obtain rfl : m11 = 0 := p11.len
        have t11 := t10.next b11
        have l11 : n11 ≤ 150 := short_canon o11.nums hxl.out
        have cc11 := o11.2.1
        have c119 := o11.2.2.1
        go_wp2_with fail
        refine (trim_any B m d ys _ (hy.below t11) hd hmd (by omega)).mono ?_
        rintro e w12 ⟨A12, n12, rfl, o12, b12⟩
        have hn12 : ((n12 : Int) == 0) = false := by
          have : n12 ≠ 0 := fun h => h00.out ((Limb.canon_len_zero _).1 (by rw [← o12.len]; exact h))
          simp; omega
        have hn129 : n12 ≤ 150 := short_canon o12.nums hyl.out
        have t12 := t11.next b12
        go_wp2_with fail
        refine (cmp_any A11 A n11 c11 n c _ xs w12 (o11.nums.below b12) cc11 (by omega) (hx.below t12) hc hm).mono ?_
        rintro e w13 ⟨rfl, k13, rfl⟩
        rw [Limb.val_canon, cmpN_eq']
        go_wp2_with fail
        go_ret
        exact ⟨rfl, t12.next (bl_drewN _ k13)⟩
    · go_enter Try.func10, Try.ntmps10
      go_wp2_with fail
      refine (adding_any w).mono ?_
      rintro e w1 ⟨rfl, b1⟩
      go_wp2_with fail
      refine (dividing_any w1).mono ?_
      rintro e w2 ⟨rfl, b2⟩
      go_wp2_with fail
      refine (short_yes A B n c m d 150 w2 (by omega) (by omega) (by omega)).mono ?_
      rintro e w' ⟨rfl, rfl⟩
      go_wp2_with fail
      go_ret
      exact ⟨rfl, b1.next b2⟩
  · go_enter Try.func10, Try.ntmps10
    go_wp2_with fail
    refine (adding_any w).mono ?_
    rintro e w1 ⟨rfl, b1⟩
    go_wp2_with fail
    refine (dividing_any w1).mono ?_
    rintro e w2 ⟨rfl, b2⟩
    go_wp2_with fail
    refine (short_no A B n c m d 150 w2 (by omega) (by omega) (by omega) (by omega)).mono ?_
    rintro e w' ⟨rfl, rfl⟩
    go_wp2_with fail
    go_ret
    exact ⟨rfl, b1.next b2⟩
end Go.Proofs.Ytdcpcbdlmempnaa
