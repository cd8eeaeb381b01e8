/- Texts of one seat, put together: ZintE ZCount. -/
import Derived.Test.YtlihnagfmfpdcaaB22
/- zint.Small, plumblineref02.Small. -/
namespace Go.Proofs.Ytlihnagfmfpdcaa
open Go.RowKit
open Limb (limb limb_lt upto upto_succ upto_all upto_zero)

/-- The number as an int64, or none. -/
def isSmall (Z : Int) : Bool := decide (-9223372036854775808 ≤ Z ∧ Z ≤ 9223372036854775807)
def small (Z : Int) : Int := if isSmall Z then Z else 0
def SmallPost (Z : Int) (w : World) (e : Ending) (w' : World) : Prop := e = .returned (.tuple #[.int .i64 (small Z), .bool (isSmall Z)]) ∧ Below w.heap.size w w'
theorem small_yes {Z : Int} (h1 : -9223372036854775808 ≤ Z) (h2 : Z ≤ 9223372036854775807) : small Z = Z ∧ isSmall Z = true := by
  have h : isSmall Z = true := decide_eq_true ⟨h1, h2⟩
  exact ⟨by unfold small; rw [h]; rfl, h⟩
theorem small_no {Z : Int} (h : Z < -9223372036854775808 ∨ 9223372036854775807 < Z) : small Z = 0 ∧ isSmall Z = false := by
  have h : isSmall Z = false := decide_eq_false (by omega)
  exact ⟨by unfold small; rw [h]; rfl, h⟩

set_option maxHeartbeats 4000000 in
theorem small_z (v : Value) (Z : Int) (k : Nat) (w : World) (hv : ZIn w v Z k) (hk : k ≤ 1099511627776) : Calls Try.prog 79 #[v] w (SmallPost Z w) := by
  obtain ⟨s, A, n, c, xs, rfl, hx, hc, hm, hn, rfl⟩ := hv
  obtain ⟨z1, z2, -⟩ := zstart1 w #[.bool s, .slice A n c]
  have hbits := bits_any A n c xs _ (hx.below z2) hc hm (by omega)
  have htrim := trim_any A n c xs _ (hx.below z2) hc hm (by omega)
  unfold BitsPost at hbits
  have hbl := Limb.lt_bl (Limb.val xs)
  have hbg := fun h => Limb.bl_ge (Limb.val xs) h
  generalize Limb.val xs = N at *
  by_cases h64 : 64 < Limb.bl N
  · have hbig : 18446744073709551616 ≤ N := by
      obtain ⟨j, h1, h2⟩ := hbg (by rcases Nat.eq_zero_or_pos N with h | h; subst h; rw [Limb.bl_zero] at h64; omega; exact h)
      have h3 : 2 ^ 64 ≤ 2 ^ j := Nat.pow_le_pow_right (by omega) (by omega)
      omega
    have hno := hide (small_no (Z := sg s N) (by cases s <;> simp [sg] <;> omega))
    generalize Limb.bl N = q at *
    clear hbl hbg
    go_enter Try.func79, Try.ntmps79
    go_wp2_with fail
    refine hbits.mono ?_
    rintro e w' ⟨rfl, rfl⟩
    go_wp2_with fail
    go_ret2
    exact ⟨by rw [hno.out.1, hno.out.2]; rfl, z2⟩
  · have hN : N < 18446744073709551616 := by
      have h3 : 2 ^ Limb.bl N ≤ 2 ^ 64 := Nat.pow_le_pow_right (by omega) (by omega)
      omega
    generalize Limb.bl N = q at *
    clear hbl hbg
    go_enter Try.func79, Try.ntmps79
    go_wp2_with fail
    refine hbits.mono ?_
    rintro e w' ⟨rfl, rfl⟩
    clear hbits
    go_wp2_with fail
    refine htrim.mono ?_
    rintro e w1 ⟨A1, n1, rfl, o1, b1⟩
    clear htrim
    have l1 : n1 ≤ 2 := short_canon o1.nums (by omega)
    have x1 := (z1.next b1).c0
    have t1 := z2.next b1
    have hx1 := o1.nums
    have hlen := hide hx1.len
    have hval := hide (Limb.val_canon N)
    have hok := Limb.ok_canon N
    generalize Limb.canon N = zs at *
    go_wp2_with fail
    go_loop [4, 15] (fun v i => ∃ k z : Nat, k ≤ n1 ∧ i = .int .i64 (k : Int) ∧ v = .int .u64 (z : Int) ∧ Hid (z = upto zs k)) (fun _ i => n1 - (intOf i).toNat)
    case atStart => exact ⟨0, 0, Nat.zero_le _, rfl, rfl, by show _ = _; rw [upto_zero]⟩
    case round =>
      obtain ⟨k, z, hk, rfl, rfl, HZ⟩ := hrel
      by_cases hkn : k < n1
      · obtain ⟨b, o, x, rfl, hxl, hxe, hc⟩ := hx1.at_ hkn
        have HX := Lib.hid hxe
        clear hxe
        obtain rfl | rfl : k = 0 ∨ k = 1 := by omega
        · have hz0 : z = 0 := by rw [HZ.out, upto_zero]
          subst hz0
          rw [Nat.add_zero] at hc
          go_wp2_with fail
          rw [or64_zero x hxl]
          go_round
          case rel => exact ⟨1, x, by omega, rfl, rfl, by show _ = _; rw [upto_succ, upto_zero]; unfold limb; rw [← HX.out]; omega⟩
          case measure => simp [intOf]; omega
        · have hzl : z < 4294967296 := by rw [HZ.out]; exact upto_lt zs hok 1
          go_wp2_with fail
          rw [join64 z x hzl hxl]
          go_round
          case rel => exact ⟨2, z + x * 4294967296, by omega, rfl, by go_num, by show _ = _; rw [upto_succ, ← HZ.out]; unfold limb; rw [← HX.out]; omega⟩
          case measure => simp [intOf]; omega
      · have hzN := hide (show z = N by rw [HZ.out, upto_all zs k (by rw [hlen.out]; omega), hval.out])
        have hzN2 : z < 18446744073709551616 := by rw [hzN.out]; exact hN
        cases s with
        | true =>
          by_cases h1 : z ≤ 9223372036854775808
          · have hy := hide (small_yes (Z := sg true N) (by rw [← hzN.out, sg_true]; omega) (by rw [← hzN.out, sg_true]; omega))
            by_cases h2 : z ≤ 9223372036854775807
            · go_wp2_with fail
              go_ret2
              refine ⟨?_, t1⟩
              rw [hy.out.1, hy.out.2, sg_true, ← hzN.out]
              rfl
            · have h3 : ((z : Int) == 9223372036854775808) = true := by simp; omega
              go_wp2_with fail
              go_ret2
              refine ⟨?_, t1⟩
              rw [hy.out.1, hy.out.2, sg_true, ← hzN.out]
              have : z = 9223372036854775808 := by omega
              rw [this]; rfl
          · have hno := hide (small_no (Z := sg true N) (by rw [← hzN.out, sg_true]; omega))
            have h3 : ((z : Int) == 9223372036854775808) = false := by simp; omega
            go_wp2_with fail
            go_ret2
            exact ⟨by rw [hno.out.1, hno.out.2]; rfl, t1⟩
        | false =>
          by_cases h2 : z ≤ 9223372036854775807
          · have hy := hide (small_yes (Z := sg false N) (by rw [← hzN.out, sg_false]; omega) (by rw [← hzN.out, sg_false]; omega))
            go_wp2_with fail
            go_ret2
            refine ⟨?_, t1⟩
            rw [hy.out.1, hy.out.2, sg_false, ← hzN.out]
            rfl
          · have hno := hide (small_no (Z := sg false N) (by rw [← hzN.out, sg_false]; omega))
            by_cases h4 : z = 9223372036854775808
            · have h3 : ((z : Int) == 9223372036854775808) = true := by simp; omega
              clear h4
              go_wp2_with fail
              go_ret2
              exact ⟨by rw [hno.out.1, hno.out.2]; rfl, t1⟩
            · have h3 : ((z : Int) == 9223372036854775808) = false := by simp; omega
              clear h4
              go_wp2_with fail
              go_ret2
              exact ⟨by rw [hno.out.1, hno.out.2]; rfl, t1⟩

end Go.Proofs.Ytlihnagfmfpdcaa
/- plumblinelaw02.counting: the simple calls are alive. -/
namespace Go.Proofs.Ytlihnagfmfpdcaa
open Go.RowKit

theorem zin_three (w : World) : ZIn (w.alloc (.cells #[.int .u32 0, .int .u32 0, .int .u32 1] 59)) (.agg #[.bool false, .slice (some ⟨w.heap.size, 0, none⟩) 3 3]) 18446744073709551616 3 :=
  ⟨false, _, 3, 3, [0, 0, 1], rfl, Nums.new w [0, 0, 1] #[.int .u32 0, .int .u32 0, .int .u32 1] rfl (Limb.Ok.cons (by omega) (Limb.Ok.cons (by omega) (Limb.Ok.cons (by omega) Limb.Ok.nil))) 3 rfl, by omega, by omega, by omega, by simp [sg, Limb.val]⟩
theorem zin_negzero (w : World) : ZIn w (.agg #[.bool true, .slice none 0 0]) 0 0 := ⟨true, none, 0, 0, [], rfl, Nums.nil _ _, by omega, by omega, by omega, by simp [sg, Limb.val]⟩
set_option maxHeartbeats 8000000 in
theorem counting_any (w : World) : Calls Try.prog 37 #[] w (YesPost w) := by
  go_enter Try.func37, Try.ntmps37
  go_wp2_with fail
  refine (of_z (-5) w (by omega) (by omega)).mono ?_
  rintro e w1 ⟨v1, rfl, r1, b1⟩
  have T := b1
  have hs := small_z _ (-5) 2 w1 r1.in_ (by omega)
  unfold SmallPost at hs
  rw [(small_yes (Z := -5) (by omega) (by omega)).1, (small_yes (Z := -5) (by omega) (by omega)).2] at hs
  go_wp2_with fail
  refine (hs).mono ?_
  rintro e w2 ⟨rfl, b2⟩
  clear hs
  have r1 := r1.below b2
  have T := T.next b2
  have hz3 := zin_three w2
  have ba := bl_alloc w2 (.cells #[.int .u32 0, .int .u32 0, .int .u32 1] 59)
  have hs := small_z _ 18446744073709551616 3 _ hz3 (by omega)
  unfold SmallPost at hs
  rw [(small_no (Z := 18446744073709551616) (by omega)).1, (small_no (Z := 18446744073709551616) (by omega)).2] at hs
  have T := T.next ba
  go_wp2_with fail
  refine (hs).mono ?_
  rintro e w3 ⟨rfl, b3⟩
  clear hs hz3 ba
  have T := T.next b3
  go_wp2_with fail
  refine (of_z (-7) w3 (by omega) (by omega)).mono ?_
  rintro e w4 ⟨v4, rfl, r4, b4⟩
  have T := T.next b4
  go_wp2_with fail
  refine (is_yes _ (-7) 2 w4 r4 (by omega) (by omega) (by omega)).mono ?_
  rintro e w5 ⟨rfl, b5⟩
  have r4 := r4.below b5
  have T := T.next b5
  go_wp2_with fail
  refine (of_z (3) w5 (by omega) (by omega)).mono ?_
  rintro e w6 ⟨v6, rfl, r6, b6⟩
  have T := T.next b6
  go_wp2_with fail
  refine (neg_z _ 3 2 w6 r6.in_ (by omega)).mono ?_
  rintro e w7 ⟨v7, rfl, r7, b7⟩
  have r6 := r6.below b7
  have T := T.next b7
  go_wp2_with fail
  refine (is_yes _ (-3) 2 w7 r7 (by omega) (by omega) (by omega)).mono ?_
  rintro e w8 ⟨rfl, b8⟩
  have r7 := r7.below b8
  have T := T.next b8
  go_wp2_with fail
  refine (of_z (-3) w8 (by omega) (by omega)).mono ?_
  rintro e w9 ⟨v9, rfl, r9, b9⟩
  have T := T.next b9
  go_wp2_with fail
  refine (abs_z _ (-3) 2 w9 r9.in_ (by omega)).mono ?_
  rintro e w10 ⟨v10, rfl, r10, b10⟩
  replace r10 := r10.ofEq (show _ = 3 by rfl)
  have r9 := r9.below b10
  have T := T.next b10
  go_wp2_with fail
  refine (is_yes _ (3) 2 w10 r10 (by omega) (by omega) (by omega)).mono ?_
  rintro e w11 ⟨rfl, b11⟩
  have r10 := r10.below b11
  have T := T.next b11
  go_wp2_with fail
  refine (of_z (-9) w11 (by omega) (by omega)).mono ?_
  rintro e w12 ⟨v12, rfl, r12, b12⟩
  have T := T.next b12
  have hs := sign_z _ (-9) 2 w12 r12.in_ (by omega)
  unfold SignPost at hs
  rw [show Int.sign (-9) = -1 from rfl] at hs
  go_wp2_with fail
  refine (hs).mono ?_
  rintro e w13 ⟨rfl, b13⟩
  clear hs
  have r12 := r12.below b13
  have T := T.next b13
  have hs := sign_z _ 0 0 w13 (zin_negzero w13) (by omega)
  unfold SignPost at hs
  rw [show Int.sign 0 = 0 from rfl] at hs
  go_wp2_with fail
  refine (hs).mono ?_
  rintro e w14 ⟨rfl, b14⟩
  clear hs
  have T := T.next b14
  go_wp2_with fail
  refine (of_z (-2) w14 (by omega) (by omega)).mono ?_
  rintro e w15 ⟨v15, rfl, r15, b15⟩
  have T := T.next b15
  go_wp2_with fail
  refine (of_z (1) w15 (by omega) (by omega)).mono ?_
  rintro e w16 ⟨v16, rfl, r16, b16⟩
  have r15 := r15.below b16
  have T := T.next b16
  have hs := cmp_z _ _ (-2) 1 2 w16 r15.in_ r16.in_ (by omega)
  unfold CmpZPost at hs
  rw [sgn3_lt (show (-2 : Int) < 1 by omega)] at hs
  go_wp2_with fail
  refine (hs).mono ?_
  rintro e w17 ⟨rfl, b17⟩
  clear hs
  have r15 := r15.below b17
  have r16 := r16.below b17
  have T := T.next b17
  go_wp2_with fail
  refine (of_z (2) w17 (by omega) (by omega)).mono ?_
  rintro e w18 ⟨v18, rfl, r18, b18⟩
  have T := T.next b18
  go_wp2_with fail
  refine (of_z (-5) w18 (by omega) (by omega)).mono ?_
  rintro e w19 ⟨v19, rfl, r19, b19⟩
  have r18 := r18.below b19
  have T := T.next b19
  go_wp2_with fail
  refine (add_z _ _ (2) (-5) 2 w19 r18.in_ r19.in_ (by omega)).mono ?_
  rintro e w20 ⟨v20, rfl, r20, b20⟩
  replace r20 := r20.ofEq (show _ = -3 by omega)
  have r18 := r18.below b20
  have r19 := r19.below b20
  have T := T.next b20
  go_wp2_with fail
  refine (is_yes _ (-3) 3 w20 r20 (by omega) (by omega) (by omega)).mono ?_
  rintro e w21 ⟨rfl, b21⟩
  have r20 := r20.below b21
  have T := T.next b21
  go_wp2_with fail
  refine (of_z (2) w21 (by omega) (by omega)).mono ?_
  rintro e w22 ⟨v22, rfl, r22, b22⟩
  have T := T.next b22
  go_wp2_with fail
  refine (of_z (5) w22 (by omega) (by omega)).mono ?_
  rintro e w23 ⟨v23, rfl, r23, b23⟩
  have r22 := r22.below b23
  have T := T.next b23
  go_wp2_with fail
  refine (sub_z _ _ (2) (5) 2 w23 r22.in_ r23.in_ (by omega)).mono ?_
  rintro e w24 ⟨v24, rfl, r24, b24⟩
  replace r24 := r24.ofEq (show _ = -3 by omega)
  have r22 := r22.below b24
  have r23 := r23.below b24
  have T := T.next b24
  go_wp2_with fail
  refine (is_yes _ (-3) 3 w24 r24 (by omega) (by omega) (by omega)).mono ?_
  rintro e w25 ⟨rfl, b25⟩
  have r24 := r24.below b25
  have T := T.next b25
  go_wp2_with fail
  refine (of_z (-2) w25 (by omega) (by omega)).mono ?_
  rintro e w26 ⟨v26, rfl, r26, b26⟩
  have T := T.next b26
  go_wp2_with fail
  refine (of_z (5) w26 (by omega) (by omega)).mono ?_
  rintro e w27 ⟨v27, rfl, r27, b27⟩
  have r26 := r26.below b27
  have T := T.next b27
  go_wp2_with fail
  refine (mul_z _ _ (-2) (5) 2 2 w27 r26.in_ r27.in_ (by omega) (by omega)).mono ?_
  rintro e w28 ⟨v28, rfl, r28, b28⟩
  replace r28 := r28.ofEq (show _ = -10 by omega)
  have r26 := r26.below b28
  have r27 := r27.below b28
  have T := T.next b28
  go_wp2_with fail
  refine (is_yes _ (-10) 4 w28 r28 (by omega) (by omega) (by omega)).mono ?_
  rintro e w29 ⟨rfl, b29⟩
  have r28 := r28.below b29
  have T := T.next b29
  go_wp2_with fail
  refine (of_z (1) w29 (by omega) (by omega)).mono ?_
  rintro e w30 ⟨v30, rfl, r30, b30⟩
  have T := T.next b30
  go_wp2_with fail
  refine (of_z (2) w30 (by omega) (by omega)).mono ?_
  rintro e w31 ⟨v31, rfl, r31, b31⟩
  have r30 := r30.below b31
  have T := T.next b31
  go_wp2_with fail
  refine (min_z _ _ (1) (2) 2 w31 r30.in_ r31.in_ (by omega)).mono ?_
  rintro e w32 ⟨v32, rfl, r32, b32⟩
  replace r32 := r32.ofEq (show _ = 1 by decide)
  have r30 := r30.below b32
  have r31 := r31.below b32
  have T := T.next b32
  go_wp2_with fail
  refine (is_yes _ (1) 2 w32 r32 (by omega) (by omega) (by omega)).mono ?_
  rintro e w33 ⟨rfl, b33⟩
  have r32 := r32.below b33
  have T := T.next b33
  go_wp2_with fail
  refine (of_z (1) w33 (by omega) (by omega)).mono ?_
  rintro e w34 ⟨v34, rfl, r34, b34⟩
  have T := T.next b34
  go_wp2_with fail
  refine (of_z (2) w34 (by omega) (by omega)).mono ?_
  rintro e w35 ⟨v35, rfl, r35, b35⟩
  have r34 := r34.below b35
  have T := T.next b35
  go_wp2_with fail
  refine (max_z _ _ (1) (2) 2 w35 r34.in_ r35.in_ (by omega)).mono ?_
  rintro e w36 ⟨v36, rfl, r36, b36⟩
  replace r36 := r36.ofEq (show _ = 2 by decide)
  have r34 := r34.below b36
  have r35 := r35.below b36
  have T := T.next b36
  go_wp2_with fail
  refine (is_yes _ (2) 2 w36 r36 (by omega) (by omega) (by omega)).mono ?_
  rintro e w37 ⟨rfl, b37⟩
  have r36 := r36.below b37
  have T := T.next b37
  have h4 := lit1 w37 4 4 #[.int .u32 4] rfl (by omega) (by omega) rfl
  have ba := bl_alloc w37 (.cells #[.int .u32 4] 59)
  have T := T.next ba
  go_wp2_with fail
  refine (from_any true _ 1 1 1 _ _ h4 (by omega) (by omega) (by omega) (by omega)).mono ?_
  rintro e w38 ⟨v38, rfl, r38, b38⟩
  replace r38 := r38.ofEq (show _ = -4 by (rw [Limb.val_canon]; rfl))
  have T := T.next b38
  go_wp2_with fail
  refine (is_yes _ (-4) 1 w38 r38 (by omega) (by omega) (by omega)).mono ?_
  rintro e w39 ⟨rfl, b39⟩
  have r38 := r38.below b39
  have T := T.next b39
  go_wp2_with fail
  go_ret
  exact ⟨rfl, T⟩
end Go.Proofs.Ytlihnagfmfpdcaa
