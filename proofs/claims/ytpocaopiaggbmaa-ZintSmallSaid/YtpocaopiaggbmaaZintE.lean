/- zint.Small, plumblineref02.Small. -/
import Derived.Test.YtpocaopiaggbmaaZintD
namespace Go.Proofs.Ytpocaopiaggbmaa
open Go.RowKit
open Limb (limb limb_lt upto upto_succ upto_all upto_zero)

/-- The number as an int64, or none. -/
def isSmall (Z : Int) : Bool := decide (-9223372036854775808 ≤ Z ∧ Z ≤ 9223372036854775807)
def small (Z : Int) : Int := if isSmall Z then Z else 0
def SmallPost (Z : Int) (w : World) (e : Ending) (w' : World) : Prop := e = .returned (.tuple #[.int .i64 (small Z), .bool (isSmall Z)]) ∧ Below w.heap.size w w'
theorem small_yes {Z : Int} (h1 : -9223372036854775808 ≤ Z) (h2 : Z ≤ 9223372036854775807) : small Z = Z ∧ isSmall Z = true := by
  have h : isSmall Z = true := decide_eq_true ⟨h1, h2⟩
  exact ⟨by unfold small; rw [h]; rfl, h⟩
theorem small_no {Z : Int} (h : Z < -9223372036854775808 ∨ 9223372036854775807 < Z) : small Z = 0 ∧ isSmall Z = false := by
  have h : isSmall Z = false := decide_eq_false (by omega)
  exact ⟨by unfold small; rw [h]; rfl, h⟩

set_option maxHeartbeats 4000000 in
theorem small_z (v : Value) (Z : Int) (k : Nat) (w : World) (hv : ZIn w v Z k) (hk : k ≤ 1099511627776) : Calls Try.prog 51 #[v] w (SmallPost Z w) := by
  obtain ⟨s, A, n, c, xs, rfl, hx, hc, hm, hn, rfl⟩ := hv
  obtain ⟨z1, z2, -⟩ := zstart1 w #[.bool s, .slice A n c]
  have hbits := bits_any A n c xs _ (hx.below z2) hc hm (by omega)
  have htrim := trim_any A n c xs _ (hx.below z2) hc hm (by omega)
  unfold BitsPost at hbits
  have hbl := Limb.lt_bl (Limb.val xs)
  have hbg := fun h => Limb.bl_ge (Limb.val xs) h
  generalize Limb.val xs = N at *
  by_cases h64 : 64 < Limb.bl N
  · have hbig : 18446744073709551616 ≤ N := by
      obtain ⟨j, h1, h2⟩ := hbg (by rcases Nat.eq_zero_or_pos N with h | h; subst h; rw [Limb.bl_zero] at h64; omega; exact h)
      have h3 : 2 ^ 64 ≤ 2 ^ j := Nat.pow_le_pow_right (by omega) (by omega)
      omega
    have hno := hide (small_no (Z := sg s N) (by cases s <;> simp [sg] <;> omega))
    generalize Limb.bl N = q at *
    clear hbl hbg
    go_enter Try.func51, Try.ntmps51
    go_wp2_with fail
    refine hbits.mono ?_
    rintro e w' ⟨rfl, rfl⟩
    go_wp2_with fail
    go_ret2
    exact ⟨by rw [hno.out.1, hno.out.2]; rfl, z2⟩
  · have hN : N < 18446744073709551616 := by
      have h3 : 2 ^ Limb.bl N ≤ 2 ^ 64 := Nat.pow_le_pow_right (by omega) (by omega)
      omega
    generalize Limb.bl N = q at *
    clear hbl hbg
    go_enter Try.func51, Try.ntmps51
    go_wp2_with fail
    refine hbits.mono ?_
    rintro e w' ⟨rfl, rfl⟩
    clear hbits
    go_wp2_with fail
    refine htrim.mono ?_
    rintro e w1 ⟨A1, n1, rfl, o1, b1⟩
    clear htrim
    have l1 : n1 ≤ 2 := short_canon o1.nums (by omega)
    have x1 := (z1.next b1).c0
    have t1 := z2.next b1
    have hx1 := o1.nums
    have hlen := hide hx1.len
    have hval := hide (Limb.val_canon N)
    have hok := Limb.ok_canon N
    generalize Limb.canon N = zs at *
    go_wp2_with fail
    go_loop [4, 15] (fun v i => ∃ k z : Nat, k ≤ n1 ∧ i = .int .i64 (k : Int) ∧ v = .int .u64 (z : Int) ∧ Hid (z = upto zs k)) (fun _ i => n1 - (intOf i).toNat)
    case atStart => exact ⟨0, 0, Nat.zero_le _, rfl, rfl, by show _ = _; rw [upto_zero]⟩
    case round =>
      obtain ⟨k, z, hk, rfl, rfl, HZ⟩ := hrel
      by_cases hkn : k < n1
      · obtain ⟨b, o, x, rfl, hxl, hxe, hc⟩ := hx1.at_ hkn
        have HX := Lib.hid hxe
        clear hxe
        obtain rfl | rfl : k = 0 ∨ k = 1 := by omega
        · have hz0 : z = 0 := by rw [HZ.out, upto_zero]
          subst hz0
          rw [Nat.add_zero] at hc
          go_wp2_with fail
          rw [or64_zero x hxl]
          go_round
          case rel => exact ⟨1, x, by omega, rfl, rfl, by show _ = _; rw [upto_succ, upto_zero]; unfold limb; rw [← HX.out]; omega⟩
          case measure => simp [intOf]; omega
        · have hzl : z < 4294967296 := by rw [HZ.out]; exact upto_lt zs hok 1
          go_wp2_with fail
          rw [join64 z x hzl hxl]
          go_round
          case rel => exact ⟨2, z + x * 4294967296, by omega, rfl, by go_num, by show _ = _; rw [upto_succ, ← HZ.out]; unfold limb; rw [← HX.out]; omega⟩
          case measure => simp [intOf]; omega
      · have hzN := hide (show z = N by rw [HZ.out, upto_all zs k (by rw [hlen.out]; omega), hval.out])
        have hzN2 : z < 18446744073709551616 := by rw [hzN.out]; exact hN
        cases s with
        | true =>
          by_cases h1 : z ≤ 9223372036854775808
          · have hy := hide (small_yes (Z := sg true N) (by rw [← hzN.out, sg_true]; omega) (by rw [← hzN.out, sg_true]; omega))
            by_cases h2 : z ≤ 9223372036854775807
            · go_wp2_with fail
              go_ret2
              refine ⟨?_, t1⟩
              rw [hy.out.1, hy.out.2, sg_true, ← hzN.out]
              rfl
            · have h3 : ((z : Int) == 9223372036854775808) = true := by simp; omega
              go_wp2_with fail
              go_ret2
              refine ⟨?_, t1⟩
              rw [hy.out.1, hy.out.2, sg_true, ← hzN.out]
              have : z = 9223372036854775808 := by omega
              rw [this]; rfl
          · have hno := hide (small_no (Z := sg true N) (by rw [← hzN.out, sg_true]; omega))
            have h3 : ((z : Int) == 9223372036854775808) = false := by simp; omega
            go_wp2_with fail
            go_ret2
            exact ⟨by rw [hno.out.1, hno.out.2]; rfl, t1⟩
        | false =>
          by_cases h2 : z ≤ 9223372036854775807
          · have hy := hide (small_yes (Z := sg false N) (by rw [← hzN.out, sg_false]; omega) (by rw [← hzN.out, sg_false]; omega))
            go_wp2_with fail
            go_ret2
            refine ⟨?_, t1⟩
            rw [hy.out.1, hy.out.2, sg_false, ← hzN.out]
            rfl
          · have hno := hide (small_no (Z := sg false N) (by rw [← hzN.out, sg_false]; omega))
            by_cases h4 : z = 9223372036854775808
            · have h3 : ((z : Int) == 9223372036854775808) = true := by simp; omega
              clear h4
              go_wp2_with fail
              go_ret2
              exact ⟨by rw [hno.out.1, hno.out.2]; rfl, t1⟩
            · have h3 : ((z : Int) == 9223372036854775808) = false := by simp; omega
              clear h4
              go_wp2_with fail
              go_ret2
              exact ⟨by rw [hno.out.1, hno.out.2]; rfl, t1⟩

theorem val_drop_one' (xs : List Nat) (j : Nat) (h : j < xs.length) : Limb.val (xs.drop j) = limb xs j + 4294967296 * Limb.val (xs.drop (j + 1)) := val_drop_one xs j h
theorem val_drop_le (xs : List Nat) (j : Nat) : Limb.val (xs.drop j) ≤ Limb.val xs := by
  rcases Nat.lt_or_ge xs.length j with h | h
  · rw [List.drop_of_length_le (by omega)]; simp [Limb.val]
  · have h1 := Limb.val_take_drop xs j h
    have h2 : 1 ≤ 4294967296 ^ j := Nat.pow_pos (by omega)
    have h3 := Nat.mul_le_mul_right (Limb.val (xs.drop j)) h2
    omega
set_option maxHeartbeats 4000000 in
theorem rsmall_z (v : Value) (Z : Int) (k : Nat) (w : World) (hv : ZIn w v Z k) (hk : k ≤ 1099511627776) : Calls Try.prog 52 #[v] w (SmallPost Z w) := by
  have hv0 := hv
  obtain ⟨s, A, n, c, xs, rfl, hx, hc, hm, hn, hZ⟩ := hv
  obtain ⟨z1, z2, -⟩ := zstart1 w #[.bool s, .slice A n c]
  have htrim := rtrim_any A n c xs _ (hx.below z2) (by omega)
  have HN := hide (ZIn.abs hZ)
  rw [HN.out] at htrim
  clear hZ
  go_enter Try.func52, Try.ntmps52
  go_wp2_with fail
  refine htrim.mono ?_
  rintro e w1 ⟨A1, n1, c1, rfl, o1, l1, m1, b1⟩
  clear htrim
  have x1 := z1.next b1
  have x1a := x1.c0
  have x1b := x1.c1
  have t1 := z2.next b1
  by_cases h2 : n1 ≤ 2
  · have hy1 := nums_two w1 4294967295 2147483647 #[.int .u32 4294967295, .int .u32 2147483647] rfl (by omega) (by omega)
    have ba := bl_alloc w1 (.cells #[.int .u32 4294967295, .int .u32 2147483647] 73)
    have xa := x1.next ba
    have hlt1 := x1.lt
    have xaa := xa.c0
    have xab := xa.c1
    by_cases hz : Z < 0
    · go_wp2_with fail
      refine (rsign_z _ Z k _ (hv0.below (t1.next ba)) hk).mono ?_
      rintro e w2 ⟨rfl, b2⟩
      have hy2 := nums_two w2 0 2147483648 #[.int .u32 0, .int .u32 2147483648] rfl (by omega) (by omega)
      have bb := bl_alloc w2 (.cells #[.int .u32 0, .int .u32 2147483648] 73)
      have xb := (xa.next b2).next bb
      have tb := ((t1.next ba).next b2).next bb
      have ob := o1.below ((ba.next b2).next bb)
      have hcm := rcmp_any A1 _ n1 c1 2 2 _ _ _ ob hy2 (by omega) (by omega)
      rw [Limb.val_canon, show Limb.val [0, 2147483648] = 9223372036854775808 from by simp [Limb.val]] at hcm
      clear hy1 hy2
      go_wp2_with fail
      refine hcm.mono ?_
      rintro e w' ⟨rfl, rfl⟩
      clear hcm
      by_cases hle : Z.natAbs ≤ 9223372036854775808
      · have hc0 : ¬ (0 < cmpN Z.natAbs 9223372036854775808) := by unfold cmpN sgn3; split <;> (try split) <;> omega
        generalize cmpN Z.natAbs 9223372036854775808 = cv at *
        have hfit := hide (small_yes (Z := Z) (by omega) (by omega))
        obtain ⟨wc, hwc⟩ : ∃ wc : World, w2.alloc (.cells #[.int .u32 0, .int .u32 2147483648] 73) = wc := ⟨_, rfl⟩
        rw [hwc] at xb tb ob ⊢
        have xc := xb
        have tc := tb
        have o2 := ob
        clear xb tb ob hwc
        go_wp2_with fail
        have hlen := hide o2.len
        have hval := hide (Limb.val_canon Z.natAbs)
        have hok := Limb.ok_canon Z.natAbs
        have x3 : Blk wc w.heap.size #[.bool s, .slice A n c] := xc
        generalize Limb.canon Z.natAbs = zs at *
        have hdl := hide (val_drop_le zs)
        go_loopw [6, 7] (fun v i wr => ∃ j : Nat, j ≤ n1 ∧ i = .int .i64 ((j : Int) - 1) ∧ v = .int .i64 (-((Limb.val (zs.drop j) : Nat) : Int)) ∧ Blk wr w.heap.size #[.bool s, .slice A n c] ∧ Below wc.heap.size wc wr) (fun _ i _ => (intOf i + 1).toNat)
        case atStart => exact ⟨n1, Nat.le_refl _, rfl, by rw [List.drop_of_length_le (by rw [hlen.out]; exact Nat.le_refl _)]; rfl, x3, Below.refl _ _⟩
        case round =>
          obtain ⟨j, hj, rfl, rfl, xr, tr⟩ := hrel
          rcases Nat.eq_zero_or_pos j with hj0 | hj0
          · subst hj0
            rw [List.drop_zero]
            go_wp2_with fail
            go_ret2
            refine ⟨?_, tc.next tr⟩
            rw [hfit.out.1, hfit.out.2]
            have : -((Limb.val zs : Nat) : Int) = Z := by rw [hval.out]; omega
            show Ending.returned (.tuple #[.int .i64 (-((Limb.val zs : Nat) : Int)), .bool true]) = _
            rw [this]
          · obtain ⟨i, rfl⟩ : ∃ i, j = i + 1 := ⟨j - 1, by omega⟩
            have hii : (((i + 1 : Nat)) : Int) - 1 = (i : Int) := by omega
            rw [hii]
            clear hii hj0
            obtain ⟨b, o, x, hA, hxl, hxe, hcx⟩ := (o2.below tr).at_ (i := i) (by omega)
            have hv1 := hide (val_drop_one' zs i (by rw [hlen.out]; omega))
            have hb1 := hdl.out i
            rw [hval.out] at hb1
            have hxe' := hide (show limb zs i = x from hxe.symm)
            rw [hxe'.out] at hv1
            generalize Limb.val (zs.drop (i + 1)) = u at *
            generalize hD : Limb.val (zs.drop i) = dd at *
            have HD := hide hD
            clear hD hxe
            have hres := hide (show -(u : Int) * 4294967296 - (x : Int) = -((Limb.val (zs.drop i) : Nat) : Int) by rw [HD.out]; have := hv1.out; omega)
            have hw1 : IntKind.i64.wrap (-(u : Int) * 4294967296) = -(u : Int) * 4294967296 := IntWalk.i64_in _ (by have := hv1.out; omega)
            have hw2 : IntKind.i64.wrap (-(u : Int) * 4294967296 - (x : Int)) = -(u : Int) * 4294967296 - (x : Int) := IntWalk.i64_in _ (by have := hv1.out; omega)
            have xra := xr.c0
            have xrb := xr.c1
            subst hA
            go_wp2_with fail
            refine (rsign_z _ Z k wr (hv0.below (tc.next tr)) hk).mono ?_
            rintro e wn ⟨rfl, bn⟩
            have hcx' := cell_later bn hcx
            go_wp2_with fail
            go_roundw
            case rel => exact ⟨i, by omega, by go_num, by rw [hres.out], xr.next bn, tr.next bn⟩
            case measure => simp [intOf] <;> omega
      · have hc0 : 0 < cmpN Z.natAbs 9223372036854775808 := by rw [cmpN_gt' (by omega)]; omega
        generalize cmpN Z.natAbs 9223372036854775808 = cv at *
        have hno := hide (small_no (Z := Z) (by omega))
        go_wp2_with fail
        go_ret2
        exact ⟨by rw [hno.out.1, hno.out.2]; rfl, tb⟩
    · go_wp2_with fail
      refine (rsign_z _ Z k _ (hv0.below (t1.next ba)) hk).mono ?_
      rintro e w2 ⟨rfl, b2⟩
      have xb := xa.next b2
      have tb := (t1.next ba).next b2
      have ob := o1.below (ba.next b2)
      have hcm := rcmp_any A1 _ n1 c1 2 2 _ _ _ ob (hy1.below b2) (by omega) (by omega)
      rw [Limb.val_canon, show Limb.val [4294967295, 2147483647] = 9223372036854775807 from by simp [Limb.val]] at hcm
      clear hy1
      go_wp2_with fail
      refine hcm.mono ?_
      rintro e w' ⟨rfl, rfl⟩
      clear hcm
      by_cases hle : Z.natAbs ≤ 9223372036854775807
      · have hc0 : ¬ (0 < cmpN Z.natAbs 9223372036854775807) := by unfold cmpN sgn3; split <;> (try split) <;> omega
        generalize cmpN Z.natAbs 9223372036854775807 = cv at *
        have hfit := hide (small_yes (Z := Z) (by omega) (by omega))
        obtain ⟨wc, rfl⟩ : ∃ wc : World, wc = w2 := ⟨_, rfl⟩
        have xc := xb
        have tc := tb
        have o2 := ob
        clear xb tb ob
        go_wp2_with fail
        have hlen := hide o2.len
        have hval := hide (Limb.val_canon Z.natAbs)
        have hok := Limb.ok_canon Z.natAbs
        have x3 : Blk wc w.heap.size #[.bool s, .slice A n c] := xc
        generalize Limb.canon Z.natAbs = zs at *
        have hdl := hide (val_drop_le zs)
        go_loopw [6, 7] (fun v i wr => ∃ j : Nat, j ≤ n1 ∧ i = .int .i64 ((j : Int) - 1) ∧ v = .int .i64 (((Limb.val (zs.drop j) : Nat) : Int)) ∧ Blk wr w.heap.size #[.bool s, .slice A n c] ∧ Below wc.heap.size wc wr) (fun _ i _ => (intOf i + 1).toNat)
        case atStart => exact ⟨n1, Nat.le_refl _, rfl, by rw [List.drop_of_length_le (by rw [hlen.out]; exact Nat.le_refl _)]; rfl, x3, Below.refl _ _⟩
        case round =>
          obtain ⟨j, hj, rfl, rfl, xr, tr⟩ := hrel
          rcases Nat.eq_zero_or_pos j with hj0 | hj0
          · subst hj0
            rw [List.drop_zero]
            go_wp2_with fail
            go_ret2
            refine ⟨?_, tc.next tr⟩
            rw [hfit.out.1, hfit.out.2]
            have : ((Limb.val zs : Nat) : Int) = Z := by rw [hval.out]; omega
            show Ending.returned (.tuple #[.int .i64 (((Limb.val zs : Nat) : Int)), .bool true]) = _
            rw [this]
          · obtain ⟨i, rfl⟩ : ∃ i, j = i + 1 := ⟨j - 1, by omega⟩
            have hii : (((i + 1 : Nat)) : Int) - 1 = (i : Int) := by omega
            rw [hii]
            clear hii hj0
            obtain ⟨b, o, x, hA, hxl, hxe, hcx⟩ := (o2.below tr).at_ (i := i) (by omega)
            have hv1 := hide (val_drop_one' zs i (by rw [hlen.out]; omega))
            have hb1 := hdl.out i
            rw [hval.out] at hb1
            have hxe' := hide (show limb zs i = x from hxe.symm)
            rw [hxe'.out] at hv1
            generalize Limb.val (zs.drop (i + 1)) = u at *
            generalize hD : Limb.val (zs.drop i) = dd at *
            have HD := hide hD
            clear hD hxe
            obtain ⟨U, hU⟩ : ∃ U : Int, (u : Int) = U := ⟨_, rfl⟩
            have hUD := hide (show U * 4294967296 + (x : Int) = ((Limb.val (zs.drop i) : Nat) : Int) by rw [HD.out, ← hU]; have := hv1.out; omega)
            have hU1 : 0 ≤ U := by omega
            have hU2 : U * 4294967296 + (x : Int) ≤ 9223372036854775807 := by rw [← hU]; have := hv1.out; omega
            rw [hU]
            clear hv1 hb1 hU
            have hw1 : IntKind.i64.wrap (U * 4294967296) = U * 4294967296 := IntWalk.i64_in _ (by omega)
            have hw2 : IntKind.i64.wrap (U * 4294967296 + (x : Int)) = U * 4294967296 + (x : Int) := IntWalk.i64_in _ (by omega)
            have xra := xr.c0
            have xrb := xr.c1
            subst hA
            go_wp2_with fail
            refine (rsign_z _ Z k wr (hv0.below (tc.next tr)) hk).mono ?_
            rintro e wn ⟨rfl, bn⟩
            have hcx' := cell_later bn hcx
            go_wp2_with fail
            go_roundw
            case rel => exact ⟨i, by omega, by go_num, by rw [hUD.out], xr.next bn, tr.next bn⟩
            case measure => simp [intOf] <;> omega
      · have hc0 : 0 < cmpN Z.natAbs 9223372036854775807 := by rw [cmpN_gt' (by omega)]; omega
        generalize cmpN Z.natAbs 9223372036854775807 = cv at *
        have hno := hide (small_no (Z := Z) (by omega))
        go_wp2_with fail
        go_ret2
        exact ⟨by rw [hno.out.1, hno.out.2]; rfl, tb⟩
  · have hbig : 18446744073709551616 ≤ Z.natAbs := by
      rcases Nat.lt_or_ge Z.natAbs 18446744073709551616 with h | h
      · exact absurd (short_canon o1 (k := 2) (by omega)) h2
      · exact h
    have hno := hide (small_no (Z := Z) (by omega))
    clear hbig
    go_wp2_with fail
    go_ret2
    exact ⟨by rw [hno.out.1, hno.out.2]; rfl, t1⟩
end Go.Proofs.Ytpocaopiaggbmaa
