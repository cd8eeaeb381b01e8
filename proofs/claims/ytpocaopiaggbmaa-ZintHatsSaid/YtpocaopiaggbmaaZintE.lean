/- zint.Small, plumblineref02.Small. -/
import Derived.Test.YtpocaopiaggbmaaZintD
namespace Go.Proofs.Ytpocaopiaggbmaa
open Go.RowKit
open Limb (limb limb_lt upto upto_succ upto_all upto_zero)

/-- The number as an int64, or none. -/
def isSmall (Z : Int) : Bool := decide (-9223372036854775808 ≤ Z ∧ Z ≤ 9223372036854775807)
def small (Z : Int) : Int := if isSmall Z then Z else 0
def SmallPost (Z : Int) (w : World) (e : Ending) (w' : World) : Prop := e = .returned (.tuple #[.int .i64 (small Z), .bool (isSmall Z)]) ∧ Below w.heap.size w w'
theorem small_yes {Z : Int} (h1 : -9223372036854775808 ≤ Z) (h2 : Z ≤ 9223372036854775807) : small Z = Z ∧ isSmall Z = true := by
  have h : isSmall Z = true := decide_eq_true ⟨h1, h2⟩
  exact ⟨by unfold small; rw [h]; rfl, h⟩
theorem small_no {Z : Int} (h : Z < -9223372036854775808 ∨ 9223372036854775807 < Z) : small Z = 0 ∧ isSmall Z = false := by
  have h : isSmall Z = false := decide_eq_false (by omega)
  exact ⟨by unfold small; rw [h]; rfl, h⟩

set_option maxHeartbeats 4000000 in
theorem small_z (v : Value) (Z : Int) (k : Nat) (w : World) (hv : ZIn w v Z k) (hk : k ≤ 1099511627776) : Calls Try.prog 51 #[v] w (SmallPost Z w) := by
  obtain ⟨s, A, n, c, xs, rfl, hx, hc, hm, hn, rfl⟩ := hv
  obtain ⟨z1, z2, -⟩ := zstart1 w #[.bool s, .slice A n c]
  have hbits := bits_any A n c xs _ (hx.below z2) hc hm (by omega)
  have htrim := trim_any A n c xs _ (hx.below z2) hc hm (by omega)
  unfold BitsPost at hbits
  have hbl := Limb.lt_bl (Limb.val xs)
  have hbg := fun h => Limb.bl_ge (Limb.val xs) h
  generalize Limb.val xs = N at *
  by_cases h64 : 64 < Limb.bl N
  · have hbig : 18446744073709551616 ≤ N := by
      obtain ⟨j, h1, h2⟩ := hbg (by rcases Nat.eq_zero_or_pos N with h | h; subst h; rw [Limb.bl_zero] at h64; omega; exact h)
      have h3 : 2 ^ 64 ≤ 2 ^ j := Nat.pow_le_pow_right (by omega) (by omega)
      omega
    have hno := hide (small_no (Z := sg s N) (by cases s <;> simp [sg] <;> omega))
    generalize Limb.bl N = q at *
    clear hbl hbg
    go_enter Try.func51, Try.ntmps51
    go_wp2_with fail
    refine hbits.mono ?_
    rintro e w' ⟨rfl, rfl⟩
    go_wp2_with fail
    go_ret2
    exact ⟨by rw [hno.out.1, hno.out.2]; rfl, z2⟩
  · have hN : N < 18446744073709551616 := by
      have h3 : 2 ^ Limb.bl N ≤ 2 ^ 64 := Nat.pow_le_pow_right (by omega) (by omega)
      omega
    generalize Limb.bl N = q at *
    clear hbl hbg
    go_enter Try.func51, Try.ntmps51
    go_wp2_with fail
    refine hbits.mono ?_
    rintro e w' ⟨rfl, rfl⟩
    clear hbits
    go_wp2_with fail
    refine htrim.mono ?_
    rintro e w1 ⟨A1, n1, rfl, o1, b1⟩
    clear htrim
    have l1 : n1 ≤ 2 := short_canon o1.nums (by omega)
    have x1 := (z1.next b1).c0
    have t1 := z2.next b1
    have hx1 := o1.nums
    have hlen := hide hx1.len
    have hval := hide (Limb.val_canon N)
    have hok := Limb.ok_canon N
    generalize Limb.canon N = zs at *
    go_wp2_with fail
    go_loop [4, 15] (fun v i => ∃ k z : Nat, k ≤ n1 ∧ i = .int .i64 (k : Int) ∧ v = .int .u64 (z : Int) ∧ Hid (z = upto zs k)) (fun _ i => n1 - (intOf i).toNat)
    case atStart => exact ⟨0, 0, Nat.zero_le _, rfl, rfl, by show _ = _; rw [upto_zero]⟩
    case round =>
      obtain ⟨k, z, hk, rfl, rfl, HZ⟩ := hrel
      by_cases hkn : k < n1
      · obtain ⟨b, o, x, rfl, hxl, hxe, hc⟩ := hx1.at_ hkn
        have HX := Lib.hid hxe
        clear hxe
        obtain rfl | rfl : k = 0 ∨ k = 1 := by omega
        · have hz0 : z = 0 := by rw [HZ.out, upto_zero]
          subst hz0
          rw [Nat.add_zero] at hc
          go_wp2_with fail
          rw [or64_zero x hxl]
          go_round
          case rel => exact ⟨1, x, by omega, rfl, rfl, by show _ = _; rw [upto_succ, upto_zero]; unfold limb; rw [← HX.out]; omega⟩
          case measure => simp [intOf]; omega
        · have hzl : z < 4294967296 := by rw [HZ.out]; exact upto_lt zs hok 1
          go_wp2_with fail
          rw [join64 z x hzl hxl]
          go_round
          case rel => exact ⟨2, z + x * 4294967296, by omega, rfl, by go_num, by show _ = _; rw [upto_succ, ← HZ.out]; unfold limb; rw [← HX.out]; omega⟩
          case measure => simp [intOf]; omega
      · have hzN := hide (show z = N by rw [HZ.out, upto_all zs k (by rw [hlen.out]; omega), hval.out])
        have hzN2 : z < 18446744073709551616 := by rw [hzN.out]; exact hN
        cases s with
        | true =>
          by_cases h1 : z ≤ 9223372036854775808
          · have hy := hide (small_yes (Z := sg true N) (by rw [← hzN.out, sg_true]; omega) (by rw [← hzN.out, sg_true]; omega))
            by_cases h2 : z ≤ 9223372036854775807
            · go_wp2_with fail
              go_ret2
              refine ⟨?_, t1⟩
              rw [hy.out.1, hy.out.2, sg_true, ← hzN.out]
              rfl
            · have h3 : ((z : Int) == 9223372036854775808) = true := by simp; omega
              go_wp2_with fail
              go_ret2
              refine ⟨?_, t1⟩
              rw [hy.out.1, hy.out.2, sg_true, ← hzN.out]
              have : z = 9223372036854775808 := by omega
              rw [this]; rfl
          · have hno := hide (small_no (Z := sg true N) (by rw [← hzN.out, sg_true]; omega))
            have h3 : ((z : Int) == 9223372036854775808) = false := by simp; omega
            go_wp2_with fail
            go_ret2
            exact ⟨by rw [hno.out.1, hno.out.2]; rfl, t1⟩
        | false =>
          by_cases h2 : z ≤ 9223372036854775807
          · have hy := hide (small_yes (Z := sg false N) (by rw [← hzN.out, sg_false]; omega) (by rw [← hzN.out, sg_false]; omega))
            go_wp2_with fail
            go_ret2
            refine ⟨?_, t1⟩
            rw [hy.out.1, hy.out.2, sg_false, ← hzN.out]
            rfl
          · have hno := hide (small_no (Z := sg false N) (by rw [← hzN.out, sg_false]; omega))
            by_cases h4 : z = 9223372036854775808
            · have h3 : ((z : Int) == 9223372036854775808) = true := by simp; omega
              clear h4
              go_wp2_with fail
              go_ret2
              exact ⟨by rw [hno.out.1, hno.out.2]; rfl, t1⟩
            · have h3 : ((z : Int) == 9223372036854775808) = false := by simp; omega
              clear h4
              go_wp2_with fail
              go_ret2
              exact ⟨by rw [hno.out.1, hno.out.2]; rfl, t1⟩

end Go.Proofs.Ytpocaopiaggbmaa
