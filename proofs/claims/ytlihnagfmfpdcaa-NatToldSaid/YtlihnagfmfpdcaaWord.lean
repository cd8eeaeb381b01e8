/- nat.word, nat.divideBy, bits.Len32, LeadingZeros32, nat.guessTimes, nat.subProduct. -/
import Derived.Test.YtlihnagfmfpdcaaMul
namespace Go.Proofs.Ytlihnagfmfpdcaa
open Go.RowKit
open Limb (limb limb_lt upto upto_succ upto_all upto_zero)

theorem join64 (a b : Nat) (ha : a < 4294967296) (hb : b < 4294967296) : bits BinOp.or IntKind.u64 ((a : Int)) ((b : Int) * 4294967296) = (a : Int) + (b : Int) * 4294967296 := by
  have h1 : (b : Int) * 4294967296 = ((b * 4294967296 : Nat) : Int) := by omega
  rw [h1, u64_or_nat a (b * 4294967296) (by omega) (by omega), Nat.or_comm, nat_join 32 (b * 4294967296) a (by show b * 4294967296 % 4294967296 = 0; omega) (by show a < 4294967296; exact ha)]
  omega

theorem join64' (a b : Nat) (ha : a < 4294967296) (hb : b < 4294967296) : bits BinOp.or IntKind.u64 ((b : Int) * 4294967296) ((a : Int)) = (b : Int) * 4294967296 + (a : Int) := by
  have h1 : (b : Int) * 4294967296 = ((b * 4294967296 : Nat) : Int) := by omega
  rw [h1, u64_or_nat (b * 4294967296) a (by omega) (by omega), nat_join 32 (b * 4294967296) a (by show b * 4294967296 % 4294967296 = 0; omega) (by show a < 4294967296; exact ha)]
  omega
theorem or64_zero (a : Nat) (ha : a < 4294967296) : bits BinOp.or IntKind.u64 0 (a : Int) = (a : Int) := by
  have h := u64_or_nat 0 a (by omega) (by omega)
  rw [Nat.zero_or] at h
  exact h
set_option maxHeartbeats 1000000 in
theorem word_any (A : Option Addr) (n c : Nat) (xs : List Nat) (w : World) (hx : Nums w A n xs) (hn : n ≤ 2) :
    Calls Try.prog 87 #[.slice A n c] w (U64Post (Limb.val xs : Nat) w) := by
  go_enter Try.func87, Try.ntmps87
  go_wp2_with fail
  go_loop [3, 8] (fun v i => ∃ k z : Nat, k ≤ n ∧ i = .int .i64 (k : Int) ∧ v = .int .u64 (z : Int) ∧ Hid (z = upto xs k)) (fun _ i => n - (intOf i).toNat)
  case atStart => exact ⟨0, 0, Nat.zero_le _, rfl, rfl, by show _ = _; rw [upto_zero]⟩
  case round =>
    obtain ⟨k, z, hk, rfl, rfl, HZ⟩ := hrel
    by_cases hkn : k < n
    · obtain ⟨b, o, x, rfl, hxl, hxe, hc⟩ := hx.at_ hkn
      have HX := Lib.hid hxe
      clear hxe
      obtain rfl | rfl : k = 0 ∨ k = 1 := by omega
      · have hz0 : z = 0 := by rw [HZ.out, upto_zero]
        subst hz0
        rw [Nat.add_zero] at hc
        go_wp2_with fail
        rw [or64_zero x hxl]
        go_round
        case rel => exact ⟨1, x, by omega, rfl, rfl, by show _ = _; rw [upto_succ, upto_zero]; unfold limb; rw [← HX.out]; omega⟩
        case measure => simp [intOf]; omega
      · have hzl : z < 4294967296 := by rw [HZ.out]; exact upto_lt xs hx.ok 1
        go_wp2_with fail
        rw [join64 z x hzl hxl]
        go_round
        case rel => exact ⟨2, z + x * 4294967296, by omega, rfl, by go_num, by show _ = _; rw [upto_succ, ← HZ.out]; unfold limb; rw [← HX.out]; omega⟩
        case measure => simp [intOf]; omega
    · go_wp2_with fail
      go_ret
      have hkn2 : k = n := by omega
      exact ⟨by rw [HZ.out, upto_all xs k (by rw [hx.len]; omega)]; rfl, rfl⟩
end Go.Proofs.Ytlihnagfmfpdcaa
