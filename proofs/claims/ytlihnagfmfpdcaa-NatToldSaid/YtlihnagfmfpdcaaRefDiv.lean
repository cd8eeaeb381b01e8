/- plumblineref01: Bits, Bit, twice, Div. -/
import Derived.Test.YtlihnagfmfpdcaaBitMath
import Derived.Test.YtlihnagfmfpdcaaAlive1
import Derived.Test.YtlihnagfmfpdcaaMulD
import Derived.Test.YtlihnagfmfpdcaaGcd
namespace Go.Proofs.Ytlihnagfmfpdcaa
open Go.RowKit

def RBitsPost (N : Nat) (w : World) (e : Ending) (w' : World) : Prop := e = .returned (.int .i64 ((Limb.bl N : Nat) : Int)) ∧ Below w.heap.size w w'

theorem canon_top (N k : Nat) (h : (Limb.canon N).length = k + 1) : 0 < Limb.limb (Limb.canon N) k := by
  have hne : Limb.canon N ≠ [] := fun h0 => by rw [h0] at h; cases h
  have ht := Limb.tight_canon N hne
  rw [List.getLast_eq_getElem] at ht
  unfold Limb.limb
  rw [List.getD_eq_getElem?_getD, List.getElem?_eq_getElem (by omega)]
  have e : (Limb.canon N).length - 1 = k := by omega
  simp only [e] at ht
  exact Nat.pos_of_ne_zero ht

set_option maxHeartbeats 1000000 in
theorem rbits_any (A : Option Addr) (n c : Nat) (xs : List Nat) (w : World) (hx : Nums w A n xs) (hn : n ≤ 1099511627776) :
    Calls Try.prog 106 #[.slice A n c] w (RBitsPost (Limb.val xs) w) := by
  generalize ha : Limb.val xs = N
  have HA := Lib.hid ha
  clear ha
  go_enter Try.func106, Try.ntmps106
  go_wp2_with fail
  refine (rtrim_any A n c xs w hx (by omega)).mono ?_
  rintro e w1 ⟨A1, n1, c1, rfl, o1, l1, m1, b1⟩
  rw [HA.out] at o1
  have hl : n1 ≤ n := by
    have h1 := hx.lt
    rw [HA.out] at h1
    exact short_canon o1 h1
  have hlen := hide o1.len
  rcases Nat.eq_zero_or_pos n1 with h0 | h0
  · subst h0
    have hN : Hid (N = 0) := hide ((Limb.canon_len_zero N).1 hlen.out)
    go_wp2_with fail
    go_ret
    exact ⟨by rw [hN.out]; rfl, b1⟩
  · obtain ⟨k, hk⟩ : ∃ k, n1 = k + 1 := ⟨n1 - 1, by omega⟩
    subst hk
    obtain ⟨b, o, x, rfl, hx32, hxe, hcell⟩ := o1.at_ (i := k) (by omega)
    have hx0 := canon_top N k hlen.out
    have hbl := Limb.bl_limbs (Limb.canon N) k (Limb.ok_canon N) hlen.out hx0
    rw [Limb.val_canon] at hbl
    have e1 : Limb.limb (Limb.canon N) k = x := hxe.symm
    rw [e1] at hbl hx0
    have HB := hide hbl
    have HBN := hide (show Limb.bl N ≤ 32 * k + 32 by have := Limb.bl_le x 32 hx32; omega)
    clear hbl e1 hxe
    go_wp2_with fail
    go_loopw [4, 5] (fun p t wr => ∃ q u : Nat, u < 4294967296 ∧ p = .int .i64 (q : Int) ∧ t = .int .u32 (u : Int) ∧ q ≤ 70368744177664 ∧ Hid (Limb.bl N = q + Limb.bl u) ∧ wr = w1) (fun _ t _ => (intOf t).toNat)
    case atStart => exact ⟨32 * k, x, hx32, by go_num, rfl, by omega, HB, rfl⟩
    case round =>
      obtain ⟨q, u, hu, rfl, rfl, hq, HQ, rfl⟩ := hrel
      by_cases hu0 : 0 < u
      · go_wp2_with fail
        go_roundw
        case rel => exact ⟨q + 1, u / 2, by omega, by go_num, by go_num, by have h1 := HQ.out; have h2 := HBN.out; rw [Limb.bl_half u hu0] at h1; omega, hide (by rw [HQ.out, Limb.bl_half u hu0]; omega), trivial⟩
        case measure => simp [intOf]; omega
      · obtain rfl : u = 0 := by omega
        go_wp2_with fail
        go_ret
        exact ⟨by rw [HQ.out]; rfl, b1⟩

set_option maxHeartbeats 1000000 in
theorem rbit_any (A : Option Addr) (n c : Nat) (xs : List Nat) (i : Nat) (w : World) (hx : Nums w A n xs) (hn : n ≤ 1099511627776) (hi : i ≤ 9223372036854775807) :
    Calls Try.prog 108 #[.slice A n c, .int .i64 (i : Int)] w (BoolPost (decide (Limb.val xs / 2 ^ i % 2 = 1)) w) := by
  by_cases hin : i < 32 * n
  · obtain ⟨b, o, x, rfl, hx32, hxe, hcell⟩ := hx.at_ (i := i / 32) (by omega)
    have hd := Limb.digit xs hx.ok i
    have e1 : Limb.limb xs (i / 32) = x := hxe.symm
    rw [e1] at hd
    have HD := hide hd
    clear hd e1 hxe
    obtain ⟨j, s, hs, hij⟩ : ∃ j s : Nat, s < 32 ∧ i = 32 * j + s := ⟨i / 32, i % 32, by omega, by omega⟩
    subst hij
    have hj : (32 * j + s) / 32 = j := by omega
    have hsm : (32 * j + s) % 32 = s := by omega
    rw [hsm] at HD
    clear hj hsm
    go_enter Try.func108, Try.ntmps108
    go_wp2_with fail
    go_loopw [5, 6] (fun v i wr => ∃ k y : Nat, k ≤ s ∧ y < 4294967296 ∧ i = .int .i64 (k : Int) ∧ v = .int .u32 (y : Int) ∧ Hid (y = x / 2 ^ k) ∧ ∃ q, wr = w.drewN q) (fun _ i _ => s - (intOf i).toNat)
    case atStart => exact ⟨0, x, Nat.zero_le _, hx32, rfl, rfl, hide (by simp), 0, rfl⟩
    case round =>
      obtain ⟨k, y, hk, hy, rfl, rfl, HY, q, rfl⟩ := hrel
      by_cases hks : k < s
      · go_wp2_with fail
        go_roundw
        case rel => exact ⟨k + 1, y / 2, by omega, by omega, by go_num, by go_num, hide (by rw [HY.out, Nat.pow_succ, Nat.div_div_eq_div_mul]), q, rfl⟩
        case measure => simp [intOf]; omega
      · obtain rfl : k = s := by omega
        go_wp2_with fail
        go_ret
        refine ⟨?_, q, rfl⟩
        rw [← HD.out, ← HY.out]
        have e : ((y : Int) % 2 == 1) = decide (y % 2 = 1) := by
          by_cases h1 : y % 2 = 1
          · simp [h1]; omega
          · simp [h1]; omega
        show Ending.returned (.bool ((y : Int) % 2 == 1)) = _
        rw [e]
  · have hz : Limb.val xs / 2 ^ i = 0 := by
      refine Nat.div_eq_of_lt (Nat.lt_of_lt_of_le hx.lt ?_)
      rw [Limb.two_pow32]
      exact Nat.pow_le_pow_right (by omega) (by omega)
    have hf : decide (Limb.val xs / 2 ^ i % 2 = 1) = false := by rw [hz]; rfl
    have HF := hide hf
    clear hf hz
    go_enter Try.func108, Try.ntmps108
    go_wp2_with fail
    all_goals try (exfalso; omega)
    go_ret
    exact ⟨by rw [HF.out]; rfl, 0, rfl⟩

def bitN (b : Bool) : Nat := if b then 1 else 0
set_option maxHeartbeats 1000000 in
theorem rtwice_any (A : Option Addr) (n c : Nat) (xs : List Nat) (b : Bool) (w : World) (hx : Nums w A n xs) (hc : n ≤ c) (hm : c ≤ 9223372036854775807) (hn : n ≤ 1099511627) :
    Calls Try.prog 107 #[.slice A n c, .bool b] w (RefPost (2 * Limb.val xs + bitN b) w) := by
  generalize ha : Limb.val xs = N
  have HA := Lib.hid ha
  clear ha
  cases b with
  | false =>
    go_enter Try.func107, Try.ntmps107
    go_wp2_with fail
    refine (small_any A n c xs 2 w hx (by omega) (by omega)).mono ?_
    rintro e w1 ⟨A1, n1, c1, rfl, o1, l1, m1, b1⟩
    go_wp2_with fail
    go_ret
    exact ⟨A1, n1, c1, rfl, by rw [HA.out, Nat.mul_comm] at o1; exact o1, l1, m1, b1⟩
  | true =>
    go_enter Try.func107, Try.ntmps107
    go_wp2_with fail
    refine (small_any A n c xs 2 w hx (by omega) (by omega)).mono ?_
    rintro e w1 ⟨A1, n1, c1, rfl, o1, l1, m1, b1⟩
    rw [HA.out, Nat.mul_comm] at o1
    have hl : n1 ≤ n + 1 := by
      have h1 := hx.lt
      rw [HA.out] at h1
      exact short_canon o1 (by rw [Nat.pow_succ]; omega)
    have x1 := lit1 w1 1 1 #[.int .u32 1] rfl (by omega) (by omega) rfl
    have ba := bl_alloc w1 (.cells #[.int .u32 1] 59)
    go_wp2_with fail
    refine (radd_any A1 (some ⟨w1.heap.size, 0, none⟩) n1 c1 1 1 _ _ _ (o1.below ba) x1 (by omega) (by omega)).mono ?_
    rintro e w2 ⟨A2, n2, c2, rfl, o2, l2, m2, b2⟩
    rw [Limb.val_canon, Limb.val_canon] at o2
    go_wp2_with fail
    go_ret
    exact ⟨A2, n2, c2, rfl, o2, l2, m2, (b1.next ba).next b2⟩
end Go.Proofs.Ytlihnagfmfpdcaa
