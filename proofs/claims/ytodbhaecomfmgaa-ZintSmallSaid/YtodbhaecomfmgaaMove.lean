/- nat.Bits, nat.Bit, nat.Left, nat.Right at any int. -/
import Derived.Test.YtodbhaecomfmgaaMoveMath
import Derived.Test.YtodbhaecomfmgaaRefDiv
namespace Go.Proofs.Ytodbhaecomfmgaa
open Go.RowKit
open Limb (limb limb_lt upto upto_succ upto_all upto_zero)

theorem bitLen_bl (x : Nat) (h0 : x ≠ 0) (h : x < 4294967296) : Lib.bitLen x = Limb.bl x := by
  obtain ⟨h1, h2, h3, h4⟩ := bitLen_of x h0 h
  have := Limb.bl_spec x (Lib.bitLen x - 1) h3 (by rw [Nat.sub_add_cancel h1]; exact h4)
  omega
def BitsPost (N : Nat) (w : World) (e : Ending) (w' : World) : Prop := e = .returned (.int .i64 ((Limb.bl N : Nat) : Int)) ∧ w = w'
def Len32Post (x : Nat) (w : World) (e : Ending) (w' : World) : Prop := e = .returned (.int .i64 ((Limb.bl x : Nat) : Int)) ∧ w = w'
theorem len32_any (x : Nat) (w : World) (h0 : x ≠ 0) (h : x < 4294967296) : Calls Try.prog 97 #[.int .u32 (x : Int)] w (Len32Post x w) := by
  refine (Try.bits_Len32 (x : Int) w (by omega) (by omega)).mono ?_
  rintro e w' ⟨rfl, rfl⟩
  rw [Int.toNat_natCast, bitLen_bl x h0 h]
  exact ⟨rfl, rfl⟩

set_option maxHeartbeats 1000000 in
theorem bits_any (A : Option Addr) (n c : Nat) (xs : List Nat) (w : World) (hx : Nums w A n xs) (hc : n ≤ c) (hm : c ≤ 9223372036854775807) (hb : n ≤ 1099511627776) :
    Calls Try.prog 25 #[.slice A n c] w (BitsPost (Limb.val xs) w) := by
  have hcut := isCut_det w A xs n hx
  have hdet := trimmed_det A n c xs w hx hc hm
  generalize Limb.val xs = a at *
  obtain ⟨-, hle, hN, -⟩ := hcut
  unfold TrimDetPost at hdet
  rcases Nat.eq_zero_or_pos (L a) with h0 | h0
  · have ha : Hid (a = 0) := hide ((Limb.canon_len_zero a).1 h0)
    rw [h0] at hdet
    clear h0 hN hle
    go_enter Try.func25, Try.ntmps25
    go_wp2_with fail
    refine hdet.mono ?_
    rintro e w' ⟨rfl, rfl⟩
    go_wp2_with fail
    go_ret
    exact ⟨by rw [ha.out]; rfl, rfl⟩
  · obtain ⟨k, hk⟩ : ∃ k, L a = k + 1 := ⟨L a - 1, by omega⟩
    rw [hk] at hdet hle hN
    have hk2 : (Limb.canon a).length = k + 1 := hk
    obtain ⟨b, o, x, hA, hx32, hxe, hcell⟩ := hN.at_ (i := k) (by omega)
    have hx0 := canon_top a k hk2
    have hbl := Limb.bl_limbs (Limb.canon a) k (Limb.ok_canon a) hk2 hx0
    rw [Limb.val_canon] at hbl
    have e1 : Limb.limb (Limb.canon a) k = x := hxe.symm
    rw [e1] at hbl hx0
    have HB := hide hbl
    have hblx := Limb.bl_le x 32 hx32
    rw [hA] at hdet
    clear hbl e1 hxe hA hk hk2 hN h0
    go_enter Try.func25, Try.ntmps25
    go_wp2_with fail
    refine hdet.mono ?_
    rintro e w' ⟨rfl, rfl⟩
    go_wp2_with fail
    refine (len32_any x _ (by omega) hx32).mono ?_
    rintro e w' ⟨rfl, rfl⟩
    go_wp2_with fail
    go_ret
    exact ⟨by rw [HB.out]; go_num, rfl⟩

/-- Bit i of N; there is none below 0. -/
def bitAt (N : Nat) (i : Int) : Bool := decide (0 ≤ i) && decide (N / 2 ^ i.toNat % 2 = 1)
theorem bitAt_neg (N : Nat) (i : Int) (h : i < 0) : bitAt N i = false := by unfold bitAt; simp; omega
theorem bitAt_nat (N i : Nat) : bitAt N (i : Int) = decide (N / 2 ^ i % 2 = 1) := by unfold bitAt; simp
theorem bitAt_far (N i n : Nat) (h : N < 4294967296 ^ n) (hi : 32 * n ≤ i) : bitAt N (i : Int) = false := by
  rw [bitAt_nat]
  have : N / 2 ^ i = 0 := by
    refine Nat.div_eq_of_lt (Nat.lt_of_lt_of_le h ?_)
    rw [Limb.two_pow32]
    exact Nat.pow_le_pow_right (by omega) hi
  rw [this]; rfl

set_option maxHeartbeats 1000000 in
theorem bit_any (A : Option Addr) (n c : Nat) (xs : List Nat) (i : Int) (w : World) (hx : Nums w A n xs) (hn : n ≤ 1099511627776) (hlo : -9223372036854775808 ≤ i) (hi : i ≤ 9223372036854775807) :
    Calls Try.prog 27 #[.slice A n c, .int .i64 i] w (BoolPost (bitAt (Limb.val xs) i) w) := by
  by_cases h0 : 0 ≤ i
  · obtain ⟨i, rfl⟩ := Int.eq_ofNat_of_zero_le h0
    clear h0 hlo
    by_cases hin : i < 32 * n
    · obtain ⟨b, o, x, rfl, hx32, hxe, hcell⟩ := hx.at_ (i := i / 32) (by omega)
      have hd := Limb.digit xs hx.ok i
      have e1 : Limb.limb xs (i / 32) = x := hxe.symm
      rw [e1] at hd
      have HD := hide hd
      clear hd e1 hxe
      obtain ⟨j, s, hs, hij⟩ : ∃ j s : Nat, s < 32 ∧ i = 32 * j + s := ⟨i / 32, i % 32, by omega, by omega⟩
      subst hij
      have hj : (32 * j + s) / 32 = j := by omega
      have hsm : (32 * j + s) % 32 = s := by omega
      rw [hsm] at HD
      clear hj hsm
      go_enter Try.func27, Try.ntmps27
      go_wp2_with fail
      go_ret
      refine ⟨?_, 0, rfl⟩
      rw [bitAt_nat, ← HD.out]
      have e1 : s % 32 = s := Nat.mod_eq_of_lt hs
      have e2 : (x : Int) / 2 ^ (s % 32) = ((x / 2 ^ s : Nat) : Int) := by rw [e1, Int.natCast_ediv, Int.natCast_pow]; rfl
      have e3 : bits BinOp.and IntKind.u32 ((x : Int) / 2 ^ (s % 32)) 1 = ((x / 2 ^ s % 2 : Nat) : Int) := by
        rw [e2]; exact u32_low1 _ (Nat.lt_of_le_of_lt (Nat.div_le_self _ _) hx32)
      show Ending.returned (.bool (bits BinOp.and IntKind.u32 ((x : Int) / 2 ^ (s % 32)) 1 == 1)) = _
      rw [e3]
      have h2 := Nat.mod_lt (x / 2 ^ s) (show 2 > 0 by omega)
      generalize x / 2 ^ s % 2 = q at *
      have h3 : q = 0 ∨ q = 1 := by omega
      rcases h3 with h3 | h3 <;> subst h3 <;> rfl
    · have HF := hide (bitAt_far (Limb.val xs) i n hx.lt (by omega))
      go_enter Try.func27, Try.ntmps27
      go_wp2_with fail
      all_goals try (exfalso; omega)
      go_ret
      exact ⟨by rw [HF.out]; rfl, 0, rfl⟩
  · have HF := hide (bitAt_neg (Limb.val xs) i (by omega))
    go_enter Try.func27, Try.ntmps27
    go_wp2_with fail
    go_ret
    exact ⟨by rw [HF.out]; rfl, 0, rfl⟩

theorem lt_cap {w : World} {A : Option Addr} {n k : Nat} {xs : List Nat} (h : Nums w A n xs) (hk : n ≤ k) : Limb.val xs < 4294967296 ^ k := Nat.lt_of_lt_of_le h.lt (Limb.pow_mono hk)
theorem own_c {w : World} {base : Nat} {A : Option Addr} {n c N : Nat} (o : Own w base A n c N) : n ≤ 4611686018427387904 := by
  have := o.2.1
  have := o.2.2.1
  omega
def LeftPost (N : Nat) (w : World) (e : Ending) (w' : World) : Prop := ∃ A n, e = .returned (.tuple #[.slice A n n, .int .i64 0]) ∧ Own w' w.heap.size A n n N ∧ Below w.heap.size w w'
def ErrPost (k : Int) (w : World) (e : Ending) (w' : World) : Prop := e = .returned (.tuple #[.slice none 0 0, .int .i64 k]) ∧ w = w'
theorem left_arg (A : Option Addr) (n c : Nat) (i : Int) (w : World) (h : i < 0) : Calls Try.prog 19 #[.slice A n c, .int .i64 i] w (ErrPost 1 w) := by
  go_enter Try.func19, Try.ntmps19
  go_wp2_with fail
  go_ret2
  exact ⟨rfl, rfl⟩
theorem left_long (A : Option Addr) (n c : Nat) (i : Int) (w : World) (h : 1048576 < i) : Calls Try.prog 19 #[.slice A n c, .int .i64 i] w (ErrPost 2 w) := by
  go_enter Try.func19, Try.ntmps19
  go_wp2_with fail
  go_ret2
  exact ⟨rfl, rfl⟩
set_option maxHeartbeats 1000000 in
theorem left_any (A : Option Addr) (n c i : Nat) (xs : List Nat) (w : World) (hx : Nums w A n xs) (hc : n ≤ c) (hm : c ≤ 9223372036854775807) (hb : n ≤ 1099511627776) (hi : i ≤ 1048576) :
    Calls Try.prog 19 #[.slice A n c, .int .i64 (i : Int)] w (LeftPost (Limb.val xs * 2 ^ i) w) := by
  have hcut := isCut_det w A xs n hx
  have hdet := trimmed_det A n c xs w hx hc hm
  generalize Limb.val xs = a at *
  obtain ⟨-, hle, hN, -⟩ := hcut
  obtain ⟨j, s, hs, hij⟩ : ∃ j s : Nat, s < 32 ∧ i = 32 * j + s := ⟨i / 32, i % 32, by omega, by omega⟩
  have hsh := shifted_any (cutA A a) (L a) (L a) i j s _ w hN (Nat.le_refl _) (by omega) (by omega) hij hs (by omega)
  rw [Limb.val_canon, ← hij] at hsh
  have hj : j ≤ 32768 := by omega
  clear hij
  go_enter Try.func19, Try.ntmps19
  go_wp2_with fail
  refine hdet.mono ?_
  rintro e w' ⟨rfl, rfl⟩
  go_wp2_with fail
  refine hsh.mono ?_
  rintro e w1 ⟨zs, rfl, hl, ho, hr, hv, hb1⟩
  go_wp2_with fail
  refine (trimmed_row w.heap.size (L a + j + 1) (L a + j + 1) (a * 2 ^ i) w.heap.size zs w1 hr ho (by omega) (Nat.le_refl _) (by omega) (Nat.le_refl _) (by rw [List.take_of_length_le (by omega), hv])).mono ?_
  rintro e w' ⟨A', m, rfl, how, rfl⟩
  go_wp2_with fail
  go_ret2
  exact ⟨A', m, rfl, how, hb1⟩
end Go.Proofs.Ytodbhaecomfmgaa
