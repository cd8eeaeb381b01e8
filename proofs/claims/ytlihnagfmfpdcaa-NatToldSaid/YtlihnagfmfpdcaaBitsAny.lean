/- nat.Bits; what calls answer. -/
import Derived.Test.YtlihnagfmfpdcaaMoveMath
import Derived.Test.YtlihnagfmfpdcaaRefDiv
namespace Go.Proofs.Ytlihnagfmfpdcaa
open Go.RowKit
open Limb (limb limb_lt upto upto_succ upto_all upto_zero)

theorem bitLen_bl (x : Nat) (h0 : x ≠ 0) (h : x < 4294967296) : Lib.bitLen x = Limb.bl x := by
  obtain ⟨h1, h2, h3, h4⟩ := bitLen_of x h0 h
  have := Limb.bl_spec x (Lib.bitLen x - 1) h3 (by rw [Nat.sub_add_cancel h1]; exact h4)
  omega
def BitsPost (N : Nat) (w : World) (e : Ending) (w' : World) : Prop := e = .returned (.int .i64 ((Limb.bl N : Nat) : Int)) ∧ w = w'
def Len32Post (x : Nat) (w : World) (e : Ending) (w' : World) : Prop := e = .returned (.int .i64 ((Limb.bl x : Nat) : Int)) ∧ w = w'
theorem len32_any (x : Nat) (w : World) (h0 : x ≠ 0) (h : x < 4294967296) : Calls Try.prog 100 #[.int .u32 (x : Int)] w (Len32Post x w) := by
  refine (Try.bits_Len32 (x : Int) w (by omega) (by omega)).mono ?_
  rintro e w' ⟨rfl, rfl⟩
  rw [Int.toNat_natCast, bitLen_bl x h0 h]
  exact ⟨rfl, rfl⟩

set_option maxHeartbeats 1000000 in
theorem bits_any (A : Option Addr) (n c : Nat) (xs : List Nat) (w : World) (hx : Nums w A n xs) (hc : n ≤ c) (hm : c ≤ 9223372036854775807) (hb : n ≤ 1099511627776) :
    Calls Try.prog 85 #[.slice A n c] w (BitsPost (Limb.val xs) w) := by
  have hcut := isCut_det w A xs n hx
  have hdet := trimmed_det A n c xs w hx hc hm
  generalize Limb.val xs = a at *
  obtain ⟨-, hle, hN, -⟩ := hcut
  unfold TrimDetPost at hdet
  rcases Nat.eq_zero_or_pos (L a) with h0 | h0
  · have ha : Hid (a = 0) := hide ((Limb.canon_len_zero a).1 h0)
    rw [h0] at hdet
    clear h0 hN hle
    go_enter Try.func85, Try.ntmps85
    go_wp2_with fail
    refine hdet.mono ?_
    rintro e w' ⟨rfl, rfl⟩
    go_wp2_with fail
    go_ret
    exact ⟨by rw [ha.out]; rfl, rfl⟩
  · obtain ⟨k, hk⟩ : ∃ k, L a = k + 1 := ⟨L a - 1, by omega⟩
    rw [hk] at hdet hle hN
    have hk2 : (Limb.canon a).length = k + 1 := hk
    obtain ⟨b, o, x, hA, hx32, hxe, hcell⟩ := hN.at_ (i := k) (by omega)
    have hx0 := canon_top a k hk2
    have hbl := Limb.bl_limbs (Limb.canon a) k (Limb.ok_canon a) hk2 hx0
    rw [Limb.val_canon] at hbl
    have e1 : Limb.limb (Limb.canon a) k = x := hxe.symm
    rw [e1] at hbl hx0
    have HB := hide hbl
    have hblx := Limb.bl_le x 32 hx32
    rw [hA] at hdet
    clear hbl e1 hxe hA hk hk2 hN h0
    go_enter Try.func85, Try.ntmps85
    go_wp2_with fail
    refine hdet.mono ?_
    rintro e w' ⟨rfl, rfl⟩
    go_wp2_with fail
    refine (len32_any x _ (by omega) hx32).mono ?_
    rintro e w' ⟨rfl, rfl⟩
    go_wp2_with fail
    go_ret
    exact ⟨by rw [HB.out]; go_num, rfl⟩

/-- Bit i of N; there is none below 0. -/
theorem lt_cap {w : World} {A : Option Addr} {n k : Nat} {xs : List Nat} (h : Nums w A n xs) (hk : n ≤ k) : Limb.val xs < 4294967296 ^ k := Nat.lt_of_lt_of_le h.lt (Limb.pow_mono hk)
theorem own_c {w : World} {base : Nat} {A : Option Addr} {n c N : Nat} (o : Own w base A n c N) : n ≤ 4611686018427387904 := by
  have := o.2.1
  have := o.2.2.1
  omega
def LeftPost (N : Nat) (w : World) (e : Ending) (w' : World) : Prop := ∃ A n, e = .returned (.tuple #[.slice A n n, .int .i64 0]) ∧ Own w' w.heap.size A n n N ∧ Below w.heap.size w w'
def ErrPost (k : Int) (w : World) (e : Ending) (w' : World) : Prop := e = .returned (.tuple #[.slice none 0 0, .int .i64 k]) ∧ w = w'
def RefTwoPost (N : Nat) (w : World) (e : Ending) (w' : World) : Prop := ∃ A n c, e = .returned (.tuple #[.slice A n c, .int .i64 0]) ∧ Nums w' A n (Limb.canon N) ∧ n ≤ c ∧ c ≤ 9223372036854775807 ∧ Below w.heap.size w w'
end Go.Proofs.Ytlihnagfmfpdcaa
