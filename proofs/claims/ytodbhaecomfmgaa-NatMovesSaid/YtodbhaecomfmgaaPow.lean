/- nat.Pow. -/
import Derived.Test.YtodbhaecomfmgaaMove
namespace Go.Proofs.Ytodbhaecomfmgaa
open Go.RowKit
open Limb (limb limb_lt upto upto_succ upto_all upto_zero)

theorem bitLen64 (x : Nat) (h : x < 18446744073709551616) : Lib.bitLen x = Limb.bl x := by
  by_cases h0 : x = 0
  · subst h0; rfl
  · have h1 := Lib.bitLenAux_bounds 64 x (by omega) h0
    unfold Lib.bitLen
    have := Limb.bl_spec x (Lib.bitLenAux 64 x - 1) h1.2.1 (by rw [Nat.sub_add_cancel h1.1]; exact h1.2.2)
    omega
def LenPost (x : Nat) (w : World) (e : Ending) (w' : World) : Prop := e = .returned (.int .i64 ((Limb.bl x : Nat) : Int)) ∧ w = w'
theorem len_any (v : Int) (x : Nat) (w : World) (hv : v = (x : Int)) (h : x < 18446744073709551616) : Calls Try.prog 98 #[.int .u64 v] w (LenPost x w) := by
  subst hv
  refine (Try.bits_Len (x : Int) w (by omega) (by omega)).mono ?_
  rintro e w' ⟨rfl, rfl⟩
  rw [Int.toNat_natCast, bitLen64 x h]
  exact ⟨rfl, rfl⟩
theorem pow_arg (A : Option Addr) (n c : Nat) (i : Int) (w : World) (h : i < 0) : Calls Try.prog 29 #[.slice A n c, .int .i64 i] w (ErrPost 1 w) := by
  go_enter Try.func29, Try.ntmps29
  go_wp2_with fail
  go_ret2
  exact ⟨rfl, rfl⟩
def powCap : Nat := 32769
theorem pow_cap (a k t : Nat) (ht : t ≤ k) (h0 : Limb.bl a = 0 ∨ k ≤ 1048576 / Limb.bl a) : a ^ t < 4294967296 ^ powCap := by
  have e : powCap = 1048576 / 32 + 1 := rfl
  rw [e]
  exact Limb.pow_less a k t 1048576 ht h0
theorem quot_int (s k : Nat) (hs : 0 < s) : (k ≤ 1048576 / s ↔ (k : Int) ≤ 1048576 / (s : Int)) ∧ (1048576 : Int) / (s : Int) ≤ 1048576 ∧ 0 ≤ (1048576 : Int) / (s : Int) := by
  have e : (1048576 : Int) / (s : Int) = ((1048576 / s : Nat) : Int) := (Int.natCast_ediv 1048576 s).symm
  rw [e]
  have := Nat.div_le_self 1048576 s
  generalize 1048576 / s = q at *
  omega
set_option maxHeartbeats 1000000 in
theorem pow_long (A : Option Addr) (n c : Nat) (xs : List Nat) (k : Nat) (w : World) (hx : Nums w A n xs) (hc : n ≤ c) (hm : c ≤ 9223372036854775807) (hb : n ≤ 1099511627776) (hk : k ≤ 9223372036854775807) (h1 : 0 < Limb.bl (Limb.val xs)) (h2 : ¬ k ≤ 1048576 / Limb.bl (Limb.val xs)) :
    Calls Try.prog 29 #[.slice A n c, .int .i64 (k : Int)] w (ErrPost 2 w) := by
  have hb2 := Limb.bl_le _ _ (by rw [← Limb.two_pow32]; exact hx.lt)
  have hbits := bits_any A n c xs w hx hc hm hb
  unfold BitsPost at hbits
  generalize Limb.bl (Limb.val xs) = s at *
  obtain ⟨q1, q2, q3⟩ := quot_int s k h1
  have q4 : ¬ (k : Int) ≤ 1048576 / (s : Int) := fun h => h2 (q1.2 h)
  clear q1 h2
  go_enter Try.func29, Try.ntmps29
  go_wp2_with fail
  refine hbits.mono ?_
  rintro e w' ⟨rfl, rfl⟩
  go_wp2_with fail
  go_ret2
  exact ⟨rfl, rfl⟩
set_option maxHeartbeats 4000000 in
theorem pow_any (A : Option Addr) (n c : Nat) (xs : List Nat) (k : Nat) (w : World) (hx : Nums w A n xs) (hc : n ≤ c) (hm : c ≤ 9223372036854775807) (hb : n ≤ 137438953472) (hk : k ≤ 9223372036854775807) (h0 : Limb.bl (Limb.val xs) = 0 ∨ k ≤ 1048576 / Limb.bl (Limb.val xs)) :
    Calls Try.prog 29 #[.slice A n c, .int .i64 (k : Int)] w (LeftPost (Limb.val xs ^ k) w) := by
  have hb2 := Limb.bl_le _ _ (by rw [← Limb.two_pow32]; exact hx.lt)
  have hbits := bits_any A n c xs w hx hc hm (by omega)
  have hlt : Hid (∀ t, t ≤ k → Limb.val xs ^ t < 4294967296 ^ powCap) := fun t ht => pow_cap _ k t ht h0
  have hcap : Hid (powCap = 32769) := rfl
  have hblk := Limb.bl_le k 63 (by omega)
  unfold BitsPost at hbits
  generalize hs : Limb.bl (Limb.val xs) = s at *
  have hcase : s = 0 ∨ (0 < s ∧ (k : Int) ≤ 1048576 / (s : Int) ∧ (1048576 : Int) / (s : Int) ≤ 1048576 ∧ 0 ≤ (1048576 : Int) / (s : Int)) := by
    rcases Nat.eq_zero_or_pos s with h | h
    · exact .inl h
    · obtain ⟨q1, q2, q3⟩ := quot_int s k h
      exact .inr ⟨h, q1.1 (by omega), q2, q3⟩
  clear hs h0
  generalize hN : Limb.val xs = a at *
  have HN := hide hN
  clear hN
  rcases hcase with h | ⟨h, q1, q2, q3⟩
  all_goals
    try subst h
    go_enter Try.func29, Try.ntmps29
    go_wp2_with fail
    refine hbits.mono ?_
    rintro e w' ⟨rfl, rfl⟩
    go_wp2_with fail
    refine (of_any 1 _ (by omega)).mono ?_
    rintro e w1 ⟨A1, n1, rfl, o1, b1⟩
    have l1 : n1 ≤ 1 := short_canon o1.nums (by omega)
    go_wp2_with fail
    refine (len_any _ k _ (by first | rfl | omega) (by omega)).mono ?_
    rintro e w' ⟨rfl, rfl⟩
    go_wp2_with fail
    go_loopw [7, 8] (fun v i wr => ∃ (j m : Nat) (B : Option Addr), j ≤ 63 ∧ i = .int .i64 ((j : Int) - 1) ∧ v = .slice B m m ∧ Own wr w.heap.size B m m (a ^ (k / 2 ^ j)) ∧ Below w.heap.size w wr) (fun _ i _ => (intOf i + 1).toNat)
    case atStart => exact ⟨Limb.bl k, n1, A1, hblk, rfl, rfl, by rw [Limb.upper_top, Nat.pow_zero]; exact o1, b1⟩
    case round =>
      clear o1 b1 l1
      obtain ⟨j, m, B, hj, rfl, rfl, oB, tr⟩ := hrel
      rcases Nat.eq_zero_or_pos j with hj0 | hj0
      · subst hj0
        rw [Nat.pow_zero, Nat.div_one] at oB
        go_wp2_with fail
        go_ret2
        exact ⟨B, m, rfl, oB, tr⟩
      · obtain ⟨i, hi⟩ : ∃ i, j = i + 1 := ⟨j - 1, by omega⟩
        subst hi
        have hii : (((i + 1 : Nat)) : Int) - 1 = (i : Int) := by omega
        rw [hii]
        clear hii hj0
        have hm1 : m ≤ powCap := short_canon oB.nums (hlt.out _ (Nat.div_le_self _ _))
        have hm2 : m ≤ 32769 := by have := hcap.out; omega
        have hU := hide (Limb.upper_step k i)
        have hd2 : k / 2 ^ i % 2 < 2 := Nat.mod_lt _ (by omega)
        have hbit : bits BinOp.and IntKind.i64 ((k : Int) / 2 ^ i) 1 = ((k / 2 ^ i % 2 : Nat) : Int) := by
          have e2 : (k : Int) / 2 ^ i = ((k / 2 ^ i : Nat) : Int) := by rw [Int.natCast_ediv, Int.natCast_pow]; rfl
          rw [e2, i64_low1]; omega
        have hpt := hide (Limb.pow_twice a (k / 2 ^ (i + 1)) (k / 2 ^ i % 2) hd2)
        have hlt2 := hide (hlt.out (k / 2 ^ i) (Nat.div_le_self _ _))
        have hlt3 := hide (hlt.out (k / 2 ^ (i + 1) + k / 2 ^ (i + 1)) (by have := hU.out; have := Nat.div_le_self k (2 ^ i); omega))
        rw [Nat.pow_add] at hlt3
        generalize k / 2 ^ (i + 1) = q at *
        generalize hd : k / 2 ^ i % 2 = dg at *
        have HD := hide hd
        clear hd
        go_wp2_with fail
        refine (mul_any B B m m m m _ _ wr oB.nums (Nat.le_refl _) (by omega) oB.nums (Nat.le_refl _) (by omega) (by omega)).mono ?_
        rintro e w2 ⟨A2, n2, rfl, o2, b2⟩
        rw [Limb.val_canon] at o2
        have ln1 : n2 ≤ powCap := short_canon o2.nums hlt3.out
        have ln2 : n2 ≤ 32769 := by have := hcap.out; omega
        by_cases h1 : dg = 1
        · subst h1
          have hf := hpt.out
          rw [if_pos rfl, ← hU.out] at hf
          have HF := hide hf
          clear hf
          go_wp2_with fail
          refine (mul_any A2 A n2 n2 n c _ xs w2 o2.nums (Nat.le_refl _) (by omega) (hx.below (tr.next b2)) hc hm (by omega)).mono ?_
          rintro e w3 ⟨A3, n3, rfl, o3, b3⟩
          rw [Limb.val_canon, HN.out, ← HF.out] at o3
          go_wp2_with fail
          go_roundw
          case rel => exact ⟨i, n3, A3, by omega, by go_num, rfl, o3.mono (tr.next b2).size, (tr.next b2).next b3⟩
          case measure => simp [intOf] <;> omega
        · have h2 : dg = 0 := by omega
          subst h2
          have hf := hpt.out
          rw [if_neg (by omega), ← hU.out] at hf
          have HF := hide hf
          clear hf
          rw [← HF.out] at o2
          go_wp2_with fail
          go_roundw
          case rel => exact ⟨i, n2, A2, by omega, by go_num, rfl, o2.mono tr.size, tr.next b2⟩
          case measure => simp [intOf] <;> omega
end Go.Proofs.Ytodbhaecomfmgaa
