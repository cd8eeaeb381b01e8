/- plumblineref01.Mul. -/
import Derived.Test.YtpocaopiaggbmaaMulB
namespace Go.Proofs.Ytpocaopiaggbmaa
open Go.RowKit
open Limb (limb limb_lt upto upto_succ upto_all upto_zero)

theorem val_drop_step (ys : List Nat) (j : Nat) (h : j < ys.length) : Limb.val (ys.drop j) = limb ys j + 4294967296 * Limb.val (ys.drop (j + 1)) := by
  rw [List.drop_eq_getElem_cons h]
  unfold limb
  rw [List.getD_eq_getElem?_getD, List.getElem?_eq_getElem h]
  rfl
theorem rmul_alg (X y D : Nat) : 4294967296 * (X * D) + X * y = X * (y + 4294967296 * D) := by
  rw [Nat.mul_add, Nat.mul_left_comm X 4294967296 D]; omega
theorem val_drop_lt (ys : List Nat) (h : Limb.Ok ys) (k : Nat) : Limb.val (ys.drop k) < 4294967296 ^ ys.length := by
  have := Limb.val_lt (ys.drop k) (h.drop k)
  exact Nat.lt_of_lt_of_le this (Limb.pow_mono (by rw [List.length_drop]; omega))

set_option maxHeartbeats 2000000 in
theorem rmul_any (A B : Option Addr) (n c m d : Nat) (xs ys : List Nat) (w : World) (hx : Nums w A n xs) (hy : Nums w B m ys) (hn : n ≤ 137438953472) (hm : m ≤ 137438953472) :
    Calls Try.prog 101 #[.slice A n c, .slice B m d] w (RefPost (Limb.val xs * Limb.val ys) w) := by
  go_enter Try.func101, Try.ntmps101
  go_wp2_with fail
  go_loopw [5, 6] (fun v i wr => ∃ (k n1 c1 : Nat) (A1 : Option Addr), k ≤ m ∧ i = .int .i64 ((k : Int) - 1) ∧ v = .slice A1 n1 c1 ∧ n1 ≤ n + m ∧ n1 ≤ c1 ∧ c1 ≤ 9223372036854775807 ∧ Nums wr A1 n1 (Limb.canon (Limb.val xs * Limb.val (ys.drop k))) ∧ Below w.heap.size w wr) (fun _ i _ => ((intOf i) + 1).toNat)
  case atStart =>
    refine ⟨m, 0, 0, _, Nat.le_refl _, rfl, rfl, by omega, by omega, by omega, ?_, (Below.refl _ _).alloc (Nat.le_refl _) _⟩
    have e : Limb.val xs * Limb.val (ys.drop m) = 0 := by rw [List.drop_of_length_le (by rw [hy.len]; exact Nat.le_refl _)]; simp [Limb.val]
    rw [e]
    exact Nums.nil _ _
  case round =>
    obtain ⟨k, n1, c1, A1, hk, rfl, rfl, hn1, hc1, hc9, hN, hB⟩ := hrel
    rcases Nat.eq_zero_or_pos k with hk0 | hk0
    · subst hk0
      rw [List.drop_zero] at hN
      go_wp2_with fail
      refine (rtrim_any A1 n1 c1 _ wr hN (by omega)).mono ?_
      rintro e w2 ⟨A2, n2, c2, rfl, hN2, h1, h2, hB2⟩
      rw [Limb.val_canon] at hN2
      go_wp2_with fail
      go_ret
      exact ⟨A2, n2, c2, rfl, hN2, h1, h2, hB.next hB2⟩
    · obtain ⟨j, rfl⟩ : ∃ j, k = j + 1 := ⟨k - 1, by omega⟩
      have e1 : (((j + 1 : Nat) : Int) - 1) = (j : Int) := by omega
      rw [e1]
      clear e1 hk0
      generalize hN0 : Limb.val xs * Limb.val (ys.drop (j + 1)) = N at *
      have HN0 := Lib.hid hN0
      clear hN0
      have hlenN := hN.len
      have HLN := Lib.hid hlenN
      clear hlenN
      obtain ⟨wo, rfl⟩ : ∃ wo : World, wo = wr := ⟨_, rfl⟩
      go_wp2_with fail
      go_loopw [7, 8] (fun v i wr => ∃ t : Nat, t ≤ n1 ∧ i = .int .i64 (t : Int) ∧ Lst wr wo.heap.size v (0 :: (Limb.canon N).take t) ∧ Below wo.heap.size wo wr) (fun _ i _ => n1 - (intOf i).toNat)
      case atStart =>
        refine ⟨0, Nat.zero_le _, rfl, ⟨⟨rfl, .inr ⟨wo.heap.size, 1, #[.int .u32 0], rfl, Nat.le_refl _, heap_alloc_new wo _, Nat.le_refl _, by unfold maxLen; omega, rfl, rfl⟩⟩, Limb.Ok.cons (by omega) (by rw [List.take_zero]; exact Limb.Ok.nil)⟩, bl_alloc wo _⟩
      case round =>
        obtain ⟨t, ht, rfl, hL, hB2⟩ := hrel
        by_cases htn : t < n1
        · obtain ⟨b, o, x, rfl, hxl, hxe, hcx⟩ := (hN.below hB2).at_ htn
          have HX := Lib.hid hxe
          clear hxe
          have hlen : (0 :: (Limb.canon N).take t).length ≤ 4398046511104 := by rw [List.length_cons, List.length_take]; omega
          go_wp2_with (at_builtin; refine wpList_append_u32 _ rfl _ _ rfl wo.heap.size _ _ rfl (hL.alloc _) _ x rfl (cell_new _ _ _) hxl hlen (by have := hB2.size; simp; omega) ?_; intro v' w1 hL1 hB1)
          go_roundw
          case rel =>
            refine ⟨t + 1, by omega, by go_num, ?_, (hB2.alloc hB2.size _).trans hB1⟩
            rw [Limb.take_succ_getD _ t (by rw [HLN.out]; omega), ← HX.out]
            exact hL1
          case measure => simp [intOf] <;> omega
        · rw [List.take_of_length_le (by rw [HLN.out]; omega)] at hL
          obtain ⟨A3, c3, rfl, hN3, hc3, hc93⟩ := hL.form
          have e3 : (0 :: Limb.canon N).length = n1 + 1 := by rw [List.length_cons, HLN.out]
          rw [e3]
          rw [e3] at hN3 hc3
          have E3 := Lib.hid e3
          have t2 := hB.next hB2
          obtain ⟨b, o, y, rfl, hyl, hye, hcy⟩ := (hy.below t2).at_ (i := j) (by omega)
          have HY := Lib.hid hye
          clear hye e3 hL
          go_wp2_with fail
          refine (small_any A n c xs y wr (hx.below t2) (by omega) hyl).mono ?_
          rintro e w4 ⟨A4, n4, c4, rfl, hN4, h1, h2, hB4⟩
          have l4 : n4 ≤ n + 1 := by
            rw [← hN4.len]
            exact Limb.canon_len_le _ _ (mul_lt_pow _ _ _ 1 hx.lt (by omega))
          go_wp2_with fail
          refine (radd_any A3 A4 (n1 + 1) c3 n4 c4 _ _ w4 (hN3.below hB4) hN4 (by omega) (by omega)).mono ?_
          rintro e w5 ⟨A5, n5, c5, rfl, hN5, h15, h25, hB5⟩
          have ev : Limb.val (0 :: Limb.canon N) + Limb.val (Limb.canon (Limb.val xs * y)) = Limb.val xs * Limb.val (ys.drop j) := by
            rw [Limb.val_canon, Limb.val_cons, Limb.val_canon, ← HN0.out, val_drop_step ys j (by rw [hy.len]; omega), Nat.zero_add, HY.out]
            exact rmul_alg _ _ _
          rw [ev] at hN5
          clear ev
          go_wp2_with fail
          go_roundw
          case rel =>
            refine ⟨j, n5, c5, A5, by omega, by go_num, rfl, ?_, h15, h25, hN5, (t2.next hB4).next hB5⟩
            rw [← hN5.len]
            have h1 := mul_lt_pow _ _ n m hx.lt (by have := val_drop_lt ys hy.ok j; rwa [hy.len] at this)
            exact Limb.canon_len_le _ _ h1
          case measure => simp [intOf] <;> omega
end Go.Proofs.Ytpocaopiaggbmaa
