/- Texts of one seat, put together: RefDivB. -/
import Derived.Test.YtdeakieenppmiaaGreatDoorC10
set_option linter.unusedVariables false
set_option linter.unusedSimpArgs false
set_option maxRecDepth 100000
set_option maxHeartbeats 16000000
/- plumblineref01.Div. -/
namespace Go.Proofs.YtdeakieenppmiaaGreatDoor
open Go.RowKit

def RDivNoPost (w : World) (e : Ending) (w' : World) : Prop := e = .returned (.tuple #[.slice none 0 0, .slice none 0 0, .int .i64 10]) ∧ Below w.heap.size w w'
def RDivYesPost (Q R : Nat) (w : World) (e : Ending) (w' : World) : Prop := ∃ A n c B m d, e = .returned (.tuple #[.slice A n c, .slice B m d, .int .i64 0]) ∧ Nums w' A n (Limb.canon Q) ∧ n ≤ c ∧ c ≤ 9223372036854775807 ∧ Nums w' B m (Limb.canon R) ∧ m ≤ d ∧ d ≤ 9223372036854775807 ∧ Below w.heap.size w w'

def RDivRel (w : World) (N M k : Nat) (q r : Value) (wr : World) : Prop :=
 ∃ Q R A1 n1 c1 A2 n2 c2, q = .slice A1 n1 c1 ∧ r = .slice A2 n2 c2 ∧ Nums wr A1 n1 (Limb.canon Q) ∧ n1 ≤ c1 ∧ c1 ≤ 9223372036854775807 ∧ Nums wr A2 n2 (Limb.canon R) ∧ n2 ≤ c2 ∧ c2 ≤ 9223372036854775807 ∧ Below w.heap.size w wr ∧ Hid (N / 2 ^ k = Q * M + R ∧ R < M)

theorem bitN_digit (u : Nat) : bitN (decide (u % 2 = 1)) = u % 2 := by
 unfold bitN
 by_cases h : u % 2 = 1
 · simp [h]
 · simp [h]; omega
theorem bitN_le (b : Bool) : bitN b ≤ 1 := by cases b <;> simp [bitN]
theorem quo_le {u Q M R : Nat} (h : u = Q * M + R) (hR : R < M) : Q ≤ u := by
 have : Q * 1 ≤ Q * M := Nat.mul_le_mul_left Q (by omega)
 omega
theorem upper_le (N k : Nat) : N / 2 ^ k ≤ N := Nat.div_le_self _ _
theorem twice_lt (R e M m : Nat) (hR : R < M) (he : e ≤ 1) (hM : M < 4294967296 ^ m) : 2 * R + e < 4294967296 ^ (m + 1) := by
 rw [Nat.pow_succ]
 omega

theorem rdiv_yes (A B : Option Addr) (n c m d : Nat) (xs ys : List Nat) (w : World) (hx : Nums w A n xs) (hn : n ≤ 1099511626) (hy : Nums w B m ys) (hm : m ≤ 1099511626) (h0 : Limb.val ys ≠ 0) :
  Calls Tryz.prog 81 #[.slice A n c, .slice B m d] w (RDivYesPost (Limb.val xs / Limb.val ys) (Limb.val xs % Limb.val ys) w) := by
 have h00 := hide h0
 have hxl := hide hx.lt
 have hyl := hide hy.lt
 clear h0
 go_enter Tryz.func81, Tryz.ntmps81
 go_wp2_with fail
 refine (rtrim_any B m d ys w hy (by omega)).mono ?_
 rintro e w1 ⟨A1, n1, c1, rfl, o1, l1, m1, b1⟩
 have hn1 : ((n1 : Int) == 0) = false := by
  have : n1 ≠ 0 := fun h => h00.out ((Limb.canon_len_zero _).1 (by rw [o1.len]; exact h))
  simp; omega
 have t1 := b1.next ((bl_alloc w1 (.cells #[] 92)).next (bl_alloc (w1.alloc (.cells #[] 92)) (.cells #[] 92)))
 clear o1 l1 m1
 go_wp2_with fail
 refine (rbits_any A n c xs _ (hx.below t1) (by omega)).mono ?_
 rintro e w2 ⟨rfl, b2⟩
 have t2 := t1.next b2
 have hbn : Limb.bl (Limb.val xs) ≤ 32 * n := Limb.bl_le _ _ (by rw [← Limb.two_pow32]; exact hxl.out)
 generalize hN : Limb.val xs = N at *
 generalize hM : Limb.val ys = M at *
 have HN := hide hN
 have HM := hide hM
 clear hN hM
 go_wp2_with fail
 go_loopw [7, 8, 9] (fun q r i wr => ∃ k : Nat, k ≤ 32 * n ∧ i = .int .i64 ((k : Int) - 1) ∧ RDivRel w N M k q r wr) (fun _ _ i _ => (intOf i + 1).toNat)
 case atStart => exact ⟨Limb.bl N, hbn, rfl, 0, 0, _, 0, 0, _, 0, 0, rfl, rfl, Nums.nil _ _, by omega, by omega, Nums.nil _ _, by omega, by omega, t2, hide ⟨by rw [Limb.upper_top, Nat.zero_mul], Nat.pos_of_ne_zero h00.out⟩⟩
 case round =>
  obtain ⟨k, hk, rfl, Q, R, A1, n1, c1, A2, n2, c2, rfl, rfl, o1, l1, m1, o2, l2, m2, tr, HQ⟩ := hrel
  have ln1 : n1 ≤ n := short_canon o1 (Nat.lt_of_le_of_lt (Nat.le_trans (quo_le HQ.out.1 HQ.out.2) (upper_le N k)) hxl.out)
  have ln2 : n2 ≤ m := short_canon o2 (Nat.lt_trans HQ.out.2 hyl.out)
  rcases Nat.eq_zero_or_pos k with hk0 | hk0
  · subst hk0
    have hq := hide (Limb.quo_done _ _ _ _ HQ.out.1 HQ.out.2)
    go_wp2_with fail
    refine (rtrim_any A1 n1 c1 _ wr o1 (by omega)).mono ?_
    rintro e w3 ⟨A3, n3, c3, rfl, o3, l3, m3, b3⟩
    go_wp2_with fail
    refine (rtrim_any A2 n2 c2 _ w3 (o2.below b3) (by omega)).mono ?_
    rintro e w4 ⟨A4, n4, c4, rfl, o4, l4, m4, b4⟩
    go_wp2_with fail
    go_ret3
    rw [Limb.val_canon, hq.out.1] at o3
    rw [Limb.val_canon, hq.out.2] at o4
    simp only [Nat.pow_zero, Nat.div_one] at o3 o4
    exact ⟨A3, n3, c3, A4, n4, c4, rfl, o3.below b4, l3, m3, o4, l4, m4, (tr.next b3).next b4⟩
  · obtain ⟨j, hj⟩ : ∃ j, k = j + 1 := ⟨k - 1, by omega⟩
    subst hj
    have hjj : (((j + 1 : Nat)) : Int) - 1 = (j : Int) := by omega
    rw [hjj]
    clear hjj hk0
    go_wp2_with fail
    refine (rbit_any A n c xs j wr (hx.below tr) (by omega) (by omega)).mono ?_
    rintro e w3 ⟨rfl, k3, rfl⟩
    rw [HN.out]
    have d3 := bl_drewN wr k3
    have he := bitN_digit (N / 2 ^ j)
    have he1 := bitN_le (decide (N / 2 ^ j % 2 = 1))
    generalize decide (N / 2 ^ j % 2 = 1) = bt at he he1 ⊢
    have HU := Limb.upper_step N j
    rw [← he] at HU
    have HU := hide HU
    have hR1 := hide (twice_lt R (bitN bt) M m HQ.out.2 he1 hyl.out)
    clear he
    go_wp2_with fail
    refine (rtwice_any A2 n2 c2 _ bt _ (o2.below d3) l2 m2 (by omega)).mono ?_
    rintro e w4 ⟨A4, n4, c4, rfl, o4, l4, m4, b4⟩
    rw [Limb.val_canon] at o4
    have ln4 : n4 ≤ m + 1 := short_canon o4 hR1.out
    have t4 := (tr.next d3).next b4
    have o1a := o1.below (d3.next b4)
    clear o1 o2 tr d3 b4 hR1
    by_cases hle : M ≤ 2 * R + bitN bt
    · have HS := hide (Limb.quo_yes _ _ _ _ _ HQ.out.1 HQ.out.2 he1 hle)
      go_wp2_with fail
      refine (rsub_yes A4 B n4 c4 m d _ ys w4 o4 (hy.below t4) (by omega) (by omega) (by rw [Limb.val_canon, HM.out]; exact hle)).mono ?_
      rintro e w5 ⟨A5, n5, c5, rfl, o5, l5, m5, b5⟩
      rw [Limb.val_canon, HM.out] at o5
      have t5 := t4.next b5
      go_wp2_with fail
      refine (rtwice_any A1 n1 c1 _ true w5 (o1a.below b5) l1 m1 (by omega)).mono ?_
      rintro e w6 ⟨A6, n6, c6, rfl, o6, l6, m6, b6⟩
      rw [Limb.val_canon] at o6
      go_wp2_with fail
      go_roundw
      case rel => exact ⟨j, by omega, by go_num, _, _, A6, n6, c6, A5, n5, c5, rfl, rfl, o6, l6, m6, o5.below b6, l5, m5, t5.next b6, hide ⟨HU.out.trans HS.out.1, HS.out.2⟩⟩
      case measure => simp [intOf] <;> omega
    · have HS := hide (Limb.quo_no _ _ _ _ _ HQ.out.1 (by omega : 2 * R + bitN bt < M))
      go_wp2_with fail
      refine (rsub_no A4 B n4 c4 m d _ ys w4 o4 (hy.below t4) (by omega) (by omega) (by rw [Limb.val_canon, HM.out]; omega)).mono ?_
      rintro e w5 ⟨rfl, rfl⟩
      go_wp2_with fail
      refine (rtwice_any A1 n1 c1 _ false w4 o1a l1 m1 (by omega)).mono ?_
      rintro e w6 ⟨A6, n6, c6, rfl, o6, l6, m6, b6⟩
      rw [Limb.val_canon] at o6
      go_wp2_with fail
      go_roundw
      case rel => exact ⟨j, by omega, by go_num, _, _, A6, n6, c6, A4, n4, c4, rfl, rfl, o6, l6, m6, o4.below b6, l4, m4, t4.next b6, hide ⟨HU.out.trans HS.out.1, HS.out.2⟩⟩
      case measure => simp [intOf] <;> omega
end Go.Proofs.YtdeakieenppmiaaGreatDoor
