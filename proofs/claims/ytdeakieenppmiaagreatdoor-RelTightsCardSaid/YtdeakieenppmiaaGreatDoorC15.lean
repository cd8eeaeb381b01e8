/- Texts of one seat, put together: RefZ TermMath PartMem. -/
import Derived.Test.YtdeakieenppmiaaGreatDoorC11
import Derived.Test.YtdeakieenppmiaaGreatDoorC14
import Derived.Test.YtdeakieenppmiaaGreatDoorC05
import Derived.Test.YtdeakieenppmiaaGreatDoorC01
set_option linter.unusedVariables false
set_option linter.unusedSimpArgs false
set_option maxRecDepth 100000
set_option maxHeartbeats 16000000
/- plumblineref02: From, Clean, Sign, Neg, Abs, Add, Sub, Cmp, Mul, Same; the statements' same and short. -/
namespace Go.Proofs.YtdeakieenppmiaaGreatDoor
open Go.RowKit
open Limb (limb limb_lt upto upto_succ upto_all upto_zero)

theorem rfrom_any (s : Bool) (A : Option Addr) (n c k : Nat) (xs : List Nat) (w : World) (hx : Nums w A n xs) (hk : n ≤ k) (hb : k ≤ 1099511627776) :
   Calls Tryz.prog 63 #[.bool s, .slice A n c] w (ZPost (sg s (Limb.val xs)) k w) := by
 have hlt := hide hx.lt
 obtain ⟨z1, z2, -⟩ := zstart1 w #[.bool false, .slice none 0 0]
 have ht := rtrim_any A n c xs _ (hx.below z2) (by omega)
 generalize Limb.val xs = N at *
 by_cases h0 : N = 0
 · subst h0
   go_enter Tryz.func63, Tryz.ntmps63
   go_wp2_with fail
   refine ht.mono ?_
   rintro e w1 ⟨A1, n1, c1, rfl, o1, l1, m1, b1⟩
   obtain rfl : n1 = 0 := by rw [← o1.len]; rfl
   have k1 := z1.next b1
   go_wp2_with (with_reducible refine wpList_store_z rfl _ _ rfl w.heap.size _ _ _ _ rfl rfl _ _ k1 ?_; intro w3 k3 ho3)
   refine bodyPost_z rfl rfl k3 rfl ?_
   exact ⟨_, rfl, by rw [sg_zero]; exact ZRes.zero _ _, zback (z2.next b1) (Nat.le_refl _) ho3⟩
 · have HP := hide (Nat.pos_of_ne_zero h0)
   go_enter Tryz.func63, Tryz.ntmps63
   go_wp2_with fail
   refine ht.mono ?_
   rintro e w1 ⟨A1, n1, c1, rfl, o1, l1, m1, b1⟩
   have hn1 : ((n1 : Int) == 0) = false := by
    have : n1 ≠ 0 := fun h => h0 ((Limb.canon_len_zero _).1 (by rw [o1.len]; exact h))
    simp; omega
   have hl1 : n1 ≤ n := short_canon o1 hlt.out
   have k1 := z1.next b1
   clear h0
   go_wp2_with (with_reducible refine wpList_store_z rfl _ _ rfl w.heap.size _ _ _ _ rfl rfl _ _ k1 ?_; intro w3 k3 ho3)
   refine bodyPost_z rfl rfl k3 rfl ?_
   exact ⟨_, rfl, ⟨A1, n1, c1, by rw [sg_neg s N HP.out], by rw [sg_natAbs]; exact o1.keepBlk k1 ho3, l1, m1, by omega⟩, zback (z2.next b1) (Nat.le_refl _) ho3⟩

theorem clean_z (v : Value) (Z : Int) (k : Nat) (w : World) (hv : ZIn w v Z k) (hk : k ≤ 1099511627776) : Calls Tryz.prog 44 #[v] w (ZPost Z k w) := by
 obtain ⟨s, A, n, c, xs, rfl, hx, hc, hm, hn, rfl⟩ := hv
 obtain ⟨z0, z1, z2, -⟩ := zstart2 w #[.bool s, .slice A n c] #[.bool false, .slice none 0 0]
 have hf := rfrom_any s A n c k xs _ (hx.below z2) hn hk
 skip
 go_enter Tryz.func44, Tryz.ntmps44
 go_wp2_with fail
 refine hf.mono ?_
 rintro e w1 ⟨v1, rfl, r1, b1⟩
 obtain ⟨s1, A1, n1, c1, rfl⟩ := r1.form
 have k1 := z1.next b1
 go_wp2_with (with_reducible refine wpList_store_z rfl _ _ rfl (w.heap.size + 1) _ _ _ _ rfl rfl _ _ k1 ?_; intro w3 k3 ho3)
 refine bodyPost_z rfl rfl k3 rfl ?_
 exact ⟨_, rfl, r1.only k1 ho3, zback (z2.next b1) (by omega) ho3⟩
theorem rneg_z (v : Value) (Z : Int) (k : Nat) (w : World) (hv : ZIn w v Z k) (hk : k ≤ 1099511627776) : Calls Tryz.prog 127 #[v] w (ZPost (-Z) k w) := by
 obtain ⟨s, A, n, c, xs, rfl, hx, hc, hm, hn, rfl⟩ := hv
 obtain ⟨z0, z1, z2, -⟩ := zstart2 w #[.bool s, .slice A n c] #[.bool false, .slice none 0 0]
 have hf := rfrom_any (!s) A n c k xs _ (hx.below z2) hn hk
 rw [sg_not] at hf
 go_enter Tryz.func127, Tryz.ntmps127
 go_wp2_with fail
 refine hf.mono ?_
 rintro e w1 ⟨v1, rfl, r1, b1⟩
 obtain ⟨s1, A1, n1, c1, rfl⟩ := r1.form
 have k1 := z1.next b1
 go_wp2_with (with_reducible refine wpList_store_z rfl _ _ rfl (w.heap.size + 1) _ _ _ _ rfl rfl _ _ k1 ?_; intro w3 k3 ho3)
 refine bodyPost_z rfl rfl k3 rfl ?_
 exact ⟨_, rfl, r1.only k1 ho3, zback (z2.next b1) (by omega) ho3⟩
def RSignPost (Z : Int) (w : World) (e : Ending) (w' : World) : Prop := e = .returned (.int .i64 Z.sign) ∧ Below w.heap.size w w'
theorem rsign_z (v : Value) (Z : Int) (k : Nat) (w : World) (hv : ZIn w v Z k) (hk : k ≤ 1099511627776) : Calls Tryz.prog 38 #[v] w (RSignPost Z w) := by
 obtain ⟨s, A, n, c, xs, rfl, hx, hc, hm, hn, rfl⟩ := hv
 obtain ⟨z1, z2, -⟩ := zstart1 w #[.bool s, .slice A n c]
 have ht := rtrim_any A n c xs _ (hx.below z2) (by omega)
 generalize Limb.val xs = N at *
 by_cases h0 : N = 0
 · subst h0
   rw [sg_zero]
   go_enter Tryz.func38, Tryz.ntmps38
   go_wp2_with fail
   refine ht.mono ?_
   rintro e w1 ⟨A1, n1, c1, rfl, o1, l1, m1, b1⟩
   obtain rfl : n1 = 0 := by rw [← o1.len]; rfl
   go_wp2_with fail
   go_ret
   exact ⟨rfl, z2.next b1⟩
 · cases s with
   | true =>
    have hs : Hid (Int.sign (sg true N) = -1) := by show _ = _; rw [sg_true]; exact Int.sign_eq_neg_one_of_neg (by omega)
    go_enter Tryz.func38, Tryz.ntmps38
    go_wp2_with fail
    refine ht.mono ?_
    rintro e w1 ⟨A1, n1, c1, rfl, o1, l1, m1, b1⟩
    have hn1 : ((n1 : Int) == 0) = false := by
     have : n1 ≠ 0 := fun h => h0 ((Limb.canon_len_zero _).1 (by rw [o1.len]; exact h))
     simp; omega
    have x1 := (z1.next b1).c0
    clear h0
    go_wp2_with fail
    go_ret
    exact ⟨by rw [hs.out]; rfl, z2.next b1⟩
   | false =>
    have hs : Hid (Int.sign (sg false N) = 1) := by show _ = _; rw [sg_false]; exact Int.sign_eq_one_of_pos (by omega)
    go_enter Tryz.func38, Tryz.ntmps38
    go_wp2_with fail
    refine ht.mono ?_
    rintro e w1 ⟨A1, n1, c1, rfl, o1, l1, m1, b1⟩
    have hn1 : ((n1 : Int) == 0) = false := by
     have : n1 ≠ 0 := fun h => h0 ((Limb.canon_len_zero _).1 (by rw [o1.len]; exact h))
     simp; omega
    have x1 := (z1.next b1).c0
    clear h0
    go_wp2_with fail
    go_ret
    exact ⟨by rw [hs.out]; rfl, z2.next b1⟩

theorem ZIn.abs {s : Bool} {Z : Int} {N : Nat} (h : Z = sg s N) : N = Z.natAbs := by rw [h, sg_natAbs]
theorem rzadd_main (v u : Value) (Z Y : Int) (k : Nat) (w : World) (hv : ZIn w v Z k) (hu : ZIn w u Y k) (hk : k ≤ 137438953472) (hno : ¬ (Z < 0 ∧ 0 ≤ Y)) :
   Calls Tryz.prog 84 #[v, u] w (ZPost (Z + Y) (k + 1) w) := by
 have hlv := hide hv.lt
 have hlu := hide hu.lt
 have hv0 := hv
 have hu0 := hu
 obtain ⟨s, A, n, c, xs, rfl, hx, hc, hm, hn, hZ⟩ := hv
 obtain ⟨t, B, m, d, ys, rfl, hy, hd, hmd, hmk, hY⟩ := hu
 have HN := hide (ZIn.abs hZ)
 have HM := hide (ZIn.abs hY)
 clear hZ hY
 obtain ⟨x0, y0, r0, z2, -⟩ := zstart3 w #[.bool s, .slice A n c] #[.bool t, .slice B m d] #[.bool false, .slice none 0 0]
 by_cases hz : Z < 0
 · have hy0 : Y < 0 := by omega
   have hE := hide (show sg true (Z.natAbs + Y.natAbs) = Z + Y by rw [sg_true]; omega)
   have hz2 := Int.sign_neg_iff.2 hz
   have hy2 := Int.sign_neg_iff.2 hy0
   clear hno
   go_enter Tryz.func84, Tryz.ntmps84
   go_wp2_with fail
   refine (rsign_z _ Z k _ (hv0.below z2) (by omega)).mono ?_
   rintro e w1 ⟨rfl, b1⟩
   have t1 := z2.next b1
   have x1 := x0.next b1
   have y1 := y0.next b1
   have x1a := x1.c0
   have x1b := x1.c1
   have y1a := y1.c0
   have y1b := y1.c1
   go_wp2_with fail
   refine (rsign_z _ Y k w1 (hu0.below t1) (by omega)).mono ?_
   rintro e w2 ⟨rfl, b2⟩
   have t2 := t1.next b2
   have x2 := x1.next b2
   have y2 := y1.next b2
   have x2a := x2.c0
   have x2b := x2.c1
   have y2a := y2.c0
   have y2b := y2.c1
   go_wp2_with fail
   refine (radd_any A B n c m d xs ys w2 (hx.below t2) (hy.below t2) (by omega) (by omega)).mono ?_
   rintro e w3 ⟨A5, n5, c5, rfl, o5, l5, m5, b3⟩
   rw [HN.out, HM.out] at o5
   have ln5 : n5 ≤ k + 1 := short_canon o5 (add_lt _ _ _ hlv.out hlu.out)
   go_wp2_with fail
   refine (rfrom_any true A5 n5 c5 (k + 1) _ w3 o5 ln5 (by omega)).mono ?_
   rintro e w4 ⟨v6, rfl, z6, b4⟩
   rw [Limb.val_canon, hE.out] at z6
   obtain ⟨s6, A6, n6, c6, rfl⟩ := z6.form
   have k6 := ((((r0.next b1).next b2).next b3).next b4)
   go_wp2_with (with_reducible refine wpList_store_z rfl _ _ rfl (w.heap.size + 1 + 1) _ _ _ _ rfl rfl _ _ k6 ?_; intro w9 k9 ho9)
   refine bodyPost_z rfl rfl k9 rfl ?_
   exact ⟨_, rfl, z6.only k6 ho9, zback ((t2.next b3).next b4) (by omega) ho9⟩
 · have hz2 : 0 ≤ Z.sign := Int.sign_nonneg_iff.2 (by omega)
   by_cases hy0 : Y < 0
   · have hy2 := Int.sign_neg_iff.2 hy0
     by_cases hle : Y.natAbs ≤ Z.natAbs
     · have hE := hide (show sg false (Z.natAbs - Y.natAbs) = Z + Y by rw [sg_false]; omega)
       have hl := hide (show Z.natAbs - Y.natAbs < 4294967296 ^ (k + 1) from Nat.lt_of_le_of_lt (Nat.sub_le _ _) (Nat.lt_of_lt_of_le hlv.out (Limb.pow_mono (by omega))))
       have hle' := hide hle
       clear hno hle
       go_enter Tryz.func84, Tryz.ntmps84
       go_wp2_with fail
       refine (rsign_z _ Z k _ (hv0.below z2) (by omega)).mono ?_
       rintro e w1 ⟨rfl, b1⟩
       have t1 := z2.next b1
       have x1 := x0.next b1
       have y1 := y0.next b1
       have x1a := x1.c0
       have x1b := x1.c1
       have y1a := y1.c0
       have y1b := y1.c1
       go_wp2_with fail
       refine (rsign_z _ Z k w1 (hv0.below t1) (by omega)).mono ?_
       rintro e w2 ⟨rfl, b2⟩
       have t2 := t1.next b2
       have x2 := x1.next b2
       have y2 := y1.next b2
       have x2a := x2.c0
       have x2b := x2.c1
       have y2a := y2.c0
       have y2b := y2.c1
       go_wp2_with fail
       refine (rsign_z _ Y k w2 (hu0.below t2) (by omega)).mono ?_
       rintro e w3 ⟨rfl, b3⟩
       have t3 := t2.next b3
       have x3 := x2.next b3
       have y3 := y2.next b3
       have x3a := x3.c0
       have x3b := x3.c1
       have y3a := y3.c0
       have y3b := y3.c1
       go_wp2_with fail
       refine (rsign_z _ Z k w3 (hv0.below t3) (by omega)).mono ?_
       rintro e w4 ⟨rfl, b4⟩
       have t4 := t3.next b4
       have x4 := x3.next b4
       have y4 := y3.next b4
       have x4a := x4.c0
       have x4b := x4.c1
       have y4a := y4.c0
       have y4b := y4.c1
       go_wp2_with fail
       refine (rsub_yes A B n c m d xs ys w4 (hx.below t4) (hy.below t4) (by omega) (by omega) (by rw [HN.out, HM.out]; exact hle'.out)).mono ?_
       rintro e w5 ⟨A5, n5, c5, rfl, o5, l5, m5, b5⟩
       rw [HN.out, HM.out] at o5
       have ln5 : n5 ≤ k + 1 := short_canon o5 hl.out
       go_wp2_with fail
       refine (rfrom_any false A5 n5 c5 (k + 1) _ w5 o5 ln5 (by omega)).mono ?_
       rintro e w6 ⟨v6, rfl, z6, b6⟩
       rw [Limb.val_canon, hE.out] at z6
       obtain ⟨s6, A6, n6, c6, rfl⟩ := z6.form
       have k6 := ((((((r0.next b1).next b2).next b3).next b4).next b5).next b6)
       go_wp2_with (with_reducible refine wpList_store_z rfl _ _ rfl (w.heap.size + 1 + 1) _ _ _ _ rfl rfl _ _ k6 ?_; intro w9 k9 ho9)
       refine bodyPost_z rfl rfl k9 rfl ?_
       exact ⟨_, rfl, z6.only k6 ho9, zback ((t4.next b5).next b6) (by omega) ho9⟩
     · have hE := hide (show sg true (Y.natAbs - Z.natAbs) = Z + Y by rw [sg_true]; omega)
       have hl := hide (show Y.natAbs - Z.natAbs < 4294967296 ^ (k + 1) from Nat.lt_of_le_of_lt (Nat.sub_le _ _) (Nat.lt_of_lt_of_le hlu.out (Limb.pow_mono (by omega))))
       have hle' := hide (show Z.natAbs < Y.natAbs by omega)
       clear hno hle
       go_enter Tryz.func84, Tryz.ntmps84
       go_wp2_with fail
       refine (rsign_z _ Z k _ (hv0.below z2) (by omega)).mono ?_
       rintro e w1 ⟨rfl, b1⟩
       have t1 := z2.next b1
       have x1 := x0.next b1
       have y1 := y0.next b1
       have x1a := x1.c0
       have x1b := x1.c1
       have y1a := y1.c0
       have y1b := y1.c1
       go_wp2_with fail
       refine (rsign_z _ Z k w1 (hv0.below t1) (by omega)).mono ?_
       rintro e w2 ⟨rfl, b2⟩
       have t2 := t1.next b2
       have x2 := x1.next b2
       have y2 := y1.next b2
       have x2a := x2.c0
       have x2b := x2.c1
       have y2a := y2.c0
       have y2b := y2.c1
       go_wp2_with fail
       refine (rsign_z _ Y k w2 (hu0.below t2) (by omega)).mono ?_
       rintro e w3 ⟨rfl, b3⟩
       have t3 := t2.next b3
       have x3 := x2.next b3
       have y3 := y2.next b3
       have x3a := x3.c0
       have x3b := x3.c1
       have y3a := y3.c0
       have y3b := y3.c1
       go_wp2_with fail
       refine (rsign_z _ Z k w3 (hv0.below t3) (by omega)).mono ?_
       rintro e w4 ⟨rfl, b4⟩
       have t4 := t3.next b4
       have x4 := x3.next b4
       have y4 := y3.next b4
       have x4a := x4.c0
       have x4b := x4.c1
       have y4a := y4.c0
       have y4b := y4.c1
       go_wp2_with fail
       refine (rsub_no A B n c m d xs ys w4 (hx.below t4) (hy.below t4) (by omega) (by omega) (by rw [HN.out, HM.out]; exact hle'.out)).mono ?_
       rintro e w' ⟨rfl, rfl⟩
       go_wp2_with fail
       refine (rsub_yes B A m d n c ys xs w4 (hy.below t4) (hx.below t4) (by omega) (by omega) (by rw [HN.out, HM.out]; exact Nat.le_of_lt hle'.out)).mono ?_
       rintro e w5 ⟨A5, n5, c5, rfl, o5, l5, m5, b5⟩
       rw [HN.out, HM.out] at o5
       have ln5 : n5 ≤ k + 1 := short_canon o5 hl.out
       go_wp2_with fail
       refine (rfrom_any true A5 n5 c5 (k + 1) _ w5 o5 ln5 (by omega)).mono ?_
       rintro e w6 ⟨v6, rfl, z6, b6⟩
       rw [Limb.val_canon, hE.out] at z6
       obtain ⟨s6, A6, n6, c6, rfl⟩ := z6.form
       have k6 := ((((((r0.next b1).next b2).next b3).next b4).next b5).next b6)
       go_wp2_with (with_reducible refine wpList_store_z rfl _ _ rfl (w.heap.size + 1 + 1) _ _ _ _ rfl rfl _ _ k6 ?_; intro w9 k9 ho9)
       refine bodyPost_z rfl rfl k9 rfl ?_
       exact ⟨_, rfl, z6.only k6 ho9, zback ((t4.next b5).next b6) (by omega) ho9⟩
   · have hy2 : 0 ≤ Y.sign := Int.sign_nonneg_iff.2 (by omega)
     have hE := hide (show sg false (Z.natAbs + Y.natAbs) = Z + Y by rw [sg_false]; omega)
     clear hno
     go_enter Tryz.func84, Tryz.ntmps84
     go_wp2_with fail
     refine (rsign_z _ Z k _ (hv0.below z2) (by omega)).mono ?_
     rintro e w1 ⟨rfl, b1⟩
     have t1 := z2.next b1
     have x1 := x0.next b1
     have y1 := y0.next b1
     have x1a := x1.c0
     have x1b := x1.c1
     have y1a := y1.c0
     have y1b := y1.c1
     go_wp2_with fail
     refine (rsign_z _ Z k w1 (hv0.below t1) (by omega)).mono ?_
     rintro e w2 ⟨rfl, b2⟩
     have t2 := t1.next b2
     have x2 := x1.next b2
     have y2 := y1.next b2
     have x2a := x2.c0
     have x2b := x2.c1
     have y2a := y2.c0
     have y2b := y2.c1
     go_wp2_with fail
     refine (rsign_z _ Y k w2 (hu0.below t2) (by omega)).mono ?_
     rintro e w3 ⟨rfl, b3⟩
     have t3 := t2.next b3
     have x3 := x2.next b3
     have y3 := y2.next b3
     have x3a := x3.c0
     have x3b := x3.c1
     have y3a := y3.c0
     have y3b := y3.c1
     go_wp2_with fail
     refine (radd_any A B n c m d xs ys w3 (hx.below t3) (hy.below t3) (by omega) (by omega)).mono ?_
     rintro e w4 ⟨A5, n5, c5, rfl, o5, l5, m5, b4⟩
     rw [HN.out, HM.out] at o5
     have ln5 : n5 ≤ k + 1 := short_canon o5 (add_lt _ _ _ hlv.out hlu.out)
     go_wp2_with fail
     refine (rfrom_any false A5 n5 c5 (k + 1) _ w4 o5 ln5 (by omega)).mono ?_
     rintro e w5 ⟨v6, rfl, z6, b5⟩
     rw [Limb.val_canon, hE.out] at z6
     obtain ⟨s6, A6, n6, c6, rfl⟩ := z6.form
     have k6 := (((((r0.next b1).next b2).next b3).next b4).next b5)
     go_wp2_with (with_reducible refine wpList_store_z rfl _ _ rfl (w.heap.size + 1 + 1) _ _ _ _ rfl rfl _ _ k6 ?_; intro w9 k9 ho9)
     refine bodyPost_z rfl rfl k9 rfl ?_
     exact ⟨_, rfl, z6.only k6 ho9, zback ((t3.next b4).next b5) (by omega) ho9⟩
theorem rzadd_z (v u : Value) (Z Y : Int) (k : Nat) (w : World) (hv : ZIn w v Z k) (hu : ZIn w u Y k) (hk : k ≤ 137438953472) :
   Calls Tryz.prog 84 #[v, u] w (ZPost (Z + Y) (k + 1) w) := by
 by_cases hno : Z < 0 ∧ 0 ≤ Y
 · have hz2 := Int.sign_neg_iff.2 hno.1
   have hy2 : 0 ≤ Y.sign := Int.sign_nonneg_iff.2 hno.2
   have hno' : ¬ (Y < 0 ∧ 0 ≤ Z) := by omega
   have hz := hno.1
   have hy0 := hno.2
   have hv0 := hv
   have hu0 := hu
   obtain ⟨s, A, n, c, xs, rfl, -⟩ := hv
   obtain ⟨t, B, m, d, ys, rfl, -⟩ := hu
   obtain ⟨x0, y0, r0, z2, -⟩ := zstart3 w #[.bool s, .slice A n c] #[.bool t, .slice B m d] #[.bool false, .slice none 0 0]
   clear hno
   go_enter Tryz.func84, Tryz.ntmps84
   go_wp2_with fail
   refine (rsign_z _ Z k _ (hv0.below z2) (by omega)).mono ?_
   rintro e w1 ⟨rfl, b1⟩
   have t1 := z2.next b1
   have x1 := x0.next b1
   have y1 := y0.next b1
   have x1a := x1.c0
   have x1b := x1.c1
   have y1a := y1.c0
   have y1b := y1.c1
   go_wp2_with fail
   refine (rsign_z _ Y k w1 (hu0.below t1) (by omega)).mono ?_
   rintro e w2 ⟨rfl, b2⟩
   have t2 := t1.next b2
   have x2 := x1.next b2
   have y2 := y1.next b2
   have x2a := x2.c0
   have x2b := x2.c1
   have y2a := y2.c0
   have y2b := y2.c1
   go_wp2_with fail
   refine (rsign_z _ Z k w2 (hv0.below t2) (by omega)).mono ?_
   rintro e w3 ⟨rfl, b3⟩
   have t3 := t2.next b3
   have x3 := x2.next b3
   have y3 := y2.next b3
   have x3a := x3.c0
   have x3b := x3.c1
   have y3a := y3.c0
   have y3b := y3.c1
   go_wp2_with fail
   refine (rsign_z _ Z k w3 (hv0.below t3) (by omega)).mono ?_
   rintro e w4 ⟨rfl, b4⟩
   have t4 := t3.next b4
   have x4 := x3.next b4
   have y4 := y3.next b4
   have x4a := x4.c0
   have x4b := x4.c1
   have y4a := y4.c0
   have y4b := y4.c1
   have hmain := rzadd_main _ _ Y Z k w4 (hu0.below t4) (hv0.below t4) hk hno'
   rw [Int.add_comm] at hmain
   go_wp2_with fail
   refine hmain.mono ?_
   rintro e w5 ⟨v6, rfl, z6, b5⟩
   obtain ⟨s6, A6, n6, c6, rfl⟩ := z6.form
   have k6 := (((((r0.next b1).next b2).next b3).next b4).next b5)
   go_wp2_with (with_reducible refine wpList_store_z rfl _ _ rfl (w.heap.size + 1 + 1) _ _ _ _ rfl rfl _ _ k6 ?_; intro w9 k9 ho9)
   refine bodyPost_z rfl rfl k9 rfl ?_
   exact ⟨_, rfl, z6.only k6 ho9, zback (t4.next b5) (by omega) ho9⟩
 · exact rzadd_main v u Z Y k w hv hu hk hno
end Go.Proofs.YtdeakieenppmiaaGreatDoor
/- Linear terms as lists of a variable and its coefficient, on plain numbers: what a variable counts, plain lists, values. -/
namespace Go.Proofs.YtdeakieenppmiaaGreatDoor.Tm

/-- How often variable v counts. -/
def coef : List (Int × Int) → Int → Int
 | [], _ => 0
 | (u, c) :: ps, v => (if u = v ∧ 0 ≤ v then c else 0) + coef ps v
theorem coef_nil (v : Int) : coef [] v = 0 := rfl
theorem coef_neg (ps : List (Int × Int)) (v : Int) (h : v < 0) : coef ps v = 0 := by
 induction ps with
 | nil => rfl
 | cons p ps ih =>
  obtain ⟨u, c⟩ := p
  rw [coef, ih, if_neg (by omega)]; rfl
theorem coef_append (ps qs : List (Int × Int)) (v : Int) : coef (ps ++ qs) v = coef ps v + coef qs v := by
 induction ps with
 | nil => rw [List.nil_append, coef_nil, Int.zero_add]
 | cons p ps ih =>
  obtain ⟨u, c⟩ := p
  rw [List.cons_append, coef, coef, ih, Int.add_assoc]
theorem coef_perm {ps qs : List (Int × Int)} (h : ps.Perm qs) (v : Int) : coef ps v = coef qs v := by
 induction h with
 | nil => rfl
 | cons p _ ih => obtain ⟨u, c⟩ := p; rw [coef, coef, ih]
 | swap p q l =>
  obtain ⟨u, c⟩ := p; obtain ⟨u', c'⟩ := q
  simp only [coef]; omega
 | trans _ _ ih1 ih2 => rw [ih1, ih2]
theorem coef_scale (n : Int) (ps : List (Int × Int)) (v : Int) : coef (ps.map fun p => (p.1, n * p.2)) v = n * coef ps v := by
 induction ps with
 | nil => simp [coef]
 | cons p ps ih =>
  obtain ⟨u, c⟩ := p
  simp only [List.map_cons, coef, ih, Int.mul_add]
  split <;> simp
/-- Rising from b on, no variable negative, no coefficient 0. -/
def Rising : Int → List (Int × Int) → Prop
 | _, [] => True
 | b, (u, c) :: ps => b < u ∧ c ≠ 0 ∧ Rising u ps
def IsPlain (ps : List (Int × Int)) : Prop := Rising (-1) ps
theorem Rising.mono {b b' : Int} {ps : List (Int × Int)} (h : Rising b ps) (hb : b' ≤ b) : Rising b' ps := by
 cases ps with
 | nil => trivial
 | cons p ps =>
  obtain ⟨u, c⟩ := p
  exact ⟨by have := h.1; omega, h.2⟩
theorem Rising.low {b : Int} {ps : List (Int × Int)} (h : Rising b ps) (v : Int) (hv : v ≤ b) : coef ps v = 0 := by
 induction ps generalizing b with
 | nil => rfl
 | cons p ps ih =>
  obtain ⟨u, c⟩ := p
  obtain ⟨h1, h2, h3⟩ := h
  rw [coef, if_neg (by omega), ih h3 (by omega)]; rfl
theorem Rising.head {b u c : Int} {ps : List (Int × Int)} (h : Rising b ((u, c) :: ps)) (hu : 0 ≤ u) : coef ((u, c) :: ps) u = c := by
 rw [coef, if_pos ⟨rfl, hu⟩, h.2.2.low u (Int.le_refl _), Int.add_zero]
/-- Plain lists are the same where all variables count the same. -/
theorem rising_uniq {b b' : Int} {ps qs : List (Int × Int)} (hb : -1 ≤ b) (hb' : -1 ≤ b') (h : Rising b ps) (h' : Rising b' qs) (he : ∀ v, coef ps v = coef qs v) : ps = qs := by
 induction ps generalizing b b' qs with
 | nil =>
  cases qs with
  | nil => rfl
  | cons q qs =>
   obtain ⟨u, c⟩ := q
   have h1 := he u
   rw [h'.head (by have := h'.1; omega), coef_nil] at h1
   exact absurd h1.symm h'.2.1
 | cons p ps ih =>
  obtain ⟨u, c⟩ := p
  have hu : 0 ≤ u := by have := h.1; omega
  cases qs with
  | nil =>
   have h1 := he u
   rw [h.head hu, coef_nil] at h1
   exact absurd h1 h.2.1
  | cons q qs =>
   obtain ⟨u', c'⟩ := q
   have hu' : 0 ≤ u' := by have := h'.1; omega
   have huu : u = u' := by
    rcases Int.lt_trichotomy u u' with h1 | h1 | h1
    · have h2 := he u
      rw [h.head hu, coef, if_neg (by omega), h'.2.2.low u (by omega)] at h2
      exact absurd h2 h.2.1
    · exact h1
    · have h2 := he u'
      rw [h'.head hu', coef, if_neg (by omega), h.2.2.low u' (by omega)] at h2
      exact absurd h2.symm h'.2.1
   subst huu
   have hcc : c = c' := by
    have h2 := he u
    rw [h.head hu, h'.head hu] at h2
    exact h2
   subst hcc
   rw [ih (by omega) (by omega) h.2.2 h'.2.2 (fun v => by
    have h2 := he v
    rw [coef, coef] at h2
    omega)]
theorem plain_uniq {ps qs : List (Int × Int)} (h : IsPlain ps) (h' : IsPlain qs) (he : ∀ v, coef ps v = coef qs v) : ps = qs := rising_uniq (Int.le_refl _) (Int.le_refl _) h h' he
/-- One part more, in its place. -/
def ins (u c : Int) : List (Int × Int) → List (Int × Int)
 | [] => if c = 0 then [] else [(u, c)]
 | (v, d) :: ps => if u < v then (if c = 0 then (v, d) :: ps else (u, c) :: (v, d) :: ps) else if u = v then (if c + d = 0 then ps else (v, c + d) :: ps) else (v, d) :: ins u c ps
theorem ins_rising {b u c : Int} {ps : List (Int × Int)} (h : Rising b ps) (hu : b < u) : Rising b (ins u c ps) := by
 induction ps generalizing b with
 | nil =>
  unfold ins
  split
  · trivial
  · exact ⟨hu, by assumption, trivial⟩
 | cons p ps ih =>
  obtain ⟨v, d⟩ := p
  obtain ⟨h1, h2, h3⟩ := h
  unfold ins
  split
  · rename_i hlt
    split
    · exact ⟨h1, h2, h3⟩
    · exact ⟨hu, by assumption, hlt, h2, h3⟩
  · split
    · split
      · exact h3.mono (by omega)
      · exact ⟨h1, by assumption, h3⟩
    · exact ⟨h1, h2, ih h3 (by omega)⟩
theorem ins_coef (u c : Int) (ps : List (Int × Int)) (hu : 0 ≤ u) (w : Int) : coef (ins u c ps) w = (if u = w ∧ 0 ≤ w then c else 0) + coef ps w := by
 induction ps with
 | nil =>
  unfold ins
  split
  · rename_i h; rw [h]; simp [coef]
  · rfl
 | cons p ps ih =>
  obtain ⟨v, d⟩ := p
  unfold ins
  split
  · split
    · rename_i h; rw [h]; simp
    · rfl
  · split
    · rename_i h; subst h
      split
      · rename_i h0
        rw [coef]
        split
        · omega
        · omega
      · rw [coef, coef]
        split <;> omega
    · rw [coef, coef, ih]; omega
/-- The plain list. -/
def norm : List (Int × Int) → List (Int × Int)
 | [] => []
 | (u, c) :: ps => if u < 0 then norm ps else ins u c (norm ps)
theorem norm_plain (ps : List (Int × Int)) : IsPlain (norm ps) := by
 induction ps with
 | nil => trivial
 | cons p ps ih =>
  obtain ⟨u, c⟩ := p
  unfold norm
  split
  · exact ih
  · exact ins_rising ih (by omega)
theorem norm_coef (ps : List (Int × Int)) (v : Int) : coef (norm ps) v = coef ps v := by
 induction ps with
 | nil => rfl
 | cons p ps ih =>
  obtain ⟨u, c⟩ := p
  unfold norm
  split
  · rw [coef, ih, if_neg (by omega), Int.zero_add]
  · rw [ins_coef _ _ _ (by omega), coef, ih]
theorem norm_of {ps qs : List (Int × Int)} (h : IsPlain qs) (he : ∀ v, coef qs v = coef ps v) : qs = norm ps :=
 plain_uniq h (norm_plain ps) (fun v => by rw [he, norm_coef])
theorem norm_same {ps qs : List (Int × Int)} (he : ∀ v, coef ps v = coef qs v) : norm ps = norm qs := norm_of (norm_plain ps) (fun v => by rw [norm_coef, he])
theorem norm_id {ps : List (Int × Int)} (h : IsPlain ps) : norm ps = ps := (norm_of h (fun _ => rfl)).symm
/-- The value at vals. -/
def val (vals : List Int) : List (Int × Int) → Int
 | [] => 0
 | (u, c) :: ps => (if 0 ≤ u then c * vals.getD u.toNat 0 else 0) + val vals ps
theorem val_append (vals : List Int) (ps qs : List (Int × Int)) : val vals (ps ++ qs) = val vals ps + val vals qs := by
 induction ps with
 | nil => simp [val]
 | cons p ps ih => obtain ⟨u, c⟩ := p; rw [List.cons_append, val, val, ih, Int.add_assoc]
end Go.Proofs.YtdeakieenppmiaaGreatDoor.Tm
/- Parts of a term, numbers and terms in memory: what slices of structs read as. Nothing here names a type of the seat. -/
namespace Go.Proofs.YtdeakieenppmiaaGreatDoor
open Go.RowKit

/-- A part as its cells hold it, with the number that its coefficient reads as. -/
structure PV where
 v : Int
 s : Bool
 B : Option Addr
 m : Nat
 d : Nat
 Z : Int
def PV.num (p : PV) : Value := .agg #[.bool p.s, .slice p.B p.m p.d]
def PV.cells (p : PV) : List Value := [.int .i64 p.v, .bool p.s, .slice p.B p.m p.d]
def PV.agg (p : PV) : Value := .agg #[.int .i64 p.v, .bool p.s, .slice p.B p.m p.d]
def PV.part (p : PV) : Int × Int := (p.v, p.Z)
def flat (ps : List PV) : List Value := (ps.map PV.cells).flatten
theorem flat_cons (p : PV) (ps : List PV) : flat (p :: ps) = p.cells ++ flat ps := rfl
theorem flat_append (ps qs : List PV) : flat (ps ++ qs) = flat ps ++ flat qs := by simp [flat]
theorem flat_length (ps : List PV) : (flat ps).length = 3 * ps.length := by
 induction ps with
 | nil => rfl
 | cons p ps ih => rw [flat_cons, List.length_append, ih, List.length_cons]; show 3 + _ = _; omega
theorem flat_get (ps : List PV) (i : Nat) (p : PV) (h : ps[i]? = some p) : (flat ps)[3 * i]? = some (.int .i64 p.v) ∧ (flat ps)[3 * i + 1]? = some (.bool p.s) ∧ (flat ps)[3 * i + 2]? = some (.slice p.B p.m p.d) := by
 induction ps generalizing i with
 | nil => simp at h
 | cons q ps ih =>
  rw [flat_cons]
  cases i with
  | zero =>
   simp at h; subst h
   exact ⟨rfl, rfl, rfl⟩
  | succ i =>
   have h2 := ih i (by simpa using h)
   have hl : q.cells.length = 3 := rfl
   have e0 : 3 * (i + 1) = q.cells.length + 3 * i := by rw [hl]; omega
   have e1 : 3 * (i + 1) + 1 = q.cells.length + (3 * i + 1) := by rw [hl]; omega
   have e2 : 3 * (i + 1) + 2 = q.cells.length + (3 * i + 2) := by rw [hl]; omega
   rw [e0, show q.cells.length + 3 * i + 1 = q.cells.length + (3 * i + 1) by omega, show q.cells.length + 3 * i + 2 = q.cells.length + (3 * i + 2) by omega, List.getElem?_append_right (by omega), List.getElem?_append_right (by omega), List.getElem?_append_right (by omega)]
   simpa using h2
theorem flat_take (ps : List PV) (k : Nat) : flat (ps.take k) = (flat ps).take (3 * k) := by
 induction ps generalizing k with
 | nil => simp [flat]
 | cons p ps ih =>
  cases k with
  | zero => simp [flat]
  | succ k =>
   rw [List.take_succ_cons, flat_cons, flat_cons, ih]
   have hl : p.cells.length = 3 := rfl
   rw [show 3 * (k + 1) = p.cells.length + 3 * k by rw [hl]; omega, List.take_length_add_append]

/-- The slice (A, n) of parts reads as ps, of at most k limbs each. -/
def PartsIn (w : World) (A : Option Addr) (n : Nat) (ps : List PV) (k : Nat) : Prop :=
 ps.length = n ∧ (0 < n → ∃ b o, A = some ⟨b, o, none⟩ ∧ ∀ j u, (flat ps)[j]? = some u → w.cell? ⟨b, o + j, none⟩ = some u) ∧ ∀ p ∈ ps, ZIn w p.num p.Z k
section
variable {w w' : World} {A : Option Addr} {n k : Nat} {ps : List PV}
theorem PartsIn.nil (w : World) (A : Option Addr) (k : Nat) : PartsIn w A 0 [] k := ⟨rfl, fun h => absurd h (by omega), fun p hp => by cases hp⟩
theorem PartsIn.below (h : PartsIn w A n ps k) (hb : Below w.heap.size w w') : PartsIn w' A n ps k := by
 refine ⟨h.1, fun hn => ?_, fun p hp => (h.2.2 p hp).below hb⟩
 obtain ⟨b, o, e, hc⟩ := h.2.1 hn
 refine ⟨b, o, e, fun j u hu => ?_⟩
 have h1 := hc j u hu
 have hlt := World.block_lt_of_cell? w _ h1
 exact (World.cell?_of_block (w := w) (a := ⟨b, o + j, none⟩) (hb.block b hlt)).trans h1
theorem PartsIn.mono {j : Nat} (h : PartsIn w A n ps k) (hj : k ≤ j) : PartsIn w A n ps j := ⟨h.1, h.2.1, fun p hp => (h.2.2 p hp).mono hj⟩
/-- Part i of the slice: its three cells, and what its coefficient reads as. -/
theorem PartsIn.at_ {i : Nat} (h : PartsIn w A n ps k) (hi : i < n) : ∃ b o p, A = some ⟨b, o, none⟩ ∧ ps[i]? = some p ∧ w.cell? ⟨b, o + 3 * i, none⟩ = some (.int .i64 p.v) ∧ w.cell? ⟨b, o + (3 * i + 1), none⟩ = some (.bool p.s) ∧ w.cell? ⟨b, o + (3 * i + 2), none⟩ = some (.slice p.B p.m p.d) ∧ ZIn w p.num p.Z k := by
 obtain ⟨b, o, e, hc⟩ := h.2.1 (by omega)
 have hl : i < ps.length := by rw [h.1]; exact hi
 obtain ⟨g0, g1, g2⟩ := flat_get ps i ps[i] (List.getElem?_eq_getElem hl)
 exact ⟨b, o, ps[i], e, List.getElem?_eq_getElem hl, hc _ _ g0, hc _ _ g1, hc _ _ g2, h.2.2 _ (List.getElem_mem hl)⟩
end
/-- What parts read as. -/
def lin (ps : List PV) : List (Int × Int) := ps.map PV.part
theorem lin_append (ps qs : List PV) : lin (ps ++ qs) = lin ps ++ lin qs := by simp [lin]
theorem lin_take_succ (ps : List PV) (i : Nat) (p : PV) (h : ps[i]? = some p) : lin (ps.take (i + 1)) = lin (ps.take i) ++ [p.part] := by
 unfold lin
 rw [List.take_add_one, h, List.map_append]
 rfl
/-- The term reads as the parts ps and the number K. -/
def TermIn (w : World) (v : Value) (ps : List PV) (K : Int) (k : Nat) : Prop := ∃ A n c s B m d, v = .agg #[.slice A n c, .bool s, .slice B m d] ∧ PartsIn w A n ps k ∧ n ≤ c ∧ c ≤ 9223372036854775807 ∧ ZIn w (.agg #[.bool s, .slice B m d]) K k
/-- A slice of numbers (values of variables): two cells each. -/
structure IV where
 s : Bool
 B : Option Addr
 m : Nat
 d : Nat
 Z : Int
def IV.num (p : IV) : Value := .agg #[.bool p.s, .slice p.B p.m p.d]
def IV.cells (p : IV) : List Value := [.bool p.s, .slice p.B p.m p.d]
def flatI (ps : List IV) : List Value := (ps.map IV.cells).flatten
theorem flatI_cons (p : IV) (ps : List IV) : flatI (p :: ps) = p.cells ++ flatI ps := rfl
theorem flatI_get (ps : List IV) (i : Nat) (p : IV) (h : ps[i]? = some p) : (flatI ps)[2 * i]? = some (.bool p.s) ∧ (flatI ps)[2 * i + 1]? = some (.slice p.B p.m p.d) := by
 induction ps generalizing i with
 | nil => simp at h
 | cons q ps ih =>
  rw [flatI_cons]
  cases i with
  | zero =>
   simp at h; subst h
   exact ⟨rfl, rfl⟩
  | succ i =>
   have h2 := ih i (by simpa using h)
   have hl : q.cells.length = 2 := rfl
   rw [show 2 * (i + 1) = q.cells.length + 2 * i by rw [hl]; omega, show q.cells.length + 2 * i + 1 = q.cells.length + (2 * i + 1) by omega, List.getElem?_append_right (by omega), List.getElem?_append_right (by omega)]
   simpa using h2
def ValsIn (w : World) (A : Option Addr) (n : Nat) (vs : List IV) (k : Nat) : Prop :=
 vs.length = n ∧ (0 < n → ∃ b o, A = some ⟨b, o, none⟩ ∧ ∀ j u, (flatI vs)[j]? = some u → w.cell? ⟨b, o + j, none⟩ = some u) ∧ ∀ p ∈ vs, ZIn w p.num p.Z k
theorem ValsIn.below {w w' : World} {A : Option Addr} {n k : Nat} {vs : List IV} (h : ValsIn w A n vs k) (hb : Below w.heap.size w w') : ValsIn w' A n vs k := by
 refine ⟨h.1, fun hn => ?_, fun p hp => (h.2.2 p hp).below hb⟩
 obtain ⟨b, o, e, hc⟩ := h.2.1 hn
 refine ⟨b, o, e, fun j u hu => ?_⟩
 have h1 := hc j u hu
 have hlt := World.block_lt_of_cell? w _ h1
 exact (World.cell?_of_block (w := w) (a := ⟨b, o + j, none⟩) (hb.block b hlt)).trans h1
theorem ValsIn.at_ {w : World} {A : Option Addr} {n k i : Nat} {vs : List IV} (h : ValsIn w A n vs k) (hi : i < n) : ∃ b o p, A = some ⟨b, o, none⟩ ∧ vs[i]? = some p ∧ w.cell? ⟨b, o + 2 * i, none⟩ = some (.bool p.s) ∧ w.cell? ⟨b, o + (2 * i + 1), none⟩ = some (.slice p.B p.m p.d) ∧ ZIn w p.num p.Z k := by
 obtain ⟨b, o, e, hc⟩ := h.2.1 (by omega)
 have hl : i < vs.length := by rw [h.1]; exact hi
 obtain ⟨g0, g1⟩ := flatI_get vs i vs[i] (List.getElem?_eq_getElem hl)
 exact ⟨b, o, vs[i], e, List.getElem?_eq_getElem hl, hc _ _ g0, hc _ _ g1, h.2.2 _ (List.getElem_mem hl)⟩
def nums (vs : List IV) : List Int := vs.map IV.Z
/-- A list of parts of the call's own, to which parts are appended: T is the element type's number. -/
def PLst (T : TypeId) (w : World) (base : Nat) (v : Value) (ps : List PV) (k : Nat) : Prop := w.ownsRow base T 3 v ps.length (flat ps) ∧ ∀ p ∈ ps, ZIn w p.num p.Z k
section
variable {T : TypeId} {w w' : World} {base k : Nat} {v : Value} {ps : List PV}
end
end Go.Proofs.YtdeakieenppmiaaGreatDoor
