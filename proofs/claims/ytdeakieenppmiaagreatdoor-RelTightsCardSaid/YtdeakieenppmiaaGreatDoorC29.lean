/- Texts of one seat, put together: RDivZ. -/
import Derived.Test.YtdeakieenppmiaaGreatDoorC27
import Derived.Test.YtdeakieenppmiaaGreatDoorC17
import Derived.Test.YtdeakieenppmiaaGreatDoorC28
import Derived.Deep.DeepCutAuto
set_option linter.unusedVariables false
set_option linter.unusedSimpArgs false
set_option maxRecDepth 100000
set_option maxHeartbeats 16000000
/- plumblineref02.Div. -/
namespace Go.Proofs.YtdeakieenppmiaaGreatDoor
open Go.RowKit
open Limb (limb limb_lt upto upto_succ upto_all upto_zero)

theorem sign_times' (Z Y : Int) : -1 ≤ Z.sign * Y.sign ∧ Z.sign * Y.sign ≤ 1 := by
 rcases Int.lt_trichotomy Z 0 with h1 | h1 | h1 <;> rcases Int.lt_trichotomy Y 0 with h2 | h2 | h2
 all_goals
  first
  | rw [Int.sign_eq_neg_one_of_neg h1]
  | rw [Int.sign_eq_one_of_pos h1]
  | rw [h1, Int.sign_zero]
  first
  | rw [Int.sign_eq_neg_one_of_neg h2]
  | rw [Int.sign_eq_one_of_pos h2]
  | rw [h2, Int.sign_zero]
  omega
theorem Keeps.four (w : World) (X1 X2 Y1 Y2 : Value) : Keeps w [(w.heap.size, X1, X2), (w.heap.size + 1, Y1, Y2), (w.heap.size + 1 + 1, .bool false, .slice none 0 0), (w.heap.size + 1 + 1 + 1, .bool false, .slice none 0 0)] ((((w.alloc (.cells #[X1, X2] 26)).alloc (.cells #[Y1, Y2] 26)).alloc (.cells #[.bool false, .slice none 0 0] 26)).alloc (.cells #[.bool false, .slice none 0 0] 26)) := by
 obtain ⟨x0, y0, q0, r0, z2, -⟩ := zstart4 w #[X1, X2] #[Y1, Y2] #[.bool false, .slice none 0 0] #[.bool false, .slice none 0 0]
 exact ((((Keeps.nil z2).add r0 (by omega)).add q0 (by omega)).add y0 (by omega)).add x0 (by omega)
theorem rzdiv_yes (v u : Value) (Z Y : Int) (k j : Nat) (w : World) (hv : ZIn w v Z k) (hu : ZIn w u Y j) (hY : Y ≠ 0) (hk : k ≤ 68719476) (hj : j ≤ 68719476) : Calls Tryz.prog 40 #[v, u] w (DivZYes Z Y k j w) := by
 have hqs := hide (fdiv_small Z Y k hv.lt)
 have hrs := hide (fmod_small Z Y j hY hu.lt)
 have hlv := hide hv.lt
 have hlu := hide hu.lt
 have hv0 := hv
 have hu0 := hu
 obtain ⟨s, A, n, c, xs, rfl, hx, hc, hm, hn, hZ⟩ := hv
 obtain ⟨t, B, m, d, ys, rfl, hy, hd, hmd, hmk, hYY⟩ := hu
 have HZ := hide (ZIn.abs hZ)
 have HY := hide (ZIn.abs hYY)
 clear hZ hYY
 have K := Keeps.four w (.bool s) (.slice A n c) (.bool t) (.slice B m d)
 have hM0 : Limb.val ys ≠ 0 := by rw [HY.out]; omega
 have hdy := rdiv_yes A B n c m d xs ys _ (hx.below K.old) (by omega) (hy.below K.old) (by omega) hM0
 rw [HZ.out, HY.out] at hdy
 obtain ⟨q0, hq0⟩ : ∃ q0, q0 = sg (decide (Z.sign * Y.sign < 0)) (Z.natAbs / Y.natAbs) := ⟨_, rfl⟩
 have HR := hide (divz_ref Z Y hY q0 hq0)
 have hqq : q0.natAbs < 4294967296 ^ k := by rw [hq0, sg_natAbs]; exact Nat.lt_of_le_of_lt (Nat.div_le_self _ _) hlv.out
 have hrr : (Z - q0 * Y).natAbs < 4294967296 ^ j := Nat.lt_trans HR.out.2.2 hlu.out
 have hw1 : IntKind.i64.wrap (Z.sign * Y.sign) = Z.sign * Y.sign := IntWalk.i64_in _ ⟨by have := (sign_times' Z Y).1; omega, by have := (sign_times' Z Y).2; omega⟩
 have hw2 : IntKind.i64.wrap ((Z - q0 * Y).sign * Y.sign) = (Z - q0 * Y).sign * Y.sign := IntWalk.i64_in _ ⟨by have := (sign_times' (Z - q0 * Y) Y).1; omega, by have := (sign_times' (Z - q0 * Y) Y).2; omega⟩
 have Hq0 := hide hq0
 have Hqq := hide hqq
 have Hrr := hide hrr
 clear hM0 hq0 hqq hrr hY
 go_enter Tryz.func40, Tryz.ntmps40
 go_wp2_with fail
 refine hdy.mono ?_
 rintro e w1 ⟨A1, n1, c1, B1, m1, d1, rfl, nq, lq, lq9, nr, lr, lr9, b1⟩
 replace K := K.call b1
 clear hdy b1 nr
 have ln1 : n1 ≤ k := short_canon nq (by have := Hqq.out; rw [Hq0.out, sg_natAbs] at this; exact this)
 go_upto_region 4 with fail
 obtain ⟨WB, HWB⟩ : ∃ WB, KeepsB w WB [(w.heap.size, .bool s, .slice A n c), (w.heap.size + 1, .bool t, .slice B m d), (w.heap.size + 1 + 1, .bool false, .slice none 0 0), (w.heap.size + 1 + 1 + 1, .bool false, .slice none 0 0)] w1 := ⟨_, K.begin⟩
 have SOF := hide (show ∀ W, KeepsB w WB [(w.heap.size, .bool s, .slice A n c), (w.heap.size + 1, .bool t, .slice B m d), (w.heap.size + 1 + 1, .bool false, .slice none 0 0), (w.heap.size + 1 + 1 + 1, .bool false, .slice none 0 0)] W → (fun W => KeepsB w WB [(w.heap.size, .bool s, .slice A n c), (w.heap.size + 1, .bool t, .slice B m d), (w.heap.size + 1 + 1, .bool false, .slice none 0 0), (w.heap.size + 1 + 1 + 1, .bool false, .slice none 0 0)] W ∧ W.cell? ⟨w.heap.size, 0, none⟩ = some (.bool s) ∧ W.cell? ⟨w.heap.size, 1, none⟩ = some (.slice A n c) ∧ W.cell? ⟨w.heap.size + 1, 0, none⟩ = some (.bool t) ∧ W.cell? ⟨w.heap.size + 1, 1, none⟩ = some (.slice B m d)) W from fun W k => ⟨k, (k.keeps.blk (List.Mem.head _)).c0, (k.keeps.blk (List.Mem.head _)).c1, (k.keeps.blk (List.Mem.tail _ (List.Mem.head _))).c0, (k.keeps.blk (List.Mem.tail _ (List.Mem.head _))).c1⟩)
 have hz0 := hide HWB.size
 have HK := hide HWB
 clear HWB K
 go_cut [10] (fun s10 wx => ∃ g10 s3 A3 n3 c3, s10 = .pointer (some ⟨g10, 0, none⟩) ∧ Keeps w ((g10, .bool s3, .slice A3 n3 c3) :: [(w.heap.size, .bool s, .slice A n c), (w.heap.size + 1, .bool t, .slice B m d), (w.heap.size + 1 + 1, .bool false, .slice none 0 0), (w.heap.size + 1 + 1 + 1, .bool false, .slice none 0 0)]) wx ∧ ZRes wx (.agg #[.bool s3, .slice A3 n3 c3]) q0 k ∧ (∀ p ∈ ([(w.heap.size, .bool s, .slice A n c), (w.heap.size + 1, .bool t, .slice B m d), (w.heap.size + 1 + 1, .bool false, .slice none 0 0), (w.heap.size + 1 + 1 + 1, .bool false, .slice none 0 0)] : List (Nat × Value × Value)), p.1 < g10))
 case first =>
  go_region_held3 (fun W => KeepsB w WB [(w.heap.size, .bool s, .slice A n c), (w.heap.size + 1, .bool t, .slice B m d), (w.heap.size + 1 + 1, .bool false, .slice none 0 0), (w.heap.size + 1 + 1 + 1, .bool false, .slice none 0 0)] W ∧ W.cell? ⟨w.heap.size, 0, none⟩ = some (.bool s) ∧ W.cell? ⟨w.heap.size, 1, none⟩ = some (.slice A n c) ∧ W.cell? ⟨w.heap.size + 1, 0, none⟩ = some (.bool t) ∧ W.cell? ⟨w.heap.size + 1, 1, none⟩ = some (.slice B m d))
   (with_reducible first | (simp only [st2_def]; refine SOF.out _ ?_; (repeat (first | refine KeepsB.alloc ?_ _ | refine KeepsB.st ?_ _ _ (by have h2 := hz0.out; have h20 := hz20.out; have h21 := hz21.out; have h22 := hz22.out; (try simp only [size_alloc, st2_size]); omega))); exact K22.out) | exact SOF.out _ HK.out.drew | exact SOF.out _ (KeepsB.call (And.left (a := KeepsB w WB _ _) (by assumption)) (by assumption)) | exact SOF.out _ (KeepsB.alloc (And.left (a := KeepsB w WB _ _) (by assumption)) _) | (refine SOF.out _ ?_; (repeat (refine KeepsB.alloc ?_ _)); exact K22.out))
   (first
     | (go_at_call_of 38 (Value.agg #[.bool s, .slice A n c]); (have kk := (And.left (a := KeepsB w WB _ _) (by assumption))); (with_reducible refine (rsign_z _ Z k _ (hv0.below kk.old) (by omega)).mono ?_); rintro e w20 ⟨rfl, b20⟩; have hz20 := hide (kk.call b20).size; have K20 := hide (kk.call b20); clear kk; (with_reducible first | have nq20 := nq.drew.below b20 | have nq20 := (nq.alloc _).drew.below b20); (with_reducible first | (have p20 := (Blk.new _ _).drew.next b20; (try rw [size_alloc] at p20); have p20a := p20.c0; have p20b := p20.c1; have p20c := p20.fr 0; have p20d := p20.fr 1; have p20l := p20.lt; have p20n := Nat.ne_of_lt p20.lt; have p20m := Nat.ne_of_gt p20.lt) | (have p20 := (Blk.new _ _).next b20; (try rw [size_alloc] at p20); have p20a := p20.c0; have p20b := p20.c1; have p20c := p20.fr 0; have p20d := p20.fr 1; have p20l := p20.lt; have p20n := Nat.ne_of_lt p20.lt; have p20m := Nat.ne_of_gt p20.lt) | skip); (with_reducible first | (have q20 := ((Blk.new _ _).alloc _).drew.next b20; (try rw [size_alloc] at q20); have q20a := q20.c0; have q20b := q20.c1; have q20c := q20.fr 0; have q20d := q20.fr 1; have q20l := q20.lt; have q20n := Nat.ne_of_lt q20.lt; have q20m := Nat.ne_of_gt q20.lt) | (have q20 := ((Blk.new _ _).alloc _).next b20; (try rw [size_alloc] at q20); have q20a := q20.c0; have q20b := q20.c1; have q20c := q20.fr 0; have q20d := q20.fr 1; have q20l := q20.lt; have q20n := Nat.ne_of_lt q20.lt; have q20m := Nat.ne_of_gt q20.lt) | skip))
     | (go_at_call_of 38 (Value.agg #[.bool t, .slice B m d]); (have kk := (And.left (a := KeepsB w WB _ _) (by assumption))); (with_reducible refine (rsign_z _ Y j _ (hu0.below kk.old) (by omega)).mono ?_); rintro e w21 ⟨rfl, b21⟩; have hz21 := hide (kk.call b21).size; have K21 := hide (kk.call b21); clear kk; (with_reducible first | have nq21 := nq20.below b21 | have nq21 := (nq20.alloc _).below b21); (with_reducible first | (have p21 := p20.next b21; (try rw [size_alloc] at p21); have p21a := p21.c0; have p21b := p21.c1; have p21c := p21.fr 0; have p21d := p21.fr 1; have p21l := p21.lt; have p21n := Nat.ne_of_lt p21.lt; have p21m := Nat.ne_of_gt p21.lt) | (have p21 := (p20.alloc _).next b21; (try rw [size_alloc] at p21); have p21a := p21.c0; have p21b := p21.c1; have p21c := p21.fr 0; have p21d := p21.fr 1; have p21l := p21.lt; have p21n := Nat.ne_of_lt p21.lt; have p21m := Nat.ne_of_gt p21.lt) | (have p21 := ((p20.alloc _).alloc _).next b21; (try rw [size_alloc] at p21); have p21a := p21.c0; have p21b := p21.c1; have p21c := p21.fr 0; have p21d := p21.fr 1; have p21l := p21.lt; have p21n := Nat.ne_of_lt p21.lt; have p21m := Nat.ne_of_gt p21.lt) | skip); (with_reducible first | (have q21 := q20.next b21; (try rw [size_alloc] at q21); have q21a := q21.c0; have q21b := q21.c1; have q21c := q21.fr 0; have q21d := q21.fr 1; have q21l := q21.lt; have q21n := Nat.ne_of_lt q21.lt; have q21m := Nat.ne_of_gt q21.lt) | (have q21 := (q20.alloc _).next b21; (try rw [size_alloc] at q21); have q21a := q21.c0; have q21b := q21.c1; have q21c := q21.fr 0; have q21d := q21.fr 1; have q21l := q21.lt; have q21n := Nat.ne_of_lt q21.lt; have q21m := Nat.ne_of_gt q21.lt) | (have q21 := ((q20.alloc _).alloc _).next b21; (try rw [size_alloc] at q21); have q21a := q21.c0; have q21b := q21.c1; have q21c := q21.fr 0; have q21d := q21.fr 1; have q21l := q21.lt; have q21n := Nat.ne_of_lt q21.lt; have q21m := Nat.ne_of_gt q21.lt) | skip); (with_reducible first | (have u21 := (Blk.new _ _).next b21; (try rw [size_alloc] at u21); have u21a := u21.c0; have u21b := u21.c1; have u21c := u21.fr 0; have u21d := u21.fr 1; have u21l := u21.lt; have u21n := Nat.ne_of_lt u21.lt; have u21m := Nat.ne_of_gt u21.lt) | skip); (with_reducible first | (have x21 := ((Blk.new _ _).alloc _).next b21; (try rw [size_alloc] at x21); have x21a := x21.c0; have x21b := x21.c1; have x21c := x21.fr 0; have x21d := x21.fr 1; have x21l := x21.lt; have x21n := Nat.ne_of_lt x21.lt; have x21m := Nat.ne_of_gt x21.lt) | skip))
     | (go_at_call 63; (have kk := (And.left (a := KeepsB w WB _ _) (by assumption))); (with_reducible refine (rfrom_any _ A1 n1 c1 k _ _ (by first | exact nq21 | exact nq21.alloc _) ln1 (by omega)).mono ?_); rintro e w22 ⟨v22, rfl, r22, b22⟩; have hz22 := hide (kk.call b22).size; have K22 := hide (kk.call b22); clear kk; rw [Limb.val_canon, ← Hq0.out] at r22; obtain ⟨s3, A3, n3, c3, rfl⟩ := r22.form; (with_reducible first | (have p22 := p21.next b22; (try rw [size_alloc] at p22); have p22a := p22.c0; have p22b := p22.c1; have p22c := p22.fr 0; have p22d := p22.fr 1; have p22l := p22.lt; have p22n := Nat.ne_of_lt p22.lt; have p22m := Nat.ne_of_gt p22.lt) | (have p22 := (p21.alloc _).next b22; (try rw [size_alloc] at p22); have p22a := p22.c0; have p22b := p22.c1; have p22c := p22.fr 0; have p22d := p22.fr 1; have p22l := p22.lt; have p22n := Nat.ne_of_lt p22.lt; have p22m := Nat.ne_of_gt p22.lt) | (have p22 := ((p21.alloc _).alloc _).next b22; (try rw [size_alloc] at p22); have p22a := p22.c0; have p22b := p22.c1; have p22c := p22.fr 0; have p22d := p22.fr 1; have p22l := p22.lt; have p22n := Nat.ne_of_lt p22.lt; have p22m := Nat.ne_of_gt p22.lt) | skip); (with_reducible first | (have q22 := q21.next b22; (try rw [size_alloc] at q22); have q22a := q22.c0; have q22b := q22.c1; have q22c := q22.fr 0; have q22d := q22.fr 1; have q22l := q22.lt; have q22n := Nat.ne_of_lt q22.lt; have q22m := Nat.ne_of_gt q22.lt) | (have q22 := (q21.alloc _).next b22; (try rw [size_alloc] at q22); have q22a := q22.c0; have q22b := q22.c1; have q22c := q22.fr 0; have q22d := q22.fr 1; have q22l := q22.lt; have q22n := Nat.ne_of_lt q22.lt; have q22m := Nat.ne_of_gt q22.lt) | (have q22 := ((q21.alloc _).alloc _).next b22; (try rw [size_alloc] at q22); have q22a := q22.c0; have q22b := q22.c1; have q22c := q22.fr 0; have q22d := q22.fr 1; have q22l := q22.lt; have q22n := Nat.ne_of_lt q22.lt; have q22m := Nat.ne_of_gt q22.lt) | skip); (with_reducible first | (have u22 := u21.next b22; (try rw [size_alloc] at u22); have u22a := u22.c0; have u22b := u22.c1; have u22c := u22.fr 0; have u22d := u22.fr 1; have u22l := u22.lt; have u22n := Nat.ne_of_lt u22.lt; have u22m := Nat.ne_of_gt u22.lt) | (have u22 := (u21.alloc _).next b22; (try rw [size_alloc] at u22); have u22a := u22.c0; have u22b := u22.c1; have u22c := u22.fr 0; have u22d := u22.fr 1; have u22l := u22.lt; have u22n := Nat.ne_of_lt u22.lt; have u22m := Nat.ne_of_gt u22.lt) | (have u22 := ((u21.alloc _).alloc _).next b22; (try rw [size_alloc] at u22); have u22a := u22.c0; have u22b := u22.c1; have u22c := u22.fr 0; have u22d := u22.fr 1; have u22l := u22.lt; have u22n := Nat.ne_of_lt u22.lt; have u22m := Nat.ne_of_gt u22.lt) | skip); (with_reducible first | (have x22 := x21.next b22; (try rw [size_alloc] at x22); have x22a := x22.c0; have x22b := x22.c1; have x22c := x22.fr 0; have x22d := x22.fr 1; have x22l := x22.lt; have x22n := Nat.ne_of_lt x22.lt; have x22m := Nat.ne_of_gt x22.lt) | (have x22 := (x21.alloc _).next b22; (try rw [size_alloc] at x22); have x22a := x22.c0; have x22b := x22.c1; have x22c := x22.fr 0; have x22d := x22.fr 1; have x22l := x22.lt; have x22n := Nat.ne_of_lt x22.lt; have x22m := Nat.ne_of_gt x22.lt) | (have x22 := ((x21.alloc _).alloc _).next b22; (try rw [size_alloc] at x22); have x22a := x22.c0; have x22b := x22.c1; have x22c := x22.fr 0; have x22d := x22.fr 1; have x22l := x22.lt; have x22n := Nat.ne_of_lt x22.lt; have x22m := Nat.ne_of_gt x22.lt) | skip); (with_reducible first | (have u22 := (Blk.new _ _).next b22; (try rw [size_alloc] at u22); have u22a := u22.c0; have u22b := u22.c1; have u22c := u22.fr 0; have u22d := u22.fr 1; have u22l := u22.lt; have u22n := Nat.ne_of_lt u22.lt; have u22m := Nat.ne_of_gt u22.lt) | skip); (with_reducible first | (have x22 := ((Blk.new _ _).alloc _).next b22; (try rw [size_alloc] at x22); have x22a := x22.c0; have x22b := x22.c1; have x22c := x22.fr 0; have x22d := x22.fr 1; have x22l := x22.lt; have x22n := Nat.ne_of_lt x22.lt; have x22m := Nat.ne_of_gt x22.lt) | skip)))
  all_goals
   go_wp2_with fail
   go_meet
   case rel =>
     (try simp only [st2_def])
     refine ⟨_, s3, A3, n3, c3, rfl, ?_, ?_, ?_⟩
     · exact KeepsB.add1 (B := WB) (by with_reducible ((repeat (first | refine KeepsB.alloc ?_ _ | refine KeepsB.st ?_ _ _ (by have h2 := hz0.out; have h20 := hz20.out; have h21 := hz21.out; have h22 := hz22.out; (try simp only [size_alloc, st2_size]); omega))); exact K22.out)) (by with_reducible (repeat (first | assumption | exact Blk.newAt _ _ (by simp only [size_alloc, st2_size]) | refine Blk.alloc ?_ _ | refine Blk.stSame ?_ | refine Blk.stOther ?_ (by (try simp only [size_alloc, st2_size]); omega)))) (by have h2 := hz0.out; have h20 := hz20.out; have h21 := hz21.out; have h22 := hz22.out; (try simp only [size_alloc, st2_size]); omega)
     · exact (by with_reducible ((repeat (first | refine ZRes.alloc ?_ _ | refine ZRes.st ?_ (by with_reducible (repeat (first | assumption | exact Blk.newAt _ _ (by simp only [size_alloc, st2_size]) | refine Blk.alloc ?_ _ | refine Blk.stSame ?_ | refine Blk.stOther ?_ (by (try simp only [size_alloc, st2_size]); omega)))))); exact r22))
     · exact fun p hp => Nat.lt_of_lt_of_le (HK.out.2.2.2 p hp) (by have h2 := hz0.out; have h20 := hz20.out; have h21 := hz21.out; have h22 := hz22.out; (try simp only [size_alloc, st2_size]); omega)
 case rest =>
  obtain ⟨g10, s3, A3, n3, c3, rfl, K, rq, hg10⟩ := hcut
  clear SOF HK hz0 nq lq lq9 ln1
  rename World => wc4
  have HG10 := hide hg10
  clear hg10
  have rq0 := hide rq
  go_upto_region 5 with fail
  obtain ⟨WB, HWB⟩ : ∃ WB, KeepsB w WB [(g10, .bool s3, .slice A3 n3 c3), (w.heap.size, .bool s, .slice A n c), (w.heap.size + 1, .bool t, .slice B m d), (w.heap.size + 1 + 1, .bool false, .slice none 0 0), (w.heap.size + 1 + 1 + 1, .bool false, .slice none 0 0)] wc4 := ⟨_, K.begin⟩
  have SOF := hide (show ∀ W, KeepsB w WB [(g10, .bool s3, .slice A3 n3 c3), (w.heap.size, .bool s, .slice A n c), (w.heap.size + 1, .bool t, .slice B m d), (w.heap.size + 1 + 1, .bool false, .slice none 0 0), (w.heap.size + 1 + 1 + 1, .bool false, .slice none 0 0)] W → (fun W => KeepsB w WB [(g10, .bool s3, .slice A3 n3 c3), (w.heap.size, .bool s, .slice A n c), (w.heap.size + 1, .bool t, .slice B m d), (w.heap.size + 1 + 1, .bool false, .slice none 0 0), (w.heap.size + 1 + 1 + 1, .bool false, .slice none 0 0)] W ∧ W.cell? ⟨w.heap.size, 0, none⟩ = some (.bool s) ∧ W.cell? ⟨w.heap.size, 1, none⟩ = some (.slice A n c) ∧ W.cell? ⟨g10, 0, none⟩ = some (.bool s3) ∧ W.cell? ⟨g10, 1, none⟩ = some (.slice A3 n3 c3) ∧ W.cell? ⟨w.heap.size + 1, 0, none⟩ = some (.bool t) ∧ W.cell? ⟨w.heap.size + 1, 1, none⟩ = some (.slice B m d)) W from fun W k => ⟨k, (k.keeps.blk (List.Mem.tail _ (List.Mem.head _))).c0, (k.keeps.blk (List.Mem.tail _ (List.Mem.head _))).c1, (k.keeps.blk (List.Mem.head _)).c0, (k.keeps.blk (List.Mem.head _)).c1, (k.keeps.blk (List.Mem.tail _ (List.Mem.tail _ (List.Mem.head _)))).c0, (k.keeps.blk (List.Mem.tail _ (List.Mem.tail _ (List.Mem.head _)))).c1⟩)
  have hz0 := hide HWB.size
  have HK := hide HWB
  clear HWB K
  go_cut [11] (fun s11 wx => ∃ g11 s4 A4 n4 c4, s11 = .pointer (some ⟨g11, 0, none⟩) ∧ Keeps w ((g11, .bool s4, .slice A4 n4 c4) :: [(g10, .bool s3, .slice A3 n3 c3), (w.heap.size, .bool s, .slice A n c), (w.heap.size + 1, .bool t, .slice B m d), (w.heap.size + 1 + 1, .bool false, .slice none 0 0), (w.heap.size + 1 + 1 + 1, .bool false, .slice none 0 0)]) wx ∧ ZRes wx (.agg #[.bool s4, .slice A4 n4 c4]) (Z - q0 * Y) j ∧ ZRes wx (.agg #[.bool s3, .slice A3 n3 c3]) q0 k ∧ (∀ p ∈ ([(g10, .bool s3, .slice A3 n3 c3), (w.heap.size, .bool s, .slice A n c), (w.heap.size + 1, .bool t, .slice B m d), (w.heap.size + 1 + 1, .bool false, .slice none 0 0), (w.heap.size + 1 + 1 + 1, .bool false, .slice none 0 0)] : List (Nat × Value × Value)), p.1 < g11))
  case first =>
   go_region_held3 (fun W => KeepsB w WB [(g10, .bool s3, .slice A3 n3 c3), (w.heap.size, .bool s, .slice A n c), (w.heap.size + 1, .bool t, .slice B m d), (w.heap.size + 1 + 1, .bool false, .slice none 0 0), (w.heap.size + 1 + 1 + 1, .bool false, .slice none 0 0)] W ∧ W.cell? ⟨w.heap.size, 0, none⟩ = some (.bool s) ∧ W.cell? ⟨w.heap.size, 1, none⟩ = some (.slice A n c) ∧ W.cell? ⟨g10, 0, none⟩ = some (.bool s3) ∧ W.cell? ⟨g10, 1, none⟩ = some (.slice A3 n3 c3) ∧ W.cell? ⟨w.heap.size + 1, 0, none⟩ = some (.bool t) ∧ W.cell? ⟨w.heap.size + 1, 1, none⟩ = some (.slice B m d))
     (with_reducible first | (simp only [st2_def]; refine SOF.out _ ?_; (repeat (first | refine KeepsB.alloc ?_ _ | refine KeepsB.st ?_ _ _ (by have h2 := hz0.out; have h30 := hz30.out; have h31 := hz31.out; (try simp only [size_alloc, st2_size]); omega))); exact K31.out) | exact SOF.out _ HK.out.drew | exact SOF.out _ (KeepsB.call (And.left (a := KeepsB w WB _ _) (by assumption)) (by assumption)) | exact SOF.out _ (KeepsB.alloc (And.left (a := KeepsB w WB _ _) (by assumption)) _) | (refine SOF.out _ ?_; (repeat (refine KeepsB.alloc ?_ _)); exact K31.out))
     (first
       | (go_at_call 83; (have kk := (And.left (a := KeepsB w WB _ _) (by assumption))); (with_reducible refine (rzmul_z _ _ q0 Y k j _ (by first | exact rq0.out.drew.in_ | exact (rq0.out.alloc _).drew.in_) (hu0.below kk.old) (by omega) (by omega)).mono ?_); rintro e w30 ⟨v30, rfl, r30, b30⟩; have hz30 := hide (kk.call b30).size; have K30 := hide (kk.call b30); clear kk; (with_reducible first | have rq1 := rq0.out.drew.below b30 | have rq1 := (rq0.out.alloc _).drew.below b30); (with_reducible first | (have p30 := (Blk.new _ _).drew.next b30; (try rw [size_alloc] at p30); have p30a := p30.c0; have p30b := p30.c1; have p30c := p30.fr 0; have p30d := p30.fr 1; have p30l := p30.lt; have p30n := Nat.ne_of_lt p30.lt; have p30m := Nat.ne_of_gt p30.lt) | (have p30 := (Blk.new _ _).next b30; (try rw [size_alloc] at p30); have p30a := p30.c0; have p30b := p30.c1; have p30c := p30.fr 0; have p30d := p30.fr 1; have p30l := p30.lt; have p30n := Nat.ne_of_lt p30.lt; have p30m := Nat.ne_of_gt p30.lt) | skip); (with_reducible first | (have q30 := ((Blk.new _ _).alloc _).drew.next b30; (try rw [size_alloc] at q30); have q30a := q30.c0; have q30b := q30.c1; have q30c := q30.fr 0; have q30d := q30.fr 1; have q30l := q30.lt; have q30n := Nat.ne_of_lt q30.lt; have q30m := Nat.ne_of_gt q30.lt) | (have q30 := ((Blk.new _ _).alloc _).next b30; (try rw [size_alloc] at q30); have q30a := q30.c0; have q30b := q30.c1; have q30c := q30.fr 0; have q30d := q30.fr 1; have q30l := q30.lt; have q30n := Nat.ne_of_lt q30.lt; have q30m := Nat.ne_of_gt q30.lt) | skip))
       | (go_at_call 82; (have kk := (And.left (a := KeepsB w WB _ _) (by assumption))); (with_reducible refine (rzsub_z _ _ Z (q0 * Y) (k + j) _ ((hv0.below kk.old).mono (by omega)) (by first | exact r30.in_ | exact (r30.alloc _).in_) (by omega)).mono ?_); rintro e w31 ⟨v31, rfl, r31, b31⟩; have hz31 := hide (kk.call b31).size; have K31 := hide (kk.call b31); clear kk; replace r31 := r31.short Hrr.out; obtain ⟨s4, A4, n4, c4, rfl⟩ := r31.form; (with_reducible first | replace rq1 := rq1.below b31 | replace rq1 := (rq1.alloc _).below b31); (with_reducible first | (have p31 := p30.next b31; (try rw [size_alloc] at p31); have p31a := p31.c0; have p31b := p31.c1; have p31c := p31.fr 0; have p31d := p31.fr 1; have p31l := p31.lt; have p31n := Nat.ne_of_lt p31.lt; have p31m := Nat.ne_of_gt p31.lt) | (have p31 := (p30.alloc _).next b31; (try rw [size_alloc] at p31); have p31a := p31.c0; have p31b := p31.c1; have p31c := p31.fr 0; have p31d := p31.fr 1; have p31l := p31.lt; have p31n := Nat.ne_of_lt p31.lt; have p31m := Nat.ne_of_gt p31.lt) | (have p31 := ((p30.alloc _).alloc _).next b31; (try rw [size_alloc] at p31); have p31a := p31.c0; have p31b := p31.c1; have p31c := p31.fr 0; have p31d := p31.fr 1; have p31l := p31.lt; have p31n := Nat.ne_of_lt p31.lt; have p31m := Nat.ne_of_gt p31.lt) | skip); (with_reducible first | (have q31 := q30.next b31; (try rw [size_alloc] at q31); have q31a := q31.c0; have q31b := q31.c1; have q31c := q31.fr 0; have q31d := q31.fr 1; have q31l := q31.lt; have q31n := Nat.ne_of_lt q31.lt; have q31m := Nat.ne_of_gt q31.lt) | (have q31 := (q30.alloc _).next b31; (try rw [size_alloc] at q31); have q31a := q31.c0; have q31b := q31.c1; have q31c := q31.fr 0; have q31d := q31.fr 1; have q31l := q31.lt; have q31n := Nat.ne_of_lt q31.lt; have q31m := Nat.ne_of_gt q31.lt) | (have q31 := ((q30.alloc _).alloc _).next b31; (try rw [size_alloc] at q31); have q31a := q31.c0; have q31b := q31.c1; have q31c := q31.fr 0; have q31d := q31.fr 1; have q31l := q31.lt; have q31n := Nat.ne_of_lt q31.lt; have q31m := Nat.ne_of_gt q31.lt) | skip); (with_reducible first | (have u31 := (Blk.new _ _).next b31; (try rw [size_alloc] at u31); have u31a := u31.c0; have u31b := u31.c1; have u31c := u31.fr 0; have u31d := u31.fr 1; have u31l := u31.lt; have u31n := Nat.ne_of_lt u31.lt; have u31m := Nat.ne_of_gt u31.lt) | skip); (with_reducible first | (have x31 := ((Blk.new _ _).alloc _).next b31; (try rw [size_alloc] at x31); have x31a := x31.c0; have x31b := x31.c1; have x31c := x31.fr 0; have x31d := x31.fr 1; have x31l := x31.lt; have x31n := Nat.ne_of_lt x31.lt; have x31m := Nat.ne_of_gt x31.lt) | skip)))
   all_goals
     go_wp2_with fail
     go_meet
     case rel =>
       (try simp only [st2_def])
       refine ⟨_, s4, A4, n4, c4, rfl, ?_, ?_, ?_, ?_⟩
       · exact KeepsB.add1 (B := WB) (by with_reducible ((repeat (first | refine KeepsB.alloc ?_ _ | refine KeepsB.st ?_ _ _ (by have h2 := hz0.out; have h30 := hz30.out; have h31 := hz31.out; (try simp only [size_alloc, st2_size]); omega))); exact K31.out)) (by with_reducible (repeat (first | assumption | exact Blk.newAt _ _ (by simp only [size_alloc, st2_size]) | refine Blk.alloc ?_ _ | refine Blk.stSame ?_ | refine Blk.stOther ?_ (by (try simp only [size_alloc, st2_size]); omega)))) (by have h2 := hz0.out; have h30 := hz30.out; have h31 := hz31.out; (try simp only [size_alloc, st2_size]); omega)
       · exact (by with_reducible ((repeat (first | refine ZRes.alloc ?_ _ | refine ZRes.st ?_ (by with_reducible (repeat (first | assumption | exact Blk.newAt _ _ (by simp only [size_alloc, st2_size]) | refine Blk.alloc ?_ _ | refine Blk.stSame ?_ | refine Blk.stOther ?_ (by (try simp only [size_alloc, st2_size]); omega)))))); exact r31))
       · exact (by with_reducible ((repeat (first | refine ZRes.alloc ?_ _ | refine ZRes.st ?_ (by with_reducible (repeat (first | assumption | exact Blk.newAt _ _ (by simp only [size_alloc, st2_size]) | refine Blk.alloc ?_ _ | refine Blk.stSame ?_ | refine Blk.stOther ?_ (by (try simp only [size_alloc, st2_size]); omega)))))); exact rq1))
       · exact fun p hp => Nat.lt_of_lt_of_le (HK.out.2.2.2 p hp) (by have h2 := hz0.out; have h30 := hz30.out; have h31 := hz31.out; (try simp only [size_alloc, st2_size]); omega)
  case rest =>
   obtain ⟨g11, s4, A4, n4, c4, rfl, K, rr, rq, hg11⟩ := hcut
   clear SOF HK hz0 rq0
   rename World => wc5
   have HG11 := hide hg11
   clear hg11
   have SOF := hide (show ∀ W, Keeps w [(g11, .bool s4, .slice A4 n4 c4), (g10, .bool s3, .slice A3 n3 c3), (w.heap.size, .bool s, .slice A n c), (w.heap.size + 1, .bool t, .slice B m d), (w.heap.size + 1 + 1, .bool false, .slice none 0 0), (w.heap.size + 1 + 1 + 1, .bool false, .slice none 0 0)] W → (fun W => Keeps w [(g11, .bool s4, .slice A4 n4 c4), (g10, .bool s3, .slice A3 n3 c3), (w.heap.size, .bool s, .slice A n c), (w.heap.size + 1, .bool t, .slice B m d), (w.heap.size + 1 + 1, .bool false, .slice none 0 0), (w.heap.size + 1 + 1 + 1, .bool false, .slice none 0 0)] W ∧ W.cell? ⟨g11, 0, none⟩ = some (.bool s4) ∧ W.cell? ⟨g11, 1, none⟩ = some (.slice A4 n4 c4) ∧ W.cell? ⟨w.heap.size + 1, 0, none⟩ = some (.bool t) ∧ W.cell? ⟨w.heap.size + 1, 1, none⟩ = some (.slice B m d)) W from fun W k => ⟨k, (k.blk (List.Mem.head _)).c0, (k.blk (List.Mem.head _)).c1, (k.blk (List.Mem.tail _ (List.Mem.tail _ (List.Mem.tail _ (List.Mem.head _))))).c0, (k.blk (List.Mem.tail _ (List.Mem.tail _ (List.Mem.tail _ (List.Mem.head _))))).c1⟩)
   have HK := hide K
   have T41 : Below wc5.heap.size wc5 wc5.drew := bl_drewN wc5 1
   clear K
   go_wp2_with fail
   go_region_held3 (fun W => Keeps w [(g11, .bool s4, .slice A4 n4 c4), (g10, .bool s3, .slice A3 n3 c3), (w.heap.size, .bool s, .slice A n c), (w.heap.size + 1, .bool t, .slice B m d), (w.heap.size + 1 + 1, .bool false, .slice none 0 0), (w.heap.size + 1 + 1 + 1, .bool false, .slice none 0 0)] W ∧ W.cell? ⟨g11, 0, none⟩ = some (.bool s4) ∧ W.cell? ⟨g11, 1, none⟩ = some (.slice A4 n4 c4) ∧ W.cell? ⟨w.heap.size + 1, 0, none⟩ = some (.bool t) ∧ W.cell? ⟨w.heap.size + 1, 1, none⟩ = some (.slice B m d))
     (with_reducible first | exact SOF.out _ HK.out.drew | exact SOF.out _ (Keeps.call (And.left (a := Keeps w _ _) (by assumption)) (by assumption)))
     (first
       | (go_at_call 38; (with_reducible refine (rsign_z _ (Z - q0 * Y) j wc5.drew (rr.below T41).in_ (by omega)).mono ?_); rintro e w42 ⟨rfl, b42⟩; have T42 := T41.next b42)
       | (go_at_call 38; (with_reducible refine (rsign_z _ Y j w42 (hu0.below (HK.out.old.next T42)) (by omega)).mono ?_); rintro e w43 ⟨rfl, b43⟩; have T43 := T42.next b43))
   have K := HK.out.call T43
   replace rq := rq.below T43
   replace rr := rr.below T43
   clear HK SOF T41 T42 T43
   have Bq := K.blk (List.Mem.tail _ (List.Mem.head _))
   have Br := K.blk (List.Mem.head _)
   have KL := K.tail.tail
   have hne := HG11.out _ (List.Mem.head _)
   have hw10 : w.heap.size ≤ g10 := (K.2 _ (List.Mem.tail _ (List.Mem.head _))).2
   have hw11 : w.heap.size ≤ g11 := (K.2 _ (List.Mem.head _)).2
   have hne2 := hide (show g10 < g11 from hne)
   have hx10 : w.heap.size + 1 + 1 + 1 < g10 := HG10.out _ (List.Mem.tail _ (List.Mem.tail _ (List.Mem.tail _ (List.Mem.head _))))
   clear K hne
   by_cases hneg : (Z - q0 * Y).sign * Y.sign < 0
   · have E := HR.out.1 hneg
     have E1 := hide E.1.symm
     have E2 := hide E.2.symm
     clear E HR
     skip
     have hdec : decide ((Z - q0 * Y).sign * Y.sign < 0) = true := decide_eq_true hneg
     have BqD := Bq.drew
     have Bqa := BqD.c0
     have Bqb := BqD.c1
     go_wp2_with fail
     go_region_with (first
       | (go_at_call 28; (with_reducible refine (rof_z 1 _ (by omega) (by omega)).mono ?_); rintro e w50 ⟨v50, rfl, z50, b50⟩; have Bq5 := BqD.next b50; have Bq5a := Bq5.c0; have Bq5b := Bq5.c1; have rq5 := (rq.drew).below b50)
       | (go_at_call 82; (with_reducible refine (rzsub_z _ _ q0 1 (k + 2) _ (rq5.in_.mono (by omega)) (z50.in_.mono (by omega)) (by omega)).mono ?_); rintro e w51 ⟨v51, rfl, z51, b51⟩; replace z51 := (z51.ofEq E1.out).short hqs.out; obtain ⟨s5, A5, n5, c5, rfl⟩ := z51.form; have Bq6 := Bq5.next b51; have Bq6a := Bq6.c0; have Bq6b := Bq6.c1; have Bq6c := Bq6.fr 0; have Bq6d := Bq6.fr 1))
     all_goals
       simp only [st2_def]
       clear Bq6a Bq6b Bq6c Bq6d Bq5a Bq5b Bqa Bqb hdec
       have KL2 := ((KL.drew.call b50).call b51).far (only_set2 w51 g10 (.bool s5) (.slice A5 n5 c5)) hw10 (fun p hp => Nat.ne_of_lt (HG10.out p hp))
       rw [st2_def] at KL2
       have Br2 := ((Br.drew.next b50).next b51).stOther (x := .bool s5) (y := .slice A5 n5 c5) (g := g10) (by have := hne2.out; omega)
       have Bq7 := Bq6.set2 (.bool s5) (.slice A5 n5 c5)
       rw [st2_def] at Bq7
       have zr2 := ((rr.drew.below b50).below b51).st (x := .bool s5) (y := .slice A5 n5 c5) Bq6
       have zq2 := z51.st (x := .bool s5) (y := .slice A5 n5 c5) Bq6
       generalize st2 w51 g10 (.bool s5) (.slice A5 n5 c5) = W7 at *
       clear Bq6 Bq5 BqD b50 b51 KL Br Bq rq rr rq5 z50 z51
       have Br2a := Br2.c0
       have Br2b := Br2.c1
       have y7a := (KL2.blk (List.Mem.tail _ (List.Mem.head _))).c0
       have y7b := (KL2.blk (List.Mem.tail _ (List.Mem.head _))).c1
       go_wp2_with fail
       refine (rzadd_z _ _ (Z - q0 * Y) Y j W7 zr2.in_ (hu0.below KL2.old) (by omega)).mono ?_
       rintro e w60 ⟨v60, rfl, z60, b60⟩
       replace z60 := (z60.ofEq E2.out).short hrs.out
       obtain ⟨s6, A6, n6, c6, rfl⟩ := z60.form
       have KL3 := hide (KL2.call b60)
       have Br3 := hide (Br2.next b60)
       have Bq8 := hide (Bq7.next b60)
       have zq3 := hide (zq2.below b60)
       have Z60 := hide z60
       clear Br2a Br2b y7a y7b KL2 Br2 Bq7 zq2 zr2 z60 b60
       go_wp2_with (with_reducible refine wpList_store_z rfl _ _ rfl g11 _ _ _ _ rfl rfl _ _ Br3.out ?_; intro w61 k61 ho61; have HO := hide ho61; clear ho61)
       have KL4 := KL3.out.far HO.out hw11 (fun p hp => by have h1 := HG10.out p hp; have h2 := hne2.out; omega)
       have Bq9 := Bq8.out.other HO.out (by have := hne2.out; omega)
       have zq4 := zq3.out.only Br3.out HO.out
       have zr4 := Z60.out.only Br3.out HO.out
       clear KL3 Br3 Bq8 zq3 Z60 HO
       have RQ := KL4.blk (List.Mem.tail _ (List.Mem.tail _ (List.Mem.head _)))
       have RR := KL4.blk (List.Mem.tail _ (List.Mem.tail _ (List.Mem.tail _ (List.Mem.head _))))
       have RQa := RQ.c0
       have RQb := RQ.c1
       have RQc := RQ.fr 0
       have RQd := RQ.fr 1
       have RRa := RR.c0
       have RRb := RR.c1
       have RRc := RR.fr 0
       have RRd := RR.fr 1
       have BQa := Bq9.c0
       have BQb := Bq9.c1
       have BRa := k61.c0
       have BRb := k61.c1
       have hg1 : g10 ≠ w.heap.size + 1 + 1 := by omega
       have hg2 : g11 ≠ w.heap.size + 1 + 1 := by have := hne2.out; omega
       have hg3 : g10 ≠ w.heap.size + 1 + 1 + 1 := by omega
       have hg4 : g11 ≠ w.heap.size + 1 + 1 + 1 := by have := hne2.out; omega
       go_wp2_with fail
       go_region
       all_goals
         go_wp2_with fail
         simp only [st2_def]
         have q7 := st_two (x := .bool s5) (y := .slice A5 n5 c5) (x' := .bool s6) (y' := .slice A6 n6 c6) RQ RR (by omega)
         have z7 := (zres_two (x := .bool s5) (y := .slice A5 n5 c5) (x' := .bool s6) (y' := .slice A6 n6 c6) zq4 RQ RR (by omega)).below (bl_drewN _ 1)
         have z8 := (zres_two (x := .bool s5) (y := .slice A5 n5 c5) (x' := .bool s6) (y' := .slice A6 n6 c6) zr4 RQ RR (by omega)).below (bl_drewN _ 1)
         exact bodyPost_zze rfl rfl rfl rfl q7.1.drew q7.2.drew rfl ⟨_, _, rfl, z7, z8, (zback (zback KL4.old (by omega) (only_set2 _ (w.heap.size + 1 + 1) (.bool s5) (.slice A5 n5 c5))) (by omega) (only_set2 _ (w.heap.size + 1 + 1 + 1) (.bool s6) (.slice A6 n6 c6))).drew⟩
   · have E := HR.out.2.1 (by omega)
     have E1 := hide E.1.symm
     have E2 := hide E.2.symm
     clear E HR
     have hdec : decide ((Z - q0 * Y).sign * Y.sign < 0) = false := decide_eq_false hneg
     replace rq := rq.ofEq E1.out
     replace rr := rr.ofEq E2.out
     have RQ := KL.blk (List.Mem.tail _ (List.Mem.tail _ (List.Mem.head _)))
     have RR := KL.blk (List.Mem.tail _ (List.Mem.tail _ (List.Mem.tail _ (List.Mem.head _))))
     have RQa := RQ.c0
     have RQb := RQ.c1
     have RQc := RQ.fr 0
     have RQd := RQ.fr 1
     have RRa := RR.c0
     have RRb := RR.c1
     have RRc := RR.fr 0
     have RRd := RR.fr 1
     have BQa := Bq.c0
     have BQb := Bq.c1
     have BRa := Br.c0
     have BRb := Br.c1
     have hg1 : g10 ≠ w.heap.size + 1 + 1 := by omega
     have hg2 : g11 ≠ w.heap.size + 1 + 1 := by have := hne2.out; omega
     have hg3 : g10 ≠ w.heap.size + 1 + 1 + 1 := by omega
     have hg4 : g11 ≠ w.heap.size + 1 + 1 + 1 := by have := hne2.out; omega
     go_wp2_with fail
     go_region
     all_goals
       go_wp2_with fail
       simp only [st2_def]
       have q7 := st_two (x := .bool s3) (y := .slice A3 n3 c3) (x' := .bool s4) (y' := .slice A4 n4 c4) RQ RR (by omega)
       have z7 := (zres_two (x := .bool s3) (y := .slice A3 n3 c3) (x' := .bool s4) (y' := .slice A4 n4 c4) rq RQ RR (by omega)).below (bl_drewN _ 1)
       have z8 := (zres_two (x := .bool s3) (y := .slice A3 n3 c3) (x' := .bool s4) (y' := .slice A4 n4 c4) rr RQ RR (by omega)).below (bl_drewN _ 1)
       exact bodyPost_zze rfl rfl rfl rfl q7.1.drew q7.2.drew rfl ⟨_, _, rfl, z7, z8, (zback (zback KL.old (by omega) (only_set2 _ (w.heap.size + 1 + 1) (.bool s3) (.slice A3 n3 c3))) (by omega) (only_set2 _ (w.heap.size + 1 + 1 + 1) (.bool s4) (.slice A4 n4 c4))).drew⟩
end Go.Proofs.YtdeakieenppmiaaGreatDoor
