/- plumblinelaw02.ZintSums: the walk. -/
import Derived.Test.YtpocaopiaggbmaaZBox
import Derived.Test.YtpocaopiaggbmaaZCount
import Derived.Deep.DeepCutAuto
namespace Go.Proofs.Ytpocaopiaggbmaa
open Go.RowKit

set_option maxRecDepth 100000 in
set_option maxHeartbeats 8000000 in
theorem zintSums_walk (s : Bool) (A : Option Addr) (n c : Nat) (xs : List Nat) (t : Bool) (B : Option Addr) (m d : Nat) (ys : List Nat) (w : World) (hx : Nums w A n xs) (hc : n ≤ c) (hm : c ≤ 9223372036854775807) (hy : Nums w B m ys) (hd : m ≤ d) (hmd : d ≤ 9223372036854775807) :
    Calls Try.prog 6 #[.agg #[.bool s, .slice A n c], .agg #[.bool t, .slice B m d]] w (YesPost w) := by
  obtain ⟨x, y, z2, -⟩ := zstart2 w #[.bool s, .slice A n c] #[.bool t, .slice B m d]
  have K := ((Keeps.nil z2).add y (by omega)).add x (by omega)
  clear x y z2
  by_cases hs : n ≤ 60 ∧ m ≤ 60
  · obtain ⟨hn, hmk⟩ := hs
    have hv : ZIn w (.agg #[.bool s, .slice A n c]) (sg s (Limb.val xs)) 60 := ⟨s, A, n, c, xs, rfl, hx, hc, hm, hn, rfl⟩
    have hu : ZIn w (.agg #[.bool t, .slice B m d]) (sg t (Limb.val ys)) 60 := ⟨t, B, m, d, ys, rfl, hy, hd, hmd, hmk, rfl⟩
    generalize sg s (Limb.val xs) = Z at *
    generalize sg t (Limb.val ys) = Y at *
    go_enter Try.func6, Try.ntmps6
    go_wp2_with fail
    refine (counting_any _).mono ?_
    rintro e w1 ⟨rfl, b1⟩
    have K := K.call b1
    have xa := (K.blk (List.Mem.head _)).c0
    have xb := (K.blk (List.Mem.head _)).c1
    have ya := (K.blk (List.Mem.tail _ (List.Mem.head _))).c0
    have yb := (K.blk (List.Mem.tail _ (List.Mem.head _))).c1
    go_wp2_with fail
    refine (z2short_yes _ _ Z Y 60 60 w1 (hv.below K.old) (hu.below K.old) (by omega) (by omega)).mono ?_
    rintro e w2 ⟨rfl, b2⟩
    have K := K.call b2
    clear xa xb ya yb b1 b2
    go_upto_region 5 with fail
    obtain ⟨WB, HWB⟩ : ∃ WB, KeepsB w WB [(w.heap.size, .bool s, .slice A n c), (w.heap.size + 1, .bool t, .slice B m d)] w2 := ⟨_, K.begin⟩
    have SOF := hide (show ∀ W, KeepsB w WB [(w.heap.size, .bool s, .slice A n c), (w.heap.size + 1, .bool t, .slice B m d)] W → (KeepsB w WB [(w.heap.size, .bool s, .slice A n c), (w.heap.size + 1, .bool t, .slice B m d)] W ∧ W.cell? ⟨w.heap.size, 0, none⟩ = some (.bool s) ∧ W.cell? ⟨w.heap.size, 1, none⟩ = some (.slice A n c) ∧ W.cell? ⟨w.heap.size + 1, 0, none⟩ = some (.bool t) ∧ W.cell? ⟨w.heap.size + 1, 1, none⟩ = some (.slice B m d)) from
      fun W k => ⟨k, (k.keeps.blk (List.Mem.head _)).c0, (k.keeps.blk (List.Mem.head _)).c1, (k.keeps.blk (List.Mem.tail _ (List.Mem.head _))).c0, (k.keeps.blk (List.Mem.tail _ (List.Mem.head _))).c1⟩)
    have hz2 := hide HWB.size
    have HK := hide HWB
    clear HWB
    go_cut [5, 6] (fun s5 s6 wx => ∃ g5 g6 s3 A3 n3 c3 s4 A4 n4 c4, s5 = .pointer (some ⟨g5, 0, none⟩) ∧ s6 = .pointer (some ⟨g6, 0, none⟩) ∧ g5 ≠ g6 ∧ w.heap.size + 1 < g5 ∧ w.heap.size + 1 < g6 ∧ Keeps w [(g5, .bool s3, .slice A3 n3 c3), (g6, .bool s4, .slice A4 n4 c4), (w.heap.size, .bool s, .slice A n c), (w.heap.size + 1, .bool t, .slice B m d)] wx ∧ ZRes wx (.agg #[.bool s3, .slice A3 n3 c3]) Z 60 ∧ ZRes wx (.agg #[.bool s4, .slice A4 n4 c4]) Y 60)
    case first =>
      clear K
      go_region_held3 (fun W => KeepsB w WB [(w.heap.size, .bool s, .slice A n c), (w.heap.size + 1, .bool t, .slice B m d)] W ∧ W.cell? ⟨w.heap.size, 0, none⟩ = some (.bool s) ∧ W.cell? ⟨w.heap.size, 1, none⟩ = some (.slice A n c) ∧ W.cell? ⟨w.heap.size + 1, 0, none⟩ = some (.bool t) ∧ W.cell? ⟨w.heap.size + 1, 1, none⟩ = some (.slice B m d))
        (with_reducible first | (simp only [st2_def]; refine SOF.out _ ?_; (repeat (first | refine KeepsB.alloc ?_ _ | refine KeepsB.st ?_ _ _ (by have h2 := hz2.out; have h3 := hz3.out; have h4 := hz4.out; (try simp only [size_alloc]); omega))); exact K4.out) | exact SOF.out _ HK.out.drew | exact SOF.out _ (KeepsB.call (And.left (a := KeepsB w WB _ _) (by assumption)) (by assumption)) | exact SOF.out _ (KeepsB.alloc (And.left (a := KeepsB w WB _ _) (by assumption)) _) | (refine SOF.out _ ?_; (repeat (refine KeepsB.alloc ?_ _)); exact K4.out))
        (first
          | (go_at_call_of 33 (Value.agg #[.bool s, .slice A n c]); (have kk := And.left (a := KeepsB w WB _ _) (by assumption)); (with_reducible refine (clean_z _ Z 60 _ (hv.below kk.old) (by omega)).mono ?_); rintro e w3 ⟨v3, rfl, r3, b3⟩; obtain ⟨s3, A3, n3, c3, rfl⟩ := r3.form; have hz3 := hide (kk.call b3).size; clear kk; (with_reducible first | (have p3 := (Blk.new _ _).drew.next b3; (try rw [size_alloc] at p3); have p3a := p3.c0; have p3b := p3.c1; have p3c := p3.fr 0; have p3d := p3.fr 1; have p3l := p3.lt; have p3n := Nat.ne_of_lt p3.lt; have p3m := Nat.ne_of_gt p3.lt) | (have p3 := (Blk.new _ _).next b3; (try rw [size_alloc] at p3); have p3a := p3.c0; have p3b := p3.c1; have p3c := p3.fr 0; have p3d := p3.fr 1; have p3l := p3.lt; have p3n := Nat.ne_of_lt p3.lt; have p3m := Nat.ne_of_gt p3.lt) | skip); (with_reducible first | (have q3 := ((Blk.new _ _).alloc _).drew.next b3; (try rw [size_alloc] at q3); have q3a := q3.c0; have q3b := q3.c1; have q3c := q3.fr 0; have q3d := q3.fr 1; have q3l := q3.lt; have q3n := Nat.ne_of_lt q3.lt; have q3m := Nat.ne_of_gt q3.lt) | (have q3 := ((Blk.new _ _).alloc _).next b3; (try rw [size_alloc] at q3); have q3a := q3.c0; have q3b := q3.c1; have q3c := q3.fr 0; have q3d := q3.fr 1; have q3l := q3.lt; have q3n := Nat.ne_of_lt q3.lt; have q3m := Nat.ne_of_gt q3.lt) | skip))
          | (go_at_call_of 33 (Value.agg #[.bool t, .slice B m d]); (have kk := And.left (a := KeepsB w WB _ _) (by assumption)); (with_reducible refine (clean_z _ Y 60 _ (hu.below kk.old) (by omega)).mono ?_); rintro e w4 ⟨v4, rfl, r4, b4⟩; obtain ⟨s4, A4, n4, c4, rfl⟩ := r4.form; have hz4 := hide (kk.call b4).size; have K4 := hide (kk.call b4); clear kk; (with_reducible first | replace r3 := r3.below b4 | replace r3 := (r3.below (bl_alloc _ _)).below b4 | replace r3 := ((r3.below (bl_alloc _ _)).below (bl_alloc _ _)).below b4); (with_reducible first | (have p4 := p3.next b4; (try rw [size_alloc] at p4); have p4a := p4.c0; have p4b := p4.c1; have p4c := p4.fr 0; have p4d := p4.fr 1; have p4l := p4.lt; have p4n := Nat.ne_of_lt p4.lt; have p4m := Nat.ne_of_gt p4.lt) | (have p4 := (p3.alloc _).next b4; (try rw [size_alloc] at p4); have p4a := p4.c0; have p4b := p4.c1; have p4c := p4.fr 0; have p4d := p4.fr 1; have p4l := p4.lt; have p4n := Nat.ne_of_lt p4.lt; have p4m := Nat.ne_of_gt p4.lt) | skip); (with_reducible first | (have q4 := q3.next b4; (try rw [size_alloc] at q4); have q4a := q4.c0; have q4b := q4.c1; have q4c := q4.fr 0; have q4d := q4.fr 1; have q4l := q4.lt; have q4n := Nat.ne_of_lt q4.lt; have q4m := Nat.ne_of_gt q4.lt) | (have q4 := (q3.alloc _).next b4; (try rw [size_alloc] at q4); have q4a := q4.c0; have q4b := q4.c1; have q4c := q4.fr 0; have q4d := q4.fr 1; have q4l := q4.lt; have q4n := Nat.ne_of_lt q4.lt; have q4m := Nat.ne_of_gt q4.lt) | skip); (with_reducible first | (have u4 := (Blk.new _ _).next b4; (try rw [size_alloc] at u4); have u4a := u4.c0; have u4b := u4.c1; have u4c := u4.fr 0; have u4d := u4.fr 1; have u4l := u4.lt; have u4n := Nat.ne_of_lt u4.lt; have u4m := Nat.ne_of_gt u4.lt) | skip); (with_reducible first | (have m4 := ((Blk.new _ _).alloc _).next b4; (try rw [size_alloc] at m4); have m4a := m4.c0; have m4b := m4.c1; have m4c := m4.fr 0; have m4d := m4.fr 1; have m4l := m4.lt; have m4n := Nat.ne_of_lt m4.lt; have m4m := Nat.ne_of_gt m4.lt) | skip)))
      all_goals
        go_wp2_with fail
        go_meet
        case rel =>
          (try simp only [st2_def])
          refine ⟨_, _, s3, A3, n3, c3, s4, A4, n4, c4, rfl, rfl, ?_, ?_, ?_, ?_, ?_, ?_⟩
          · (try simp only [size_alloc, st2_size]); omega
          · have h1 : w.heap.size + 1 < WB := HK.out.2.2.2 _ (List.Mem.tail _ (List.Mem.head _)); have h2 := hz2.out; have h3 := hz3.out; have h4 := hz4.out; (try simp only [size_alloc, st2_size]); omega
          · have h1 : w.heap.size + 1 < WB := HK.out.2.2.2 _ (List.Mem.tail _ (List.Mem.head _)); have h2 := hz2.out; have h3 := hz3.out; have h4 := hz4.out; (try simp only [size_alloc, st2_size]); omega
          · exact KeepsB.add2 (B := WB) (by with_reducible ((repeat (first | refine KeepsB.alloc ?_ _ | refine KeepsB.st ?_ _ _ (by have h2 := hz2.out; have h3 := hz3.out; have h4 := hz4.out; (try simp only [size_alloc, st2_size]); omega))); exact K4.out)) (by with_reducible (repeat (first | assumption | exact Blk.newAt _ _ (by simp only [size_alloc, st2_size]) | refine Blk.alloc ?_ _ | refine Blk.stSame ?_ | refine Blk.stOther ?_ (by (try simp only [size_alloc, st2_size]); omega)))) (by with_reducible (repeat (first | assumption | exact Blk.newAt _ _ (by simp only [size_alloc, st2_size]) | refine Blk.alloc ?_ _ | refine Blk.stSame ?_ | refine Blk.stOther ?_ (by (try simp only [size_alloc, st2_size]); omega)))) (by have h2 := hz2.out; have h3 := hz3.out; have h4 := hz4.out; (try simp only [size_alloc, st2_size]); omega) (by have h2 := hz2.out; have h3 := hz3.out; have h4 := hz4.out; (try simp only [size_alloc, st2_size]); omega)
          · exact (by with_reducible ((repeat (first | refine ZRes.alloc ?_ _ | refine ZRes.st ?_ (by with_reducible (repeat (first | assumption | exact Blk.newAt _ _ (by simp only [size_alloc, st2_size]) | refine Blk.alloc ?_ _ | refine Blk.stSame ?_ | refine Blk.stOther ?_ (by (try simp only [size_alloc, st2_size]); omega)))))); exact r3))
          · exact (by with_reducible ((repeat (first | refine ZRes.alloc ?_ _ | refine ZRes.st ?_ (by with_reducible (repeat (first | assumption | exact Blk.newAt _ _ (by simp only [size_alloc, st2_size]) | refine Blk.alloc ?_ _ | refine Blk.stSame ?_ | refine Blk.stOther ?_ (by (try simp only [size_alloc, st2_size]); omega)))))); exact r4))
    case rest =>
      obtain ⟨g5, g6, s3, A3, n3, c3, s4, A4, n4, c4, rfl, rfl, hne, hg5, hg6, K, r3, r4⟩ := hcut
      clear SOF HK hz2
      have HNE := hide hne
      clear hne
      have la := (K.blk (List.Mem.head _)).c0
      have lb := (K.blk (List.Mem.head _)).c1
      have ga := (K.blk (List.Mem.tail _ (List.Mem.head _))).c0
      have gb := (K.blk (List.Mem.tail _ (List.Mem.head _))).c1
      have xa := (K.blk (List.Mem.tail _ (List.Mem.tail _ (List.Mem.head _)))).c0
      have xb := (K.blk (List.Mem.tail _ (List.Mem.tail _ (List.Mem.head _)))).c1
      have ya := (K.blk (List.Mem.tail _ (List.Mem.tail _ (List.Mem.tail _ (List.Mem.head _))))).c0
      have yb := (K.blk (List.Mem.tail _ (List.Mem.tail _ (List.Mem.tail _ (List.Mem.head _))))).c1
      have hc1 := rzcmp_z _ _ Z Y 60 _ (hv.below K.old) (hu.below K.old) (by omega)
      have HC := hide (fun W (h1 : ZIn W (.agg #[.bool s, .slice A n c]) Z 60) (h2 : ZIn W (.agg #[.bool t, .slice B m d]) Y 60) => cmp_z _ _ Z Y 60 W h1 h2 (by omega))
      unfold CmpZPost at hc1 HC
      have esig : (Z.sign == Z.sign) = true := by simp
      by_cases hgt : Y < Z
      · rw [sgn3_gt hgt] at hc1 HC
        have hle : ¬ Z < Y := by omega
        have r3 := r3.ofEq (show Z = if Z < Y then Y else Z by rw [if_neg hle])
        have r4 := r4.ofEq (show Y = if Y < Z then Y else Z by rw [if_pos hgt])
        clear hle hgt
        go_wp2_with fail
        refine hc1.mono ?_
        rintro e w5 ⟨rfl, b5⟩
        replace K := K.call b5
        clear la lb ga gb xa xb ya yb hc1
        have G5 := hide (K.blk (List.Mem.head _))
        have G6 := hide (K.blk (List.Mem.tail _ (List.Mem.head _)))
        have la := G5.out.c0
        have lb := G5.out.c1
        have ga := G6.out.c0
        have gb := G6.out.c1
        go_wp2_with (first | (with_reducible refine wpList_store_z rfl _ _ rfl g5 _ _ _ _ rfl rfl _ _ G5.out ?_; intro w6 k6 ho6; have HO6 := hide ho6; clear ho6 la lb; have ga := (G6.out.other HO6.out (Ne.symm HNE.out)).c0; have gb := (G6.out.other HO6.out (Ne.symm HNE.out)).c1) | (with_reducible refine wpList_store_z rfl _ _ rfl g6 _ _ _ _ rfl rfl _ _ (G6.out.other HO6.out (Ne.symm HNE.out)) ?_; intro w7 k7 ho7; have HO7 := hide ho7; clear ho7 ga gb; replace K := Keeps.swap2 K HO6.out HO7.out k6 k7 HNE.out (by omega) (by omega); have xa := (K.blk (List.Mem.tail _ (List.Mem.tail _ (List.Mem.head _)))).c0; have xb := (K.blk (List.Mem.tail _ (List.Mem.tail _ (List.Mem.head _)))).c1; have ya := (K.blk (List.Mem.tail _ (List.Mem.tail _ (List.Mem.tail _ (List.Mem.head _))))).c0; have yb := (K.blk (List.Mem.tail _ (List.Mem.tail _ (List.Mem.tail _ (List.Mem.head _))))).c1))
        have rL := ((r4.below b5).only G5.out HO6.out).only (G6.out.other HO6.out (Ne.symm HNE.out)) HO7.out
        have rH := ((r3.below b5).only G5.out HO6.out).only (G6.out.other HO6.out (Ne.symm HNE.out)) HO7.out
        clear G5 G6 HO6 HO7 k6 k7 b5 r3 r4 xa xb ya yb
        have SOF := hide (show ∀ W, Keeps w [(g5, .bool s4, .slice A4 n4 c4), (g6, .bool s3, .slice A3 n3 c3), (w.heap.size, .bool s, .slice A n c), (w.heap.size + 1, .bool t, .slice B m d)] W → (fun W => Keeps w [(g5, .bool s4, .slice A4 n4 c4), (g6, .bool s3, .slice A3 n3 c3), (w.heap.size, .bool s, .slice A n c), (w.heap.size + 1, .bool t, .slice B m d)] W ∧ W.cell? ⟨g5, 0, none⟩ = some (.bool s4) ∧ W.cell? ⟨g5, 1, none⟩ = some (.slice A4 n4 c4) ∧ W.cell? ⟨g6, 0, none⟩ = some (.bool s3) ∧ W.cell? ⟨g6, 1, none⟩ = some (.slice A3 n3 c3) ∧ W.cell? ⟨w.heap.size, 0, none⟩ = some (.bool s) ∧ W.cell? ⟨w.heap.size, 1, none⟩ = some (.slice A n c) ∧ W.cell? ⟨w.heap.size + 1, 0, none⟩ = some (.bool t) ∧ W.cell? ⟨w.heap.size + 1, 1, none⟩ = some (.slice B m d)) W from fun W k => ⟨k, (k.blk (List.Mem.head _)).c0, (k.blk (List.Mem.head _)).c1, (k.blk (List.Mem.tail _ (List.Mem.head _))).c0, (k.blk (List.Mem.tail _ (List.Mem.head _))).c1, (k.blk (List.Mem.tail _ (List.Mem.tail _ (List.Mem.head _)))).c0, (k.blk (List.Mem.tail _ (List.Mem.tail _ (List.Mem.head _)))).c1, (k.blk (List.Mem.tail _ (List.Mem.tail _ (List.Mem.tail _ (List.Mem.head _))))).c0, (k.blk (List.Mem.tail _ (List.Mem.tail _ (List.Mem.tail _ (List.Mem.head _))))).c1⟩)
        have HK := hide K
        have T10 : Below w7.heap.size w7 w7.drew := bl_drewN w7 1
        clear K
        simp only [List.append, List.append_eq, List.cons_append, List.nil_append]
        go_region_held3 (fun W => Keeps w [(g5, .bool s4, .slice A4 n4 c4), (g6, .bool s3, .slice A3 n3 c3), (w.heap.size, .bool s, .slice A n c), (w.heap.size + 1, .bool t, .slice B m d)] W ∧ W.cell? ⟨g5, 0, none⟩ = some (.bool s4) ∧ W.cell? ⟨g5, 1, none⟩ = some (.slice A4 n4 c4) ∧ W.cell? ⟨g6, 0, none⟩ = some (.bool s3) ∧ W.cell? ⟨g6, 1, none⟩ = some (.slice A3 n3 c3) ∧ W.cell? ⟨w.heap.size, 0, none⟩ = some (.bool s) ∧ W.cell? ⟨w.heap.size, 1, none⟩ = some (.slice A n c) ∧ W.cell? ⟨w.heap.size + 1, 0, none⟩ = some (.bool t) ∧ W.cell? ⟨w.heap.size + 1, 1, none⟩ = some (.slice B m d))
          (with_reducible first | exact SOF.out _ HK.out.drew | exact SOF.out _ (Keeps.call (And.left (a := Keeps w _ _) (by assumption)) (by assumption)))
          (first
            | (go_at_call 36; (with_reducible refine (add_z _ _ Z Y 60 w7.drew (hv.below (HK.out.old.next T10)) (hu.below (HK.out.old.next T10)) (by omega)).mono ?_); rintro e w11 ⟨v11, rfl, r11, b11⟩; have T11 := T10.next b11)
            | (go_at_call 37; (with_reducible refine (rzadd_z _ _ Z Y 60 w11 (hv.below (HK.out.old.next T11)) (hu.below (HK.out.old.next T11)) (by omega)).mono ?_); rintro e w12 ⟨v12, rfl, r12, b12⟩; have T12 := T11.next b12)
            | (go_at_call 35; (with_reducible refine (z2same_yes _ _ (Z + Y) 61 61 w12 (r11.below b12) r12 (by omega)).mono ?_); rintro e w13 ⟨rfl, b13⟩; have T13 := T12.next b13)
            | (go_at_call 38; (with_reducible refine (sub_z _ _ Z Y 60 w13 (hv.below (HK.out.old.next T13)) (hu.below (HK.out.old.next T13)) (by omega)).mono ?_); rintro e w14 ⟨v14, rfl, r14, b14⟩; have T14 := T13.next b14)
            | (go_at_call 39; (with_reducible refine (rzsub_z _ _ Z Y 60 w14 (hv.below (HK.out.old.next T14)) (hu.below (HK.out.old.next T14)) (by omega)).mono ?_); rintro e w15 ⟨v15, rfl, r15, b15⟩; have T15 := T14.next b15)
            | (go_at_call 35; (with_reducible refine (z2same_yes _ _ (Z - Y) 61 61 w15 (r14.below b15) r15 (by omega)).mono ?_); rintro e w16 ⟨rfl, b16⟩; have T16 := T15.next b16)
            | (go_at_call 40; (with_reducible refine (mul_z _ _ Z Y 60 60 w16 (hv.below (HK.out.old.next T16)) (hu.below (HK.out.old.next T16)) (by omega) (by omega)).mono ?_); rintro e w17 ⟨v17, rfl, r17, b17⟩; have T17 := T16.next b17)
            | (go_at_call 41; (with_reducible refine (rzmul_z _ _ Z Y 60 60 w17 (hv.below (HK.out.old.next T17)) (hu.below (HK.out.old.next T17)) (by omega) (by omega)).mono ?_); rintro e w18 ⟨v18, rfl, r18, b18⟩; have T18 := T17.next b18)
            | (go_at_call 35; (with_reducible refine (z2same_yes _ _ (Z * Y) 120 120 w18 (r17.below b18) r18 (by omega)).mono ?_); rintro e w19 ⟨rfl, b19⟩; have T19 := T18.next b19)
            | (go_at_call 42; (with_reducible refine (HC.out w19 (hv.below (HK.out.old.next T19)) (hu.below (HK.out.old.next T19))).mono ?_); rintro e w20 ⟨rfl, b20⟩; have T20 := T19.next b20)
            | (go_at_call 43; (with_reducible refine (sign_z _ Z 60 w20 (hv.below (HK.out.old.next T20)) (by omega)).mono ?_); rintro e w21 ⟨rfl, b21⟩; have T21 := T20.next b21)
            | (go_at_call 44; (with_reducible refine (rsign_z _ Z 60 w21 (hv.below (HK.out.old.next T21)) (by omega)).mono ?_); rintro e w22 ⟨rfl, b22⟩; have T22 := T21.next b22)
            | (go_at_call 45; (with_reducible refine (neg_z _ Z 60 w22 (hv.below (HK.out.old.next T22)) (by omega)).mono ?_); rintro e w23 ⟨v23, rfl, r23, b23⟩; have T23 := T22.next b23)
            | (go_at_call 46; (with_reducible refine (rneg_z _ Z 60 w23 (hv.below (HK.out.old.next T23)) (by omega)).mono ?_); rintro e w24 ⟨v24, rfl, r24, b24⟩; have T24 := T23.next b24)
            | (go_at_call 35; (with_reducible refine (z2same_yes _ _ (-Z) 60 60 w24 (r23.below b24) r24 (by omega)).mono ?_); rintro e w25 ⟨rfl, b25⟩; have T25 := T24.next b25)
            | (go_at_call 47; (with_reducible refine (abs_z _ Z 60 w25 (hv.below (HK.out.old.next T25)) (by omega)).mono ?_); rintro e w26 ⟨v26, rfl, r26, b26⟩; have T26 := T25.next b26)
            | (go_at_call 48; (with_reducible refine (rabs_z _ Z 60 w26 (hv.below (HK.out.old.next T26)) (by omega)).mono ?_); rintro e w27 ⟨v27, rfl, r27, b27⟩; have T27 := T26.next b27)
            | (go_at_call 35; (with_reducible refine (z2same_yes _ _ (Z.natAbs : Int) 60 60 w27 (r26.below b27) r27 (by omega)).mono ?_); rintro e w28 ⟨rfl, b28⟩; have T28 := T27.next b28)
            | (go_at_call 49; (with_reducible refine (min_z _ _ Z Y 60 w28 (hv.below (HK.out.old.next T28)) (hu.below (HK.out.old.next T28)) (by omega)).mono ?_); rintro e w29 ⟨v29, rfl, r29, b29⟩; have T29 := T28.next b29)
            | (go_at_call 35; (with_reducible refine (z2same_yes _ _ (if Y < Z then Y else Z) 60 60 w29 r29 (rL.below T29) (by omega)).mono ?_); rintro e w30 ⟨rfl, b30⟩; have T30 := T29.next b30)
            | (go_at_call 50; (with_reducible refine (max_z _ _ Z Y 60 w30 (hv.below (HK.out.old.next T30)) (hu.below (HK.out.old.next T30)) (by omega)).mono ?_); rintro e w31 ⟨v31, rfl, r31, b31⟩; have T31 := T30.next b31)
            | (go_at_call 35; (with_reducible refine (z2same_yes _ _ (if Z < Y then Y else Z) 60 60 w31 r31 (rH.below T31) (by omega)).mono ?_); rintro e w32 ⟨rfl, b32⟩; have T32 := T31.next b32))
        go_wp2_with fail
        go_ret
        exact ⟨rfl, HK.out.old.next T32⟩
      · have hq : ¬ (0 < sgn3 Z Y) := by unfold sgn3; split <;> (try split) <;> omega
        have rL := r3.ofEq (show Z = if Y < Z then Y else Z by rw [if_neg hgt])
        have rH := r4.ofEq (show Y = if Z < Y then Y else Z by split <;> omega)
        have eq1 : (sgn3 Z Y == sgn3 Z Y) = true := by simp
        generalize sgn3 Z Y = q at *
        clear hgt r3 r4
        go_wp2_with fail
        refine hc1.mono ?_
        rintro e w5 ⟨rfl, b5⟩
        replace K := K.call b5
        replace rL := rL.below b5
        replace rH := rH.below b5
        clear la lb ga gb xa xb ya yb hc1 b5
        go_wp2_with fail
        have SOF := hide (show ∀ W, Keeps w [(g5, .bool s3, .slice A3 n3 c3), (g6, .bool s4, .slice A4 n4 c4), (w.heap.size, .bool s, .slice A n c), (w.heap.size + 1, .bool t, .slice B m d)] W → (fun W => Keeps w [(g5, .bool s3, .slice A3 n3 c3), (g6, .bool s4, .slice A4 n4 c4), (w.heap.size, .bool s, .slice A n c), (w.heap.size + 1, .bool t, .slice B m d)] W ∧ W.cell? ⟨g5, 0, none⟩ = some (.bool s3) ∧ W.cell? ⟨g5, 1, none⟩ = some (.slice A3 n3 c3) ∧ W.cell? ⟨g6, 0, none⟩ = some (.bool s4) ∧ W.cell? ⟨g6, 1, none⟩ = some (.slice A4 n4 c4) ∧ W.cell? ⟨w.heap.size, 0, none⟩ = some (.bool s) ∧ W.cell? ⟨w.heap.size, 1, none⟩ = some (.slice A n c) ∧ W.cell? ⟨w.heap.size + 1, 0, none⟩ = some (.bool t) ∧ W.cell? ⟨w.heap.size + 1, 1, none⟩ = some (.slice B m d)) W from fun W k => ⟨k, (k.blk (List.Mem.head _)).c0, (k.blk (List.Mem.head _)).c1, (k.blk (List.Mem.tail _ (List.Mem.head _))).c0, (k.blk (List.Mem.tail _ (List.Mem.head _))).c1, (k.blk (List.Mem.tail _ (List.Mem.tail _ (List.Mem.head _)))).c0, (k.blk (List.Mem.tail _ (List.Mem.tail _ (List.Mem.head _)))).c1, (k.blk (List.Mem.tail _ (List.Mem.tail _ (List.Mem.tail _ (List.Mem.head _))))).c0, (k.blk (List.Mem.tail _ (List.Mem.tail _ (List.Mem.tail _ (List.Mem.head _))))).c1⟩)
        have HK := hide K
        have T10 : Below w5.heap.size w5 w5.drew := bl_drewN w5 1
        clear K
        simp only [List.append, List.append_eq, List.cons_append, List.nil_append]
        go_region_held3 (fun W => Keeps w [(g5, .bool s3, .slice A3 n3 c3), (g6, .bool s4, .slice A4 n4 c4), (w.heap.size, .bool s, .slice A n c), (w.heap.size + 1, .bool t, .slice B m d)] W ∧ W.cell? ⟨g5, 0, none⟩ = some (.bool s3) ∧ W.cell? ⟨g5, 1, none⟩ = some (.slice A3 n3 c3) ∧ W.cell? ⟨g6, 0, none⟩ = some (.bool s4) ∧ W.cell? ⟨g6, 1, none⟩ = some (.slice A4 n4 c4) ∧ W.cell? ⟨w.heap.size, 0, none⟩ = some (.bool s) ∧ W.cell? ⟨w.heap.size, 1, none⟩ = some (.slice A n c) ∧ W.cell? ⟨w.heap.size + 1, 0, none⟩ = some (.bool t) ∧ W.cell? ⟨w.heap.size + 1, 1, none⟩ = some (.slice B m d))
          (with_reducible first | exact SOF.out _ HK.out.drew | exact SOF.out _ (Keeps.call (And.left (a := Keeps w _ _) (by assumption)) (by assumption)))
          (first
            | (go_at_call 36; (with_reducible refine (add_z _ _ Z Y 60 w5.drew (hv.below (HK.out.old.next T10)) (hu.below (HK.out.old.next T10)) (by omega)).mono ?_); rintro e w11 ⟨v11, rfl, r11, b11⟩; have T11 := T10.next b11)
            | (go_at_call 37; (with_reducible refine (rzadd_z _ _ Z Y 60 w11 (hv.below (HK.out.old.next T11)) (hu.below (HK.out.old.next T11)) (by omega)).mono ?_); rintro e w12 ⟨v12, rfl, r12, b12⟩; have T12 := T11.next b12)
            | (go_at_call 35; (with_reducible refine (z2same_yes _ _ (Z + Y) 61 61 w12 (r11.below b12) r12 (by omega)).mono ?_); rintro e w13 ⟨rfl, b13⟩; have T13 := T12.next b13)
            | (go_at_call 38; (with_reducible refine (sub_z _ _ Z Y 60 w13 (hv.below (HK.out.old.next T13)) (hu.below (HK.out.old.next T13)) (by omega)).mono ?_); rintro e w14 ⟨v14, rfl, r14, b14⟩; have T14 := T13.next b14)
            | (go_at_call 39; (with_reducible refine (rzsub_z _ _ Z Y 60 w14 (hv.below (HK.out.old.next T14)) (hu.below (HK.out.old.next T14)) (by omega)).mono ?_); rintro e w15 ⟨v15, rfl, r15, b15⟩; have T15 := T14.next b15)
            | (go_at_call 35; (with_reducible refine (z2same_yes _ _ (Z - Y) 61 61 w15 (r14.below b15) r15 (by omega)).mono ?_); rintro e w16 ⟨rfl, b16⟩; have T16 := T15.next b16)
            | (go_at_call 40; (with_reducible refine (mul_z _ _ Z Y 60 60 w16 (hv.below (HK.out.old.next T16)) (hu.below (HK.out.old.next T16)) (by omega) (by omega)).mono ?_); rintro e w17 ⟨v17, rfl, r17, b17⟩; have T17 := T16.next b17)
            | (go_at_call 41; (with_reducible refine (rzmul_z _ _ Z Y 60 60 w17 (hv.below (HK.out.old.next T17)) (hu.below (HK.out.old.next T17)) (by omega) (by omega)).mono ?_); rintro e w18 ⟨v18, rfl, r18, b18⟩; have T18 := T17.next b18)
            | (go_at_call 35; (with_reducible refine (z2same_yes _ _ (Z * Y) 120 120 w18 (r17.below b18) r18 (by omega)).mono ?_); rintro e w19 ⟨rfl, b19⟩; have T19 := T18.next b19)
            | (go_at_call 42; (with_reducible refine (HC.out w19 (hv.below (HK.out.old.next T19)) (hu.below (HK.out.old.next T19))).mono ?_); rintro e w20 ⟨rfl, b20⟩; have T20 := T19.next b20)
            | (go_at_call 43; (with_reducible refine (sign_z _ Z 60 w20 (hv.below (HK.out.old.next T20)) (by omega)).mono ?_); rintro e w21 ⟨rfl, b21⟩; have T21 := T20.next b21)
            | (go_at_call 44; (with_reducible refine (rsign_z _ Z 60 w21 (hv.below (HK.out.old.next T21)) (by omega)).mono ?_); rintro e w22 ⟨rfl, b22⟩; have T22 := T21.next b22)
            | (go_at_call 45; (with_reducible refine (neg_z _ Z 60 w22 (hv.below (HK.out.old.next T22)) (by omega)).mono ?_); rintro e w23 ⟨v23, rfl, r23, b23⟩; have T23 := T22.next b23)
            | (go_at_call 46; (with_reducible refine (rneg_z _ Z 60 w23 (hv.below (HK.out.old.next T23)) (by omega)).mono ?_); rintro e w24 ⟨v24, rfl, r24, b24⟩; have T24 := T23.next b24)
            | (go_at_call 35; (with_reducible refine (z2same_yes _ _ (-Z) 60 60 w24 (r23.below b24) r24 (by omega)).mono ?_); rintro e w25 ⟨rfl, b25⟩; have T25 := T24.next b25)
            | (go_at_call 47; (with_reducible refine (abs_z _ Z 60 w25 (hv.below (HK.out.old.next T25)) (by omega)).mono ?_); rintro e w26 ⟨v26, rfl, r26, b26⟩; have T26 := T25.next b26)
            | (go_at_call 48; (with_reducible refine (rabs_z _ Z 60 w26 (hv.below (HK.out.old.next T26)) (by omega)).mono ?_); rintro e w27 ⟨v27, rfl, r27, b27⟩; have T27 := T26.next b27)
            | (go_at_call 35; (with_reducible refine (z2same_yes _ _ (Z.natAbs : Int) 60 60 w27 (r26.below b27) r27 (by omega)).mono ?_); rintro e w28 ⟨rfl, b28⟩; have T28 := T27.next b28)
            | (go_at_call 49; (with_reducible refine (min_z _ _ Z Y 60 w28 (hv.below (HK.out.old.next T28)) (hu.below (HK.out.old.next T28)) (by omega)).mono ?_); rintro e w29 ⟨v29, rfl, r29, b29⟩; have T29 := T28.next b29)
            | (go_at_call 35; (with_reducible refine (z2same_yes _ _ (if Y < Z then Y else Z) 60 60 w29 r29 (rL.below T29) (by omega)).mono ?_); rintro e w30 ⟨rfl, b30⟩; have T30 := T29.next b30)
            | (go_at_call 50; (with_reducible refine (max_z _ _ Z Y 60 w30 (hv.below (HK.out.old.next T30)) (hu.below (HK.out.old.next T30)) (by omega)).mono ?_); rintro e w31 ⟨v31, rfl, r31, b31⟩; have T31 := T30.next b31)
            | (go_at_call 35; (with_reducible refine (z2same_yes _ _ (if Z < Y then Y else Z) 60 60 w31 r31 (rH.below T31) (by omega)).mono ?_); rintro e w32 ⟨rfl, b32⟩; have T32 := T31.next b32))
        go_wp2_with fail
        go_ret
        exact ⟨rfl, HK.out.old.next T32⟩
  · go_enter Try.func6, Try.ntmps6
    go_wp2_with fail
    refine (counting_any _).mono ?_
    rintro e w1 ⟨rfl, b1⟩
    replace K := K.call b1
    have xa := (K.blk (List.Mem.head _)).c0
    have xb := (K.blk (List.Mem.head _)).c1
    have ya := (K.blk (List.Mem.tail _ (List.Mem.head _))).c0
    have yb := (K.blk (List.Mem.tail _ (List.Mem.head _))).c1
    go_wp2_with fail
    refine (z2short_no s t A B n c m d 60 w1 (by omega) (by omega) (by omega) (by omega)).mono ?_
    rintro e w2 ⟨rfl, b2⟩
    go_wp2_with fail
    go_ret
    exact ⟨rfl, K.old.next b2⟩
end Go.Proofs.Ytpocaopiaggbmaa
