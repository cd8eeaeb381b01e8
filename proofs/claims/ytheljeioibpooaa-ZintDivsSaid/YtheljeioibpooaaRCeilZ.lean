/- plumblineref02: Ceil. -/
import Derived.Test.YtheljeioibpooaaRDivZ
namespace Go.Proofs.Ytheljeioibpooaa
open Go.RowKit

def ZAns (k0 : Int) (Z : Int) (k : Nat) (w : World) (e : Ending) (w' : World) : Prop := ∃ v, e = .returned (.tuple #[v, .int .i64 k0]) ∧ ZRes w' v Z k ∧ Below w.heap.size w w'
set_option maxRecDepth 100000 in
set_option maxHeartbeats 8000000 in
theorem rceil_yes (v u : Value) (Z Y : Int) (k j : Nat) (w : World) (hv : ZIn w v Z k) (hu : ZIn w u Y j) (hY : Y ≠ 0) (hk : k ≤ 68719476) (hj : j ≤ 68719476) : Calls Try.prog 48 #[v, u] w (ZOk (cdiv Z Y) k w) := by
  have hv0 := hv
  have hu0 := hu
  obtain ⟨s, A, n, c, xs, rfl, -⟩ := hv
  obtain ⟨t, B, m, d, ys, rfl, -⟩ := hu
  have HY := hide hY
  clear hY
  obtain ⟨x0, y0, r0, z2, -⟩ := zstart3 w #[.bool s, .slice A n c] #[.bool t, .slice B m d] #[.bool false, .slice none 0 0]
  have K := (((Keeps.nil z2).add r0 (by omega)).add y0 (by omega)).add x0 (by omega)
  clear x0 y0 r0 z2
  go_enter Try.func48, Try.ntmps48
  go_upto_region 1 with fail
  obtain ⟨WB, HWB⟩ : ∃ WB, KeepsB w WB [(w.heap.size, .bool s, .slice A n c), (w.heap.size + 1, .bool t, .slice B m d), (w.heap.size + 1 + 1, .bool false, .slice none 0 0)] (((w.alloc (.cells #[.bool s, .slice A n c] 37)).alloc (.cells #[.bool t, .slice B m d] 37)).alloc (.cells #[.bool false, .slice none 0 0] 37)) := ⟨_, K.begin⟩
  have SOF := hide (show ∀ W, KeepsB w WB [(w.heap.size, .bool s, .slice A n c), (w.heap.size + 1, .bool t, .slice B m d), (w.heap.size + 1 + 1, .bool false, .slice none 0 0)] W → (fun W => KeepsB w WB [(w.heap.size, .bool s, .slice A n c), (w.heap.size + 1, .bool t, .slice B m d), (w.heap.size + 1 + 1, .bool false, .slice none 0 0)] W ∧ W.cell? ⟨w.heap.size, 0, none⟩ = some (.bool s) ∧ W.cell? ⟨w.heap.size, 1, none⟩ = some (.slice A n c) ∧ W.cell? ⟨w.heap.size + 1, 0, none⟩ = some (.bool t) ∧ W.cell? ⟨w.heap.size + 1, 1, none⟩ = some (.slice B m d)) W from fun W k => ⟨k, (k.keeps.blk (List.Mem.head _)).c0, (k.keeps.blk (List.Mem.head _)).c1, (k.keeps.blk (List.Mem.tail _ (List.Mem.head _))).c0, (k.keeps.blk (List.Mem.tail _ (List.Mem.head _))).c1⟩)
  have hz0a := HWB.size
  simp only [size_alloc] at hz0a
  have hz0 := hide hz0a
  clear hz0a
  have HK := hide HWB
  clear HWB K
  go_cut [6, 7, 8] (fun s6 s7 s8 wx => ∃ g6 g7 s3 A3 n3 c3 s4 A4 n4 c4, s6 = .pointer (some ⟨g6, 0, none⟩) ∧ s7 = .pointer (some ⟨g7, 0, none⟩) ∧ s8 = .int .i64 0 ∧ Keeps w ((g6, .bool s3, .slice A3 n3 c3) :: (g7, .bool s4, .slice A4 n4 c4) :: [(w.heap.size, .bool s, .slice A n c), (w.heap.size + 1, .bool t, .slice B m d), (w.heap.size + 1 + 1, .bool false, .slice none 0 0)]) wx ∧ ZRes wx (.agg #[.bool s3, .slice A3 n3 c3]) ((-Z).fdiv Y) k ∧ w.heap.size + 1 + 1 < g6)
  case first =>
    go_region_held3 (fun W => KeepsB w WB [(w.heap.size, .bool s, .slice A n c), (w.heap.size + 1, .bool t, .slice B m d), (w.heap.size + 1 + 1, .bool false, .slice none 0 0)] W ∧ W.cell? ⟨w.heap.size, 0, none⟩ = some (.bool s) ∧ W.cell? ⟨w.heap.size, 1, none⟩ = some (.slice A n c) ∧ W.cell? ⟨w.heap.size + 1, 0, none⟩ = some (.bool t) ∧ W.cell? ⟨w.heap.size + 1, 1, none⟩ = some (.slice B m d))
      (with_reducible first | (simp only [st2_def]; refine SOF.out _ ?_; (repeat (first | refine KeepsB.alloc ?_ _ | refine KeepsB.st ?_ _ _ (by have h2 := hz0.out; have h3 := hz20.out; have h4 := hz21.out; (try simp only [size_alloc, st2_size]); omega))); exact K21.out) | exact SOF.out _ HK.out.drew | exact SOF.out _ (KeepsB.call (And.left (a := KeepsB w WB _ _) (by assumption)) (by assumption)) | exact SOF.out _ (KeepsB.alloc (And.left (a := KeepsB w WB _ _) (by assumption)) _) | (refine SOF.out _ ?_; (repeat (refine KeepsB.alloc ?_ _)); exact K21.out))
      (first
        | (go_at_call 39; (have kk := (And.left (a := KeepsB w WB _ _) (by assumption))); (with_reducible refine (rneg_z _ Z k _ (hv0.below kk.old) (by omega)).mono ?_); rintro e w20 ⟨v20, rfl, r20, b20⟩; have hz20 := hide (kk.call b20).size; clear kk; (with_reducible first | (have p20 := (Blk.new _ _).drew.next b20; (try simp only [size_alloc] at p20); have p20a := p20.c0; have p20b := p20.c1; have p20c := p20.fr 0; have p20d := p20.fr 1; have p20l := p20.lt; have p20n := Nat.ne_of_lt p20.lt; have p20m := Nat.ne_of_gt p20.lt) | (have p20 := (Blk.new _ _).next b20; (try simp only [size_alloc] at p20); have p20a := p20.c0; have p20b := p20.c1; have p20c := p20.fr 0; have p20d := p20.fr 1; have p20l := p20.lt; have p20n := Nat.ne_of_lt p20.lt; have p20m := Nat.ne_of_gt p20.lt) | skip); (with_reducible first | (have q20 := ((Blk.new _ _).alloc _).drew.next b20; (try simp only [size_alloc] at q20); have q20a := q20.c0; have q20b := q20.c1; have q20c := q20.fr 0; have q20d := q20.fr 1; have q20l := q20.lt; have q20n := Nat.ne_of_lt q20.lt; have q20m := Nat.ne_of_gt q20.lt) | (have q20 := ((Blk.new _ _).alloc _).next b20; (try simp only [size_alloc] at q20); have q20a := q20.c0; have q20b := q20.c1; have q20c := q20.fr 0; have q20d := q20.fr 1; have q20l := q20.lt; have q20n := Nat.ne_of_lt q20.lt; have q20m := Nat.ne_of_gt q20.lt) | skip))
        | (go_at_call 46; (have kk := (And.left (a := KeepsB w WB _ _) (by assumption))); (with_reducible refine (rzdiv_yes _ _ (-Z) Y k j _ (by first | exact r20.in_ | exact (r20.alloc _).in_ | exact ((r20.alloc _).alloc _).in_) (hu0.below kk.old) HY.out (by omega) (by omega)).mono ?_); rintro e w21 ⟨u21, v21, rfl, zq, zr, b21⟩; obtain ⟨s3, A3, n3, c3, rfl⟩ := zq.form; obtain ⟨s4, A4, n4, c4, rfl⟩ := zr.form; have hz21 := hide (kk.call b21).size; have K21 := hide (kk.call b21); clear kk; (with_reducible first | (have p21 := p20.next b21; (try simp only [size_alloc] at p21); have p21a := p21.c0; have p21b := p21.c1; have p21c := p21.fr 0; have p21d := p21.fr 1; have p21l := p21.lt; have p21n := Nat.ne_of_lt p21.lt; have p21m := Nat.ne_of_gt p21.lt) | (have p21 := (p20.alloc _).next b21; (try simp only [size_alloc] at p21); have p21a := p21.c0; have p21b := p21.c1; have p21c := p21.fr 0; have p21d := p21.fr 1; have p21l := p21.lt; have p21n := Nat.ne_of_lt p21.lt; have p21m := Nat.ne_of_gt p21.lt) | (have p21 := ((p20.alloc _).alloc _).next b21; (try simp only [size_alloc] at p21); have p21a := p21.c0; have p21b := p21.c1; have p21c := p21.fr 0; have p21d := p21.fr 1; have p21l := p21.lt; have p21n := Nat.ne_of_lt p21.lt; have p21m := Nat.ne_of_gt p21.lt) | skip); (with_reducible first | (have q21 := q20.next b21; (try simp only [size_alloc] at q21); have q21a := q21.c0; have q21b := q21.c1; have q21c := q21.fr 0; have q21d := q21.fr 1; have q21l := q21.lt; have q21n := Nat.ne_of_lt q21.lt; have q21m := Nat.ne_of_gt q21.lt) | (have q21 := (q20.alloc _).next b21; (try simp only [size_alloc] at q21); have q21a := q21.c0; have q21b := q21.c1; have q21c := q21.fr 0; have q21d := q21.fr 1; have q21l := q21.lt; have q21n := Nat.ne_of_lt q21.lt; have q21m := Nat.ne_of_gt q21.lt) | (have q21 := ((q20.alloc _).alloc _).next b21; (try simp only [size_alloc] at q21); have q21a := q21.c0; have q21b := q21.c1; have q21c := q21.fr 0; have q21d := q21.fr 1; have q21l := q21.lt; have q21n := Nat.ne_of_lt q21.lt; have q21m := Nat.ne_of_gt q21.lt) | skip); (with_reducible first | (have u21 := (Blk.new _ _).next b21; (try simp only [size_alloc] at u21); have u21a := u21.c0; have u21b := u21.c1; have u21c := u21.fr 0; have u21d := u21.fr 1; have u21l := u21.lt; have u21n := Nat.ne_of_lt u21.lt; have u21m := Nat.ne_of_gt u21.lt) | skip); (with_reducible first | (have x21 := ((Blk.new _ _).alloc _).next b21; (try simp only [size_alloc] at x21); have x21a := x21.c0; have x21b := x21.c1; have x21c := x21.fr 0; have x21d := x21.fr 1; have x21l := x21.lt; have x21n := Nat.ne_of_lt x21.lt; have x21m := Nat.ne_of_gt x21.lt) | skip)))
    all_goals
      go_wp2_with fail
      go_meet
      case rel =>
        (try simp only [st2_def])
        refine ⟨_, _, s3, A3, n3, c3, s4, A4, n4, c4, rfl, rfl, (by first | rfl | trivial), ?_, ?_, ?_⟩
        · exact KeepsB.add2 (B := WB) (by with_reducible ((repeat (first | refine KeepsB.alloc ?_ _ | refine KeepsB.st ?_ _ _ (by have h2 := hz0.out; have h3 := hz20.out; have h4 := hz21.out; (try simp only [size_alloc, st2_size]); omega))); exact K21.out)) (by with_reducible (repeat (first | assumption | (refine Blk.newAt _ _ ?_; simp only [size_alloc, st2_size]; done) | refine Blk.alloc ?_ _ | refine Blk.stSame ?_ | (refine Blk.stOther ?_ ?_; rotate_left; (try simp only [size_alloc, st2_size]); omega)))) (by with_reducible (repeat (first | assumption | (refine Blk.newAt _ _ ?_; simp only [size_alloc, st2_size]; done) | refine Blk.alloc ?_ _ | refine Blk.stSame ?_ | (refine Blk.stOther ?_ ?_; rotate_left; (try simp only [size_alloc, st2_size]); omega)))) (by have h2 := hz0.out; have h3 := hz20.out; have h4 := hz21.out; (try simp only [size_alloc, st2_size]); omega) (by have h2 := hz0.out; have h3 := hz20.out; have h4 := hz21.out; (try simp only [size_alloc, st2_size]); omega)
        · exact (by with_reducible ((repeat (first | refine ZRes.alloc ?_ _ | refine ZRes.st ?_ (by with_reducible (repeat (first | assumption | (refine Blk.newAt _ _ ?_; simp only [size_alloc, st2_size]; done) | refine Blk.alloc ?_ _ | refine Blk.stSame ?_ | (refine Blk.stOther ?_ ?_; rotate_left; (try simp only [size_alloc, st2_size]); omega)))))); exact zq))
        · have h9 : w.heap.size + 1 + 1 < WB := HK.out.2.2.2 _ (List.Mem.tail _ (List.Mem.tail _ (List.Mem.head _))); have h2 := hz0.out; have h3 := hz20.out; have h4 := hz21.out; (try simp only [size_alloc, st2_size]); omega
  case rest =>
    obtain ⟨g6, g7, s3, A3, n3, c3, s4, A4, n4, c4, rfl, rfl, rfl, K, rq, hg6⟩ := hcut
    clear SOF HK hz0 hg6
    have cqa := (K.blk (List.Mem.head _)).c0
    have cqb := (K.blk (List.Mem.head _)).c1
    go_wp2_with fail
    refine (rneg_z _ ((-Z).fdiv Y) k _ rq.in_ (by omega)).mono ?_
    rintro e w31 ⟨v31, rfl, r31, b31⟩
    clear cqa cqb
    replace K := K.call b31
    clear b31
    have R3 := hide (K.blk (List.Mem.tail _ (List.Mem.tail _ (List.Mem.tail _ (List.Mem.tail _ (List.Mem.head _))))))
    have T3 := hide K.old
    obtain ⟨s5, A5, n5, c5, rfl⟩ := r31.form
    have Z5 := hide r31
    clear K r31 rq
    go_wp2_with (with_reducible refine wpList_store_z rfl _ _ rfl (w.heap.size + 1 + 1) _ _ _ _ rfl rfl _ _ R3.out ?_; intro w8 k8 ho8)
    exact bodyPost_ze rfl rfl rfl k8 rfl ⟨_, rfl, Z5.out.only R3.out ho8, zback T3.out (by omega) ho8⟩
set_option maxRecDepth 100000 in
set_option maxHeartbeats 8000000 in
theorem rceil_no (v u : Value) (Z : Int) (k j : Nat) (w : World) (hv : ZIn w v Z k) (hu : ZIn w u 0 j) (hk : k ≤ 68719476) (hj : j ≤ 68719476) : Calls Try.prog 48 #[v, u] w (ZAns 10 0 k w) := by
  have hv0 := hv
  have hu0 := hu
  obtain ⟨s, A, n, c, xs, rfl, -⟩ := hv
  obtain ⟨t, B, m, d, ys, rfl, -⟩ := hu
  obtain ⟨x0, y0, r0, z2, -⟩ := zstart3 w #[.bool s, .slice A n c] #[.bool t, .slice B m d] #[.bool false, .slice none 0 0]
  have K := (((Keeps.nil z2).add r0 (by omega)).add y0 (by omega)).add x0 (by omega)
  clear x0 y0 r0 z2
  go_enter Try.func48, Try.ntmps48
  go_upto_region 1 with fail
  obtain ⟨WB, HWB⟩ : ∃ WB, KeepsB w WB [(w.heap.size, .bool s, .slice A n c), (w.heap.size + 1, .bool t, .slice B m d), (w.heap.size + 1 + 1, .bool false, .slice none 0 0)] (((w.alloc (.cells #[.bool s, .slice A n c] 37)).alloc (.cells #[.bool t, .slice B m d] 37)).alloc (.cells #[.bool false, .slice none 0 0] 37)) := ⟨_, K.begin⟩
  have SOF := hide (show ∀ W, KeepsB w WB [(w.heap.size, .bool s, .slice A n c), (w.heap.size + 1, .bool t, .slice B m d), (w.heap.size + 1 + 1, .bool false, .slice none 0 0)] W → (fun W => KeepsB w WB [(w.heap.size, .bool s, .slice A n c), (w.heap.size + 1, .bool t, .slice B m d), (w.heap.size + 1 + 1, .bool false, .slice none 0 0)] W ∧ W.cell? ⟨w.heap.size, 0, none⟩ = some (.bool s) ∧ W.cell? ⟨w.heap.size, 1, none⟩ = some (.slice A n c) ∧ W.cell? ⟨w.heap.size + 1, 0, none⟩ = some (.bool t) ∧ W.cell? ⟨w.heap.size + 1, 1, none⟩ = some (.slice B m d)) W from fun W k => ⟨k, (k.keeps.blk (List.Mem.head _)).c0, (k.keeps.blk (List.Mem.head _)).c1, (k.keeps.blk (List.Mem.tail _ (List.Mem.head _))).c0, (k.keeps.blk (List.Mem.tail _ (List.Mem.head _))).c1⟩)
  have hz0a := HWB.size
  simp only [size_alloc] at hz0a
  have hz0 := hide hz0a
  clear hz0a
  have HK := hide HWB
  clear HWB K
  go_cut [6, 7, 8] (fun s6 s7 s8 wx => ∃ g6 g7 s3 A3 n3 c3 s4 A4 n4 c4, s6 = .pointer (some ⟨g6, 0, none⟩) ∧ s7 = .pointer (some ⟨g7, 0, none⟩) ∧ s8 = .int .i64 10 ∧ Keeps w ((g6, .bool s3, .slice A3 n3 c3) :: (g7, .bool s4, .slice A4 n4 c4) :: [(w.heap.size, .bool s, .slice A n c), (w.heap.size + 1, .bool t, .slice B m d), (w.heap.size + 1 + 1, .bool false, .slice none 0 0)]) wx ∧ ZRes wx (.agg #[.bool s3, .slice A3 n3 c3]) 0 k ∧ w.heap.size + 1 + 1 < g6)
  case first =>
    go_region_held3 (fun W => KeepsB w WB [(w.heap.size, .bool s, .slice A n c), (w.heap.size + 1, .bool t, .slice B m d), (w.heap.size + 1 + 1, .bool false, .slice none 0 0)] W ∧ W.cell? ⟨w.heap.size, 0, none⟩ = some (.bool s) ∧ W.cell? ⟨w.heap.size, 1, none⟩ = some (.slice A n c) ∧ W.cell? ⟨w.heap.size + 1, 0, none⟩ = some (.bool t) ∧ W.cell? ⟨w.heap.size + 1, 1, none⟩ = some (.slice B m d))
      (with_reducible first | (simp only [st2_def]; refine SOF.out _ ?_; (repeat (first | refine KeepsB.alloc ?_ _ | refine KeepsB.st ?_ _ _ (by have h2 := hz0.out; have h3 := hz20.out; have h4 := hz21.out; (try simp only [size_alloc, st2_size]); omega))); exact K21.out) | exact SOF.out _ HK.out.drew | exact SOF.out _ (KeepsB.call (And.left (a := KeepsB w WB _ _) (by assumption)) (by assumption)) | exact SOF.out _ (KeepsB.alloc (And.left (a := KeepsB w WB _ _) (by assumption)) _) | (refine SOF.out _ ?_; (repeat (refine KeepsB.alloc ?_ _)); exact K21.out))
      (first
        | (go_at_call 39; (have kk := (And.left (a := KeepsB w WB _ _) (by assumption))); (with_reducible refine (rneg_z _ Z k _ (hv0.below kk.old) (by omega)).mono ?_); rintro e w20 ⟨v20, rfl, r20, b20⟩; have hz20 := hide (kk.call b20).size; clear kk; (with_reducible first | (have p20 := (Blk.new _ _).drew.next b20; (try simp only [size_alloc] at p20); have p20a := p20.c0; have p20b := p20.c1; have p20c := p20.fr 0; have p20d := p20.fr 1; have p20l := p20.lt; have p20n := Nat.ne_of_lt p20.lt; have p20m := Nat.ne_of_gt p20.lt) | (have p20 := (Blk.new _ _).next b20; (try simp only [size_alloc] at p20); have p20a := p20.c0; have p20b := p20.c1; have p20c := p20.fr 0; have p20d := p20.fr 1; have p20l := p20.lt; have p20n := Nat.ne_of_lt p20.lt; have p20m := Nat.ne_of_gt p20.lt) | skip); (with_reducible first | (have q20 := ((Blk.new _ _).alloc _).drew.next b20; (try simp only [size_alloc] at q20); have q20a := q20.c0; have q20b := q20.c1; have q20c := q20.fr 0; have q20d := q20.fr 1; have q20l := q20.lt; have q20n := Nat.ne_of_lt q20.lt; have q20m := Nat.ne_of_gt q20.lt) | (have q20 := ((Blk.new _ _).alloc _).next b20; (try simp only [size_alloc] at q20); have q20a := q20.c0; have q20b := q20.c1; have q20c := q20.fr 0; have q20d := q20.fr 1; have q20l := q20.lt; have q20n := Nat.ne_of_lt q20.lt; have q20m := Nat.ne_of_gt q20.lt) | skip))
        | (go_at_call 46; (have kk := (And.left (a := KeepsB w WB _ _) (by assumption))); (with_reducible refine (rzdiv_no _ _ (-Z) k j _ (by first | exact r20.in_ | exact (r20.alloc _).in_ | exact ((r20.alloc _).alloc _).in_) (hu0.below kk.old) (by omega)).mono ?_); rintro e w21 ⟨rfl, b21⟩; have hz21 := hide (kk.call b21).size; have K21 := hide (kk.call b21); clear kk; (with_reducible first | (have p21 := p20.next b21; (try simp only [size_alloc] at p21); have p21a := p21.c0; have p21b := p21.c1; have p21c := p21.fr 0; have p21d := p21.fr 1; have p21l := p21.lt; have p21n := Nat.ne_of_lt p21.lt; have p21m := Nat.ne_of_gt p21.lt) | (have p21 := (p20.alloc _).next b21; (try simp only [size_alloc] at p21); have p21a := p21.c0; have p21b := p21.c1; have p21c := p21.fr 0; have p21d := p21.fr 1; have p21l := p21.lt; have p21n := Nat.ne_of_lt p21.lt; have p21m := Nat.ne_of_gt p21.lt) | (have p21 := ((p20.alloc _).alloc _).next b21; (try simp only [size_alloc] at p21); have p21a := p21.c0; have p21b := p21.c1; have p21c := p21.fr 0; have p21d := p21.fr 1; have p21l := p21.lt; have p21n := Nat.ne_of_lt p21.lt; have p21m := Nat.ne_of_gt p21.lt) | skip); (with_reducible first | (have q21 := q20.next b21; (try simp only [size_alloc] at q21); have q21a := q21.c0; have q21b := q21.c1; have q21c := q21.fr 0; have q21d := q21.fr 1; have q21l := q21.lt; have q21n := Nat.ne_of_lt q21.lt; have q21m := Nat.ne_of_gt q21.lt) | (have q21 := (q20.alloc _).next b21; (try simp only [size_alloc] at q21); have q21a := q21.c0; have q21b := q21.c1; have q21c := q21.fr 0; have q21d := q21.fr 1; have q21l := q21.lt; have q21n := Nat.ne_of_lt q21.lt; have q21m := Nat.ne_of_gt q21.lt) | (have q21 := ((q20.alloc _).alloc _).next b21; (try simp only [size_alloc] at q21); have q21a := q21.c0; have q21b := q21.c1; have q21c := q21.fr 0; have q21d := q21.fr 1; have q21l := q21.lt; have q21n := Nat.ne_of_lt q21.lt; have q21m := Nat.ne_of_gt q21.lt) | skip); (with_reducible first | (have u21 := (Blk.new _ _).next b21; (try simp only [size_alloc] at u21); have u21a := u21.c0; have u21b := u21.c1; have u21c := u21.fr 0; have u21d := u21.fr 1; have u21l := u21.lt; have u21n := Nat.ne_of_lt u21.lt; have u21m := Nat.ne_of_gt u21.lt) | skip); (with_reducible first | (have x21 := ((Blk.new _ _).alloc _).next b21; (try simp only [size_alloc] at x21); have x21a := x21.c0; have x21b := x21.c1; have x21c := x21.fr 0; have x21d := x21.fr 1; have x21l := x21.lt; have x21n := Nat.ne_of_lt x21.lt; have x21m := Nat.ne_of_gt x21.lt) | skip)))
    all_goals
      go_wp2_with fail
      go_meet
      case rel =>
        (try simp only [st2_def])
        refine ⟨_, _, false, none, 0, 0, false, none, 0, 0, rfl, rfl, (by first | rfl | trivial), ?_, ?_, ?_⟩
        · exact KeepsB.add2 (B := WB) (by with_reducible ((repeat (first | refine KeepsB.alloc ?_ _ | refine KeepsB.st ?_ _ _ (by have h2 := hz0.out; have h3 := hz20.out; have h4 := hz21.out; (try simp only [size_alloc, st2_size]); omega))); exact K21.out)) (by with_reducible (repeat (first | assumption | (refine Blk.newAt _ _ ?_; simp only [size_alloc, st2_size]; done) | refine Blk.alloc ?_ _ | refine Blk.stSame ?_ | (refine Blk.stOther ?_ ?_; rotate_left; (try simp only [size_alloc, st2_size]); omega)))) (by with_reducible (repeat (first | assumption | (refine Blk.newAt _ _ ?_; simp only [size_alloc, st2_size]; done) | refine Blk.alloc ?_ _ | refine Blk.stSame ?_ | (refine Blk.stOther ?_ ?_; rotate_left; (try simp only [size_alloc, st2_size]); omega)))) (by have h2 := hz0.out; have h3 := hz20.out; have h4 := hz21.out; (try simp only [size_alloc, st2_size]); omega) (by have h2 := hz0.out; have h3 := hz20.out; have h4 := hz21.out; (try simp only [size_alloc, st2_size]); omega)
        · exact ZRes.zero _ _
        · have h9 : w.heap.size + 1 + 1 < WB := HK.out.2.2.2 _ (List.Mem.tail _ (List.Mem.tail _ (List.Mem.head _))); have h2 := hz0.out; have h3 := hz20.out; have h4 := hz21.out; (try simp only [size_alloc, st2_size]); omega
  case rest =>
    obtain ⟨g6, g7, s3, A3, n3, c3, s4, A4, n4, c4, rfl, rfl, rfl, K, rq, hg6⟩ := hcut
    clear SOF HK hz0 hg6
    have cqa := (K.blk (List.Mem.head _)).c0
    have cqb := (K.blk (List.Mem.head _)).c1
    go_wp2_with fail
    refine (rneg_z _ 0 k _ rq.in_ (by omega)).mono ?_
    rintro e w31 ⟨v31, rfl, r31, b31⟩
    clear cqa cqb
    replace K := K.call b31
    clear b31
    have R3 := hide (K.blk (List.Mem.tail _ (List.Mem.tail _ (List.Mem.tail _ (List.Mem.tail _ (List.Mem.head _))))))
    have T3 := hide K.old
    obtain ⟨s5, A5, n5, c5, rfl⟩ := r31.form
    have Z5 := hide r31
    clear K r31 rq
    go_wp2_with (with_reducible refine wpList_store_z rfl _ _ rfl (w.heap.size + 1 + 1) _ _ _ _ rfl rfl _ _ R3.out ?_; intro w8 k8 ho8)
    have z9 := Z5.out.only R3.out ho8
    exact bodyPost_ze rfl rfl rfl k8 rfl ⟨_, rfl, z9, zback T3.out (by omega) ho8⟩
end Go.Proofs.Ytheljeioibpooaa
