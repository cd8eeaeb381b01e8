/- plumblinelaw02.ZintHats: the walk. -/
import Derived.Test.YtpocaopiaggbmaaZDividing
import Derived.Deep.DeepCutAuto
namespace Go.Proofs.Ytpocaopiaggbmaa
open Go.RowKit

theorem hat_off {Z Y : Int} (hY : 0 < Y) : (Z - hatN Z Y).fmod Y = 0 := by
  obtain ⟨h, -⟩ := fdiv_back Z Y (by omega)
  unfold hatN
  split
  · exact (fdiv_of (Z := Z - (Z.fmod Y - Y)) (Y := Y) (q := Z.fdiv Y + 1) (r := 0) (by rw [Int.mul_add, Int.mul_one]; omega) (by omega)).2
  · exact (fdiv_of (Z := Z - Z.fmod Y) (Y := Y) (q := Z.fdiv Y) (r := 0) (by omega) (by omega)).2
theorem hat_near {Z Y : Int} (hY : 0 < Y) : sgn3 (hatN Z Y + hatN Z Y) Y = -1 ∧ 0 ≤ sgn3 (hatN Z Y + hatN Z Y) (-Y) := by
  obtain ⟨-, h⟩ := fdiv_back Z Y (by omega)
  have h1 : hatN Z Y + hatN Z Y < Y ∧ -Y ≤ hatN Z Y + hatN Z Y := by unfold hatN; split <;> omega
  refine ⟨sgn3_lt h1.1, ?_⟩
  unfold sgn3
  split
  · omega
  · split <;> omega
set_option maxRecDepth 100000 in
set_option maxHeartbeats 8000000 in
theorem zintHats_walk (s : Bool) (A : Option Addr) (n c : Nat) (xs : List Nat) (t : Bool) (B : Option Addr) (m d : Nat) (ys : List Nat) (w : World) (hx : Nums w A n xs) (hc : n ≤ c) (hm : c ≤ 9223372036854775807) (hy : Nums w B m ys) (hd : m ≤ d) (hmd : d ≤ 9223372036854775807) :
    Calls Try.prog 13 #[.agg #[.bool s, .slice A n c], .agg #[.bool t, .slice B m d]] w (YesPost w) := by
  obtain ⟨x, y, z2, -⟩ := zstart2 w #[.bool s, .slice A n c] #[.bool t, .slice B m d]
  have K := ((Keeps.nil z2).add y (by omega)).add x (by omega)
  clear x y z2
  by_cases hs : n ≤ 40 ∧ m ≤ 40
  · obtain ⟨hn, hmk⟩ := hs
    have hv : ZIn w (.agg #[.bool s, .slice A n c]) (sg s (Limb.val xs)) 40 := ⟨s, A, n, c, xs, rfl, hx, hc, hm, hn, rfl⟩
    have hu : ZIn w (.agg #[.bool t, .slice B m d]) (sg t (Limb.val ys)) 40 := ⟨t, B, m, d, ys, rfl, hy, hd, hmd, hmk, rfl⟩
    generalize sg s (Limb.val xs) = Z at *
    generalize sg t (Limb.val ys) = Y at *
    by_cases hY0 : Y ≤ 0
    · have hle : Y.sign ≤ 0 := Int.sign_nonpos_iff.2 hY0
      have HY := hide hY0
      have hs1 := fun W (h : ZIn W (.agg #[.bool t, .slice B m d]) Y 40) => sign_z _ Y 40 W h (by omega)
      unfold SignPost at hs1
      have HS := hide hs1
      clear hY0 hs1
      generalize Y.sign = sgn at *
      go_enter Try.func13, Try.ntmps13
      go_wp2_with fail
      refine (counting_any _).mono ?_
      rintro e w1 ⟨rfl, b1⟩
      replace K := K.call b1
      clear b1
      go_wp2_with fail
      refine (zdividing_any w1).mono ?_
      rintro e w2 ⟨rfl, b2⟩
      replace K := K.call b2
      clear b2
      have cxa := (K.blk (List.Mem.head _)).c0
      have cxb := (K.blk (List.Mem.head _)).c1
      have cya := (K.blk (List.Mem.tail _ (List.Mem.head _))).c0
      have cyb := (K.blk (List.Mem.tail _ (List.Mem.head _))).c1
      go_wp2_with fail
      refine (z2short_yes _ _ Z Y 40 40 w2 (hv.below K.old) (hu.below K.old) (by omega) (by omega)).mono ?_
      rintro e w3 ⟨rfl, b3⟩
      clear cxa cxb cya cyb
      replace K := K.call b3
      clear b3
      have cxa := (K.blk (List.Mem.head _)).c0
      have cxb := (K.blk (List.Mem.head _)).c1
      have cya := (K.blk (List.Mem.tail _ (List.Mem.head _))).c0
      have cyb := (K.blk (List.Mem.tail _ (List.Mem.head _))).c1
      go_wp2_with fail
      refine (hat_no _ _ Z Y 40 40 w3 (hv.below K.old) (hu.below K.old) (by omega) HY.out).mono ?_
      rintro e w4 ⟨rfl, b4⟩
      clear cxa cxb cya cyb
      replace K := K.call b4
      clear b4
      have tt := bl_alloc w4 (.cells #[.bool false, .slice none 0 0] 42)
      replace K := K.made1 (a := .bool false) (b := .slice none 0 0)
      clear tt
      have cya := (K.blk (List.Mem.tail _ (List.Mem.tail _ (List.Mem.head _)))).c0
      have cyb := (K.blk (List.Mem.tail _ (List.Mem.tail _ (List.Mem.head _)))).c1
      go_wp2_with fail
      refine (HS.out (w4.alloc (.cells #[.bool false, .slice none 0 0] 42)) (hu.below K.old)).mono ?_
      rintro e w5 ⟨rfl, b5⟩
      clear cya cyb
      replace K := K.call b5
      clear b5
      have cHa := (K.blk (List.Mem.head _)).c0
      have cHb := (K.blk (List.Mem.head _)).c1
      go_wp2_with fail
      refine (sign_z _ 0 40 w5 (ZRes.zero _ _).in_ (by omega)).mono ?_
      rintro e w6 ⟨rfl, b6⟩
      clear cHa cHb
      replace K := K.call b6
      clear b6
      go_wp2_with fail
      go_ret
      exact ⟨rfl, K.old⟩
    · have HY : Hid (0 < Y) := (by omega : 0 < Y)
      have hoff := hide (hat_off (Z := Z) HY.out)
      have hnear := hide (hat_near (Z := Z) HY.out)
      have hsp := hide (Int.sign_eq_one_of_pos HY.out)
      have hq0 := hnear.out.2
      clear hY0
      go_enter Try.func13, Try.ntmps13
      go_wp2_with fail
      refine (counting_any _).mono ?_
      rintro e w1 ⟨rfl, b1⟩
      replace K := K.call b1
      clear b1
      go_wp2_with fail
      refine (zdividing_any w1).mono ?_
      rintro e w2 ⟨rfl, b2⟩
      replace K := K.call b2
      clear b2
      have cxa := (K.blk (List.Mem.head _)).c0
      have cxb := (K.blk (List.Mem.head _)).c1
      have cya := (K.blk (List.Mem.tail _ (List.Mem.head _))).c0
      have cyb := (K.blk (List.Mem.tail _ (List.Mem.head _))).c1
      go_wp2_with fail
      refine (z2short_yes _ _ Z Y 40 40 w2 (hv.below K.old) (hu.below K.old) (by omega) (by omega)).mono ?_
      rintro e w3 ⟨rfl, b3⟩
      clear cxa cxb cya cyb
      replace K := K.call b3
      clear b3
      have cxa := (K.blk (List.Mem.head _)).c0
      have cxb := (K.blk (List.Mem.head _)).c1
      have cya := (K.blk (List.Mem.tail _ (List.Mem.head _))).c0
      have cyb := (K.blk (List.Mem.tail _ (List.Mem.head _))).c1
      go_wp2_with fail
      refine (hat_yes _ _ Z Y 40 40 w3 (hv.below K.old) (hu.below K.old) (by omega) (by omega) HY.out).mono ?_
      rintro e w4 ⟨v4, rfl, rh, b4⟩
      clear cxa cxb cya cyb
      replace K := K.call b4
      clear b4
      obtain ⟨sH, AH, nH, cH, rfl⟩ := rh.form
      have tt := bl_alloc w4 (.cells #[.bool sH, .slice AH nH cH] 42)
      replace K := K.made1 (a := .bool sH) (b := .slice AH nH cH)
      replace rh := rh.below tt
      clear tt
      have hs := sign_z _ Y 40 (w4.alloc (.cells #[.bool sH, .slice AH nH cH] 42)) (hu.below K.old) (by omega)
      unfold SignPost at hs
      rw [hsp.out] at hs
      have cya := (K.blk (List.Mem.tail _ (List.Mem.tail _ (List.Mem.head _)))).c0
      have cyb := (K.blk (List.Mem.tail _ (List.Mem.tail _ (List.Mem.head _)))).c1
      go_wp2_with fail
      refine (hs).mono ?_
      rintro e w5 ⟨rfl, b5⟩
      clear cya cyb
      replace K := K.call b5
      replace rh := rh.below b5
      clear b5
      clear hs
      go_upto_region 8 with fail
      obtain ⟨WB, HWB⟩ : ∃ WB, KeepsB w WB [(w4.heap.size, .bool sH, .slice AH nH cH), (w.heap.size, .bool s, .slice A n c), (w.heap.size + 1, .bool t, .slice B m d)] w5 := ⟨_, K.begin⟩
      have SOF := hide (show ∀ W, KeepsB w WB [(w4.heap.size, .bool sH, .slice AH nH cH), (w.heap.size, .bool s, .slice A n c), (w.heap.size + 1, .bool t, .slice B m d)] W → (fun W => KeepsB w WB [(w4.heap.size, .bool sH, .slice AH nH cH), (w.heap.size, .bool s, .slice A n c), (w.heap.size + 1, .bool t, .slice B m d)] W ∧ W.cell? ⟨w4.heap.size, 0, none⟩ = some (.bool sH) ∧ W.cell? ⟨w4.heap.size, 1, none⟩ = some (.slice AH nH cH) ∧ W.cell? ⟨w.heap.size, 0, none⟩ = some (.bool s) ∧ W.cell? ⟨w.heap.size, 1, none⟩ = some (.slice A n c) ∧ W.cell? ⟨w.heap.size + 1, 0, none⟩ = some (.bool t) ∧ W.cell? ⟨w.heap.size + 1, 1, none⟩ = some (.slice B m d)) W from fun W k => ⟨k, (k.keeps.blk (List.Mem.head _)).c0, (k.keeps.blk (List.Mem.head _)).c1, (k.keeps.blk (List.Mem.tail _ (List.Mem.head _))).c0, (k.keeps.blk (List.Mem.tail _ (List.Mem.head _))).c1, (k.keeps.blk (List.Mem.tail _ (List.Mem.tail _ (List.Mem.head _)))).c0, (k.keeps.blk (List.Mem.tail _ (List.Mem.tail _ (List.Mem.head _)))).c1⟩)
      have hz0 := hide HWB.size
      have HK := hide HWB
      clear HWB
      have rh0 := hide rh
      clear K
      go_cut [7, 8, 9] (fun s7 s8 s9 wx => ∃ g7 g8 s3 A3 n3 c3 s4 A4 n4 c4, s7 = .pointer (some ⟨g7, 0, none⟩) ∧ s8 = .pointer (some ⟨g8, 0, none⟩) ∧ s9 = .int .i64 0 ∧ Keeps w ((g7, .bool s3, .slice A3 n3 c3) :: (g8, .bool s4, .slice A4 n4 c4) :: [(w4.heap.size, .bool sH, .slice AH nH cH), (w.heap.size, .bool s, .slice A n c), (w.heap.size + 1, .bool t, .slice B m d)]) wx ∧ ZRes wx (.agg #[.bool s4, .slice A4 n4 c4]) 0 40 ∧ ZRes wx (.agg #[.bool sH, .slice AH nH cH]) (hatN Z Y) 40)
      case first =>
        go_region_held3 (fun W => KeepsB w WB [(w4.heap.size, .bool sH, .slice AH nH cH), (w.heap.size, .bool s, .slice A n c), (w.heap.size + 1, .bool t, .slice B m d)] W ∧ W.cell? ⟨w4.heap.size, 0, none⟩ = some (.bool sH) ∧ W.cell? ⟨w4.heap.size, 1, none⟩ = some (.slice AH nH cH) ∧ W.cell? ⟨w.heap.size, 0, none⟩ = some (.bool s) ∧ W.cell? ⟨w.heap.size, 1, none⟩ = some (.slice A n c) ∧ W.cell? ⟨w.heap.size + 1, 0, none⟩ = some (.bool t) ∧ W.cell? ⟨w.heap.size + 1, 1, none⟩ = some (.slice B m d))
          (with_reducible first | (simp only [st2_def]; refine SOF.out _ ?_; (repeat (first | refine KeepsB.alloc ?_ _ | refine KeepsB.st ?_ _ _ (by have h2 := hz0.out; have h3 := hz20.out; have h4 := hz21.out; (try simp only [size_alloc, st2_size]); omega))); exact K21.out) | exact SOF.out _ HK.out.drew | exact SOF.out _ (KeepsB.call (And.left (a := KeepsB w WB _ _) (by assumption)) (by assumption)) | exact SOF.out _ (KeepsB.alloc (And.left (a := KeepsB w WB _ _) (by assumption)) _) | (refine SOF.out _ ?_; (repeat (refine KeepsB.alloc ?_ _)); exact K21.out))
          (first
            | (go_at_call 38; (have kk := (And.left (a := KeepsB w WB _ _) (by assumption))); (with_reducible refine (sub_z _ _ Z (hatN Z Y) 40 _ (hv.below kk.old) (by first | exact rh0.out.drew.in_ | exact (rh0.out.alloc _).drew.in_ | exact ((rh0.out.alloc _).alloc _).drew.in_) (by omega)).mono ?_); rintro e w20 ⟨v20, rfl, r20, b20⟩; have hz20 := hide (kk.call b20).size; clear kk; (with_reducible first | (have p20 := (Blk.new _ _).drew.next b20; (try rw [size_alloc] at p20); have p20a := p20.c0; have p20b := p20.c1; have p20c := p20.fr 0; have p20d := p20.fr 1; have p20l := p20.lt; have p20n := Nat.ne_of_lt p20.lt; have p20m := Nat.ne_of_gt p20.lt) | (have p20 := (Blk.new _ _).next b20; (try rw [size_alloc] at p20); have p20a := p20.c0; have p20b := p20.c1; have p20c := p20.fr 0; have p20d := p20.fr 1; have p20l := p20.lt; have p20n := Nat.ne_of_lt p20.lt; have p20m := Nat.ne_of_gt p20.lt) | skip); (with_reducible first | (have q20 := ((Blk.new _ _).alloc _).drew.next b20; (try rw [size_alloc] at q20); have q20a := q20.c0; have q20b := q20.c1; have q20c := q20.fr 0; have q20d := q20.fr 1; have q20l := q20.lt; have q20n := Nat.ne_of_lt q20.lt; have q20m := Nat.ne_of_gt q20.lt) | (have q20 := ((Blk.new _ _).alloc _).next b20; (try rw [size_alloc] at q20); have q20a := q20.c0; have q20b := q20.c1; have q20c := q20.fr 0; have q20d := q20.fr 1; have q20l := q20.lt; have q20n := Nat.ne_of_lt q20.lt; have q20m := Nat.ne_of_gt q20.lt) | skip); (with_reducible first | have rh1 := rh0.out.drew.below b20 | have rh1 := (rh0.out.alloc _).drew.below b20 | have rh1 := ((rh0.out.alloc _).alloc _).drew.below b20))
            | (go_at_call 57; (have kk := (And.left (a := KeepsB w WB _ _) (by assumption))); (with_reducible refine (zdiv_yes _ _ (Z - hatN Z Y) Y 41 40 _ (by first | exact r20.in_ | exact (r20.alloc _).in_ | exact ((r20.alloc _).alloc _).in_) (hu.below kk.old) (by have := HY.out; omega) (by omega) (by omega)).mono ?_); rintro e w21 ⟨u21, v21, rfl, zq, zr, b21⟩; obtain ⟨s3, A3, n3, c3, rfl⟩ := zq.form; replace zr := zr.ofEq hoff.out; obtain ⟨s4, A4, n4, c4, rfl⟩ := zr.form; have hz21 := hide (kk.call b21).size; have K21 := hide (kk.call b21); clear kk; (with_reducible first | replace rh1 := rh1.below b21 | replace rh1 := (rh1.below (bl_alloc _ _)).below b21 | replace rh1 := ((rh1.below (bl_alloc _ _)).below (bl_alloc _ _)).below b21); (with_reducible first | (have p21 := p20.next b21; (try rw [size_alloc] at p21); have p21a := p21.c0; have p21b := p21.c1; have p21c := p21.fr 0; have p21d := p21.fr 1; have p21l := p21.lt; have p21n := Nat.ne_of_lt p21.lt; have p21m := Nat.ne_of_gt p21.lt) | (have p21 := (p20.alloc _).next b21; (try rw [size_alloc] at p21); have p21a := p21.c0; have p21b := p21.c1; have p21c := p21.fr 0; have p21d := p21.fr 1; have p21l := p21.lt; have p21n := Nat.ne_of_lt p21.lt; have p21m := Nat.ne_of_gt p21.lt) | (have p21 := ((p20.alloc _).alloc _).next b21; (try rw [size_alloc] at p21); have p21a := p21.c0; have p21b := p21.c1; have p21c := p21.fr 0; have p21d := p21.fr 1; have p21l := p21.lt; have p21n := Nat.ne_of_lt p21.lt; have p21m := Nat.ne_of_gt p21.lt) | skip); (with_reducible first | (have q21 := q20.next b21; (try rw [size_alloc] at q21); have q21a := q21.c0; have q21b := q21.c1; have q21c := q21.fr 0; have q21d := q21.fr 1; have q21l := q21.lt; have q21n := Nat.ne_of_lt q21.lt; have q21m := Nat.ne_of_gt q21.lt) | (have q21 := (q20.alloc _).next b21; (try rw [size_alloc] at q21); have q21a := q21.c0; have q21b := q21.c1; have q21c := q21.fr 0; have q21d := q21.fr 1; have q21l := q21.lt; have q21n := Nat.ne_of_lt q21.lt; have q21m := Nat.ne_of_gt q21.lt) | (have q21 := ((q20.alloc _).alloc _).next b21; (try rw [size_alloc] at q21); have q21a := q21.c0; have q21b := q21.c1; have q21c := q21.fr 0; have q21d := q21.fr 1; have q21l := q21.lt; have q21n := Nat.ne_of_lt q21.lt; have q21m := Nat.ne_of_gt q21.lt) | skip); (with_reducible first | (have u21 := (Blk.new _ _).next b21; (try rw [size_alloc] at u21); have u21a := u21.c0; have u21b := u21.c1; have u21c := u21.fr 0; have u21d := u21.fr 1; have u21l := u21.lt; have u21n := Nat.ne_of_lt u21.lt; have u21m := Nat.ne_of_gt u21.lt) | skip); (with_reducible first | (have x21 := ((Blk.new _ _).alloc _).next b21; (try rw [size_alloc] at x21); have x21a := x21.c0; have x21b := x21.c1; have x21c := x21.fr 0; have x21d := x21.fr 1; have x21l := x21.lt; have x21n := Nat.ne_of_lt x21.lt; have x21m := Nat.ne_of_gt x21.lt) | skip)))
        all_goals
          go_wp2_with fail
          go_meet
          case rel =>
            (try simp only [st2_def])
            refine ⟨_, _, s3, A3, n3, c3, s4, A4, n4, c4, rfl, rfl, (by first | rfl | trivial), ?_, ?_, ?_⟩
            · exact KeepsB.add2 (B := WB) (by with_reducible ((repeat (first | refine KeepsB.alloc ?_ _ | refine KeepsB.st ?_ _ _ (by have h2 := hz0.out; have h3 := hz20.out; have h4 := hz21.out; (try simp only [size_alloc, st2_size]); omega))); exact K21.out)) (by with_reducible (repeat (first | assumption | exact Blk.newAt _ _ (by simp only [size_alloc, st2_size]) | refine Blk.alloc ?_ _ | refine Blk.stSame ?_ | refine Blk.stOther ?_ (by (try simp only [size_alloc, st2_size]); omega)))) (by with_reducible (repeat (first | assumption | exact Blk.newAt _ _ (by simp only [size_alloc, st2_size]) | refine Blk.alloc ?_ _ | refine Blk.stSame ?_ | refine Blk.stOther ?_ (by (try simp only [size_alloc, st2_size]); omega)))) (by have h2 := hz0.out; have h3 := hz20.out; have h4 := hz21.out; (try simp only [size_alloc, st2_size]); omega) (by have h2 := hz0.out; have h3 := hz20.out; have h4 := hz21.out; (try simp only [size_alloc, st2_size]); omega)
            · exact (by with_reducible ((repeat (first | refine ZRes.alloc ?_ _ | refine ZRes.st ?_ (by with_reducible (repeat (first | assumption | exact Blk.newAt _ _ (by simp only [size_alloc, st2_size]) | refine Blk.alloc ?_ _ | refine Blk.stSame ?_ | refine Blk.stOther ?_ (by (try simp only [size_alloc, st2_size]); omega)))))); exact zr))
            · exact (by with_reducible ((repeat (first | refine ZRes.alloc ?_ _ | refine ZRes.st ?_ (by with_reducible (repeat (first | assumption | exact Blk.newAt _ _ (by simp only [size_alloc, st2_size]) | refine Blk.alloc ?_ _ | refine Blk.stSame ?_ | refine Blk.stOther ?_ (by (try simp only [size_alloc, st2_size]); omega)))))); exact rh1))
      case rest =>
        obtain ⟨g7, g8, s3, A3, n3, c3, s4, A4, n4, c4, rfl, rfl, rfl, K, rz, rh⟩ := hcut
        clear SOF HK hz0 rh0
        have cHa := (K.blk (List.Mem.tail _ (List.Mem.tail _ (List.Mem.head _)))).c0
        have cHb := (K.blk (List.Mem.tail _ (List.Mem.tail _ (List.Mem.head _)))).c1
        go_wp2_with fail
        refine (add_z _ _ (hatN Z Y) (hatN Z Y) 40 _ rh.in_ rh.in_ (by omega)).mono ?_
        rintro e w31 ⟨v31, rfl, r31, b31⟩
        clear cHa cHb
        replace K := K.call b31
        replace rz := rz.below b31
        replace rh := rh.below b31
        clear b31
        obtain ⟨sW, AW, nW, cW, rfl⟩ := r31.form
        have tt := bl_alloc w31 (.cells #[.bool sW, .slice AW nW cW] 42)
        replace K := K.made1 (a := .bool sW) (b := .slice AW nW cW)
        replace rz := rz.below tt
        replace rh := rh.below tt
        replace r31 := r31.below tt
        clear tt
        have HC1 := hide (fun v u W (h1 : ZIn W v (hatN Z Y + hatN Z Y) 41) (h2 : ZIn W u Y 41) => (show Calls Try.prog 42 #[v, u] W (fun e w' => e = .returned (.int .i64 (-1)) ∧ Below W.heap.size W w') by have := cmp_z v u _ _ 41 W h1 h2 (by omega); unfold CmpZPost at this; rw [hnear.out.1] at this; exact this))
        have HC2 := hide (fun v u W (h1 : ZIn W v (hatN Z Y + hatN Z Y) 41) (h2 : ZIn W u (-Y) 41) => (show Calls Try.prog 42 #[v, u] W (fun e w' => e = .returned (.int .i64 (sgn3 (hatN Z Y + hatN Z Y) (-Y))) ∧ Below W.heap.size W w') from cmp_z v u _ _ 41 W h1 h2 (by omega)))
        generalize sgn3 (hatN Z Y + hatN Z Y) (-Y) = qq at *
        have SOF := hide (show ∀ W, Keeps w [(w31.heap.size, .bool sW, .slice AW nW cW), (g7, .bool s3, .slice A3 n3 c3), (g8, .bool s4, .slice A4 n4 c4), (w4.heap.size, .bool sH, .slice AH nH cH), (w.heap.size, .bool s, .slice A n c), (w.heap.size + 1, .bool t, .slice B m d)] W → (fun W => Keeps w [(w31.heap.size, .bool sW, .slice AW nW cW), (g7, .bool s3, .slice A3 n3 c3), (g8, .bool s4, .slice A4 n4 c4), (w4.heap.size, .bool sH, .slice AH nH cH), (w.heap.size, .bool s, .slice A n c), (w.heap.size + 1, .bool t, .slice B m d)] W ∧ W.cell? ⟨w31.heap.size, 0, none⟩ = some (.bool sW) ∧ W.cell? ⟨w31.heap.size, 1, none⟩ = some (.slice AW nW cW) ∧ W.cell? ⟨g7, 0, none⟩ = some (.bool s3) ∧ W.cell? ⟨g7, 1, none⟩ = some (.slice A3 n3 c3) ∧ W.cell? ⟨g8, 0, none⟩ = some (.bool s4) ∧ W.cell? ⟨g8, 1, none⟩ = some (.slice A4 n4 c4) ∧ W.cell? ⟨w4.heap.size, 0, none⟩ = some (.bool sH) ∧ W.cell? ⟨w4.heap.size, 1, none⟩ = some (.slice AH nH cH) ∧ W.cell? ⟨w.heap.size, 0, none⟩ = some (.bool s) ∧ W.cell? ⟨w.heap.size, 1, none⟩ = some (.slice A n c) ∧ W.cell? ⟨w.heap.size + 1, 0, none⟩ = some (.bool t) ∧ W.cell? ⟨w.heap.size + 1, 1, none⟩ = some (.slice B m d)) W from fun W k => ⟨k, (k.blk (List.Mem.head _)).c0, (k.blk (List.Mem.head _)).c1, (k.blk (List.Mem.tail _ (List.Mem.head _))).c0, (k.blk (List.Mem.tail _ (List.Mem.head _))).c1, (k.blk (List.Mem.tail _ (List.Mem.tail _ (List.Mem.head _)))).c0, (k.blk (List.Mem.tail _ (List.Mem.tail _ (List.Mem.head _)))).c1, (k.blk (List.Mem.tail _ (List.Mem.tail _ (List.Mem.tail _ (List.Mem.head _))))).c0, (k.blk (List.Mem.tail _ (List.Mem.tail _ (List.Mem.tail _ (List.Mem.head _))))).c1, (k.blk (List.Mem.tail _ (List.Mem.tail _ (List.Mem.tail _ (List.Mem.tail _ (List.Mem.head _)))))).c0, (k.blk (List.Mem.tail _ (List.Mem.tail _ (List.Mem.tail _ (List.Mem.tail _ (List.Mem.head _)))))).c1, (k.blk (List.Mem.tail _ (List.Mem.tail _ (List.Mem.tail _ (List.Mem.tail _ (List.Mem.tail _ (List.Mem.head _))))))).c0, (k.blk (List.Mem.tail _ (List.Mem.tail _ (List.Mem.tail _ (List.Mem.tail _ (List.Mem.tail _ (List.Mem.head _))))))).c1⟩)
        have HK := hide K
        have T32 : Below (w31.alloc (.cells #[.bool sW, .slice AW nW cW] 42)).heap.size (w31.alloc (.cells #[.bool sW, .slice AW nW cW] 42)) (w31.alloc (.cells #[.bool sW, .slice AW nW cW] 42)).drew := bl_drewN (w31.alloc (.cells #[.bool sW, .slice AW nW cW] 42)) 1
        clear K
        go_wp2_with fail
        go_region_held3 (fun W => Keeps w [(w31.heap.size, .bool sW, .slice AW nW cW), (g7, .bool s3, .slice A3 n3 c3), (g8, .bool s4, .slice A4 n4 c4), (w4.heap.size, .bool sH, .slice AH nH cH), (w.heap.size, .bool s, .slice A n c), (w.heap.size + 1, .bool t, .slice B m d)] W ∧ W.cell? ⟨w31.heap.size, 0, none⟩ = some (.bool sW) ∧ W.cell? ⟨w31.heap.size, 1, none⟩ = some (.slice AW nW cW) ∧ W.cell? ⟨g7, 0, none⟩ = some (.bool s3) ∧ W.cell? ⟨g7, 1, none⟩ = some (.slice A3 n3 c3) ∧ W.cell? ⟨g8, 0, none⟩ = some (.bool s4) ∧ W.cell? ⟨g8, 1, none⟩ = some (.slice A4 n4 c4) ∧ W.cell? ⟨w4.heap.size, 0, none⟩ = some (.bool sH) ∧ W.cell? ⟨w4.heap.size, 1, none⟩ = some (.slice AH nH cH) ∧ W.cell? ⟨w.heap.size, 0, none⟩ = some (.bool s) ∧ W.cell? ⟨w.heap.size, 1, none⟩ = some (.slice A n c) ∧ W.cell? ⟨w.heap.size + 1, 0, none⟩ = some (.bool t) ∧ W.cell? ⟨w.heap.size + 1, 1, none⟩ = some (.slice B m d))
          (with_reducible first | exact SOF.out _ HK.out.drew | exact SOF.out _ (Keeps.call (And.left (a := Keeps w _ _) (by assumption)) (by assumption)))
          (first
            | (go_at_call 43; (with_reducible refine (sign_z _ 0 40 (w31.alloc (.cells #[.bool sW, .slice AW nW cW] 42)).drew (rz.below T32).in_ (by omega)).mono ?_); rintro e w33 ⟨rfl, b33⟩; have T33 := T32.next b33)
            | (go_at_call 42; (with_reducible refine (HC1.out _ _ w33 (r31.below T33).in_ ((hu.below (HK.out.old.next T33)).mono (by omega))).mono ?_); rintro e w34 ⟨rfl, b34⟩; have T34 := T33.next b34)
            | (go_at_call 45; (with_reducible refine (neg_z _ Y 40 w34 (hu.below (HK.out.old.next T34)) (by omega)).mono ?_); rintro e w35 ⟨v35, rfl, r35, b35⟩; have T35 := T34.next b35)
            | (go_at_call 42; (with_reducible refine (HC2.out _ _ w35 (r31.below T35).in_ (r35.in_.mono (by omega))).mono ?_); rintro e w36 ⟨rfl, b36⟩; have T36 := T35.next b36))
        have K := HK.out.call T36
        replace rz := rz.below T36
        replace rh := rh.below T36
        replace r31 := r31.below T36
        clear HK SOF T32 T33 T34 T35 T36
        go_wp2_with fail
        go_ret
        exact ⟨rfl, K.old⟩
  · go_enter Try.func13, Try.ntmps13
    go_wp2_with fail
    refine (counting_any _).mono ?_
    rintro e w1 ⟨rfl, b1⟩
    replace K := K.call b1
    clear b1
    go_wp2_with fail
    refine (zdividing_any w1).mono ?_
    rintro e w2 ⟨rfl, b2⟩
    replace K := K.call b2
    clear b2
    have cxa := (K.blk (List.Mem.head _)).c0
    have cxb := (K.blk (List.Mem.head _)).c1
    have cya := (K.blk (List.Mem.tail _ (List.Mem.head _))).c0
    have cyb := (K.blk (List.Mem.tail _ (List.Mem.head _))).c1
    go_wp2_with fail
    refine (z2short_no s t A B n c m d 40 w2 (by omega) (by omega) (by omega) (by omega)).mono ?_
    rintro e w3 ⟨rfl, b3⟩
    clear cxa cxb cya cyb
    replace K := K.call b3
    clear b3
    go_wp2_with fail
    go_ret
    exact ⟨rfl, K.old⟩
end Go.Proofs.Ytpocaopiaggbmaa
