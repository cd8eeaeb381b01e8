/- plumblinelaw02.ZintRings: the walk. -/
import Derived.Test.YtpocaopiaggbmaaZCount
import Derived.Test.YtpocaopiaggbmaaZBox
import Derived.Deep.DeepCutAuto
namespace Go.Proofs.Ytpocaopiaggbmaa
open Go.RowKit

theorem Keeps.made1' {w W : World} {L : List (Nat × Value × Value)} {a b : Value} (h : Keeps w L W) : Keeps w ((W.heap.size, a, b) :: L) (W.alloc (.cells #[a, b] 42)) := (h.alloc _).add (Blk.new _ _) h.size
theorem sgn3_same' (Z : Int) : sgn3 Z Z = 0 := by unfold sgn3; rw [if_neg (by omega), if_neg (by omega)]
theorem sgn3_minus (Z Y : Int) : (Z - Y).sign = sgn3 Z Y := by
  rcases Int.lt_trichotomy Z Y with h | h | h
  · rw [sgn3_lt h, Int.sign_eq_neg_one_of_neg (by omega)]
  · subst h; rw [sgn3_same', Int.sub_self, Int.sign_zero]
  · rw [sgn3_gt h, Int.sign_eq_one_of_pos (by omega)]
theorem sign_times (Z Y : Int) : (Z * Y).sign = Z.sign * Y.sign ∧ -1 ≤ Z.sign * Y.sign ∧ Z.sign * Y.sign ≤ 1 := by
  refine ⟨Int.sign_mul Z Y, ?_⟩
  rcases Int.lt_trichotomy Z 0 with h1 | h1 | h1 <;> rcases Int.lt_trichotomy Y 0 with h2 | h2 | h2
  all_goals
    first
    | rw [Int.sign_eq_neg_one_of_neg h1]
    | rw [Int.sign_eq_one_of_pos h1]
    | rw [h1, Int.sign_zero]
    first
    | rw [Int.sign_eq_neg_one_of_neg h2]
    | rw [Int.sign_eq_one_of_pos h2]
    | rw [h2, Int.sign_zero]
    omega
set_option maxRecDepth 100000 in
set_option maxHeartbeats 8000000 in
theorem zintRings_walk (s : Bool) (A : Option Addr) (n c : Nat) (xs : List Nat) (t : Bool) (B : Option Addr) (m d : Nat) (ys : List Nat) (u : Bool) (C : Option Addr) (l f : Nat) (zs : List Nat) (w : World) (hx : Nums w A n xs) (hc : n ≤ c) (hm : c ≤ 9223372036854775807) (hy : Nums w B m ys) (hd : m ≤ d) (hmd : d ≤ 9223372036854775807) (hz : Nums w C l zs) (hle : l ≤ f) (hme : f ≤ 9223372036854775807) :
    Calls Try.prog 11 #[.agg #[.bool s, .slice A n c], .agg #[.bool t, .slice B m d], .agg #[.bool u, .slice C l f]] w (YesPost w) := by
  obtain ⟨x, y, z, z2, -⟩ := zstart3 w #[.bool s, .slice A n c] #[.bool t, .slice B m d] #[.bool u, .slice C l f]
  have K := (((Keeps.nil z2).add z (by omega)).add y (by omega)).add x (by omega)
  clear x y z z2
  by_cases hs : n ≤ 60 ∧ m ≤ 60
  · obtain ⟨hn, hmk⟩ := hs
    have hv : ZIn w (.agg #[.bool s, .slice A n c]) (sg s (Limb.val xs)) 60 := ⟨s, A, n, c, xs, rfl, hx, hc, hm, hn, rfl⟩
    have hu : ZIn w (.agg #[.bool t, .slice B m d]) (sg t (Limb.val ys)) 60 := ⟨t, B, m, d, ys, rfl, hy, hd, hmd, hmk, rfl⟩
    generalize sg s (Limb.val xs) = Z at *
    generalize sg t (Limb.val ys) = Y at *
    by_cases hl : l ≤ 60
    · have ht : ZIn w (.agg #[.bool u, .slice C l f]) (sg u (Limb.val zs)) 60 := ⟨u, C, l, f, zs, rfl, hz, hle, hme, hl, rfl⟩
      generalize sg u (Limb.val zs) = X at *
      have hpr := hide (sign_times Z Y)
      have hmi := hide (sgn3_minus Z Y)
      go_enter Try.func11, Try.ntmps11
      go_wp2_with fail
      refine (counting_any _).mono ?_
      rintro e w1 ⟨rfl, b1⟩
      replace K := K.call b1
      clear b1
      have cxa := (K.blk (List.Mem.head _)).c0
      have cxb := (K.blk (List.Mem.head _)).c1
      have cya := (K.blk (List.Mem.tail _ (List.Mem.head _))).c0
      have cyb := (K.blk (List.Mem.tail _ (List.Mem.head _))).c1
      go_wp2_with fail
      refine (z2short_yes _ _ Z Y 60 60 w1 (hv.below K.old) (hu.below K.old) (by omega) (by omega)).mono ?_
      rintro e w2 ⟨rfl, b2⟩
      clear cxa cxb cya cyb
      replace K := K.call b2
      clear b2
      have cza := (K.blk (List.Mem.tail _ (List.Mem.tail _ (List.Mem.head _)))).c0
      have czb := (K.blk (List.Mem.tail _ (List.Mem.tail _ (List.Mem.head _)))).c1
      go_upto_region 5 with fail
      clear cza czb
      obtain ⟨WB, HWB⟩ : ∃ WB, KeepsB w WB [(w.heap.size, .bool s, .slice A n c), (w.heap.size + 1, .bool t, .slice B m d), (w.heap.size + 1 + 1, .bool u, .slice C l f)] w2 := ⟨_, K.begin⟩
      have SOF := hide (show ∀ W, KeepsB w WB [(w.heap.size, .bool s, .slice A n c), (w.heap.size + 1, .bool t, .slice B m d), (w.heap.size + 1 + 1, .bool u, .slice C l f)] W → (fun W => KeepsB w WB [(w.heap.size, .bool s, .slice A n c), (w.heap.size + 1, .bool t, .slice B m d), (w.heap.size + 1 + 1, .bool u, .slice C l f)] W ∧ W.cell? ⟨w.heap.size, 0, none⟩ = some (.bool s) ∧ W.cell? ⟨w.heap.size, 1, none⟩ = some (.slice A n c) ∧ W.cell? ⟨w.heap.size + 1, 0, none⟩ = some (.bool t) ∧ W.cell? ⟨w.heap.size + 1, 1, none⟩ = some (.slice B m d)) W from fun W k => ⟨k, (k.keeps.blk (List.Mem.head _)).c0, (k.keeps.blk (List.Mem.head _)).c1, (k.keeps.blk (List.Mem.tail _ (List.Mem.head _))).c0, (k.keeps.blk (List.Mem.tail _ (List.Mem.head _))).c1⟩)
      have hz0 := hide HWB.size
      have HK := hide HWB
      clear HWB K
      go_cut [7, 8] (fun s7 s8 wx => ∃ g7 g8 s3 A3 n3 c3 s4 A4 n4 c4, s7 = .pointer (some ⟨g7, 0, none⟩) ∧ s8 = .pointer (some ⟨g8, 0, none⟩) ∧ Keeps w ((g7, .bool s3, .slice A3 n3 c3) :: (g8, .bool s4, .slice A4 n4 c4) :: [(w.heap.size, .bool s, .slice A n c), (w.heap.size + 1, .bool t, .slice B m d), (w.heap.size + 1 + 1, .bool u, .slice C l f)]) wx ∧ ZRes wx (.agg #[.bool s3, .slice A3 n3 c3]) (Z + Y) 61 ∧ ZRes wx (.agg #[.bool s4, .slice A4 n4 c4]) (Z * Y) 120)
      case first =>
        go_region_held3 (fun W => KeepsB w WB [(w.heap.size, .bool s, .slice A n c), (w.heap.size + 1, .bool t, .slice B m d), (w.heap.size + 1 + 1, .bool u, .slice C l f)] W ∧ W.cell? ⟨w.heap.size, 0, none⟩ = some (.bool s) ∧ W.cell? ⟨w.heap.size, 1, none⟩ = some (.slice A n c) ∧ W.cell? ⟨w.heap.size + 1, 0, none⟩ = some (.bool t) ∧ W.cell? ⟨w.heap.size + 1, 1, none⟩ = some (.slice B m d))
          (with_reducible first | (simp only [st2_def]; refine SOF.out _ ?_; (repeat (first | refine KeepsB.alloc ?_ _ | refine KeepsB.st ?_ _ _ (by have h2 := hz0.out; have h3 := hz20.out; have h4 := hz21.out; (try simp only [size_alloc, st2_size]); omega))); exact K21.out) | exact SOF.out _ HK.out.drew | exact SOF.out _ (KeepsB.call (And.left (a := KeepsB w WB _ _) (by assumption)) (by assumption)) | exact SOF.out _ (KeepsB.alloc (And.left (a := KeepsB w WB _ _) (by assumption)) _) | (refine SOF.out _ ?_; (repeat (refine KeepsB.alloc ?_ _)); exact K21.out))
          (first
            | (go_at_call 36; (have kk := (And.left (a := KeepsB w WB _ _) (by assumption))); (with_reducible refine (add_z _ _ Z Y 60 _ (hv.below kk.old) (hu.below kk.old) (by omega)).mono ?_); rintro e w20 ⟨v20, rfl, r20, b20⟩; obtain ⟨s3, A3, n3, c3, rfl⟩ := r20.form; have hz20 := hide (kk.call b20).size; clear kk; (with_reducible first | (have p20 := (Blk.new _ _).drew.next b20; (try rw [size_alloc] at p20); have p20a := p20.c0; have p20b := p20.c1; have p20c := p20.fr 0; have p20d := p20.fr 1; have p20l := p20.lt; have p20n := Nat.ne_of_lt p20.lt; have p20m := Nat.ne_of_gt p20.lt) | (have p20 := (Blk.new _ _).next b20; (try rw [size_alloc] at p20); have p20a := p20.c0; have p20b := p20.c1; have p20c := p20.fr 0; have p20d := p20.fr 1; have p20l := p20.lt; have p20n := Nat.ne_of_lt p20.lt; have p20m := Nat.ne_of_gt p20.lt) | skip); (with_reducible first | (have q20 := ((Blk.new _ _).alloc _).drew.next b20; (try rw [size_alloc] at q20); have q20a := q20.c0; have q20b := q20.c1; have q20c := q20.fr 0; have q20d := q20.fr 1; have q20l := q20.lt; have q20n := Nat.ne_of_lt q20.lt; have q20m := Nat.ne_of_gt q20.lt) | (have q20 := ((Blk.new _ _).alloc _).next b20; (try rw [size_alloc] at q20); have q20a := q20.c0; have q20b := q20.c1; have q20c := q20.fr 0; have q20d := q20.fr 1; have q20l := q20.lt; have q20n := Nat.ne_of_lt q20.lt; have q20m := Nat.ne_of_gt q20.lt) | skip))
            | (go_at_call 40; (have kk := (And.left (a := KeepsB w WB _ _) (by assumption))); (with_reducible refine (mul_z _ _ Z Y 60 60 _ (hv.below kk.old) (hu.below kk.old) (by omega) (by omega)).mono ?_); rintro e w21 ⟨v21, rfl, r21, b21⟩; obtain ⟨s4, A4, n4, c4, rfl⟩ := r21.form; have hz21 := hide (kk.call b21).size; have K21 := hide (kk.call b21); clear kk; (with_reducible first | replace r20 := r20.below b21 | replace r20 := (r20.below (bl_alloc _ _)).below b21 | replace r20 := ((r20.below (bl_alloc _ _)).below (bl_alloc _ _)).below b21); (with_reducible first | (have p21 := p20.next b21; (try rw [size_alloc] at p21); have p21a := p21.c0; have p21b := p21.c1; have p21c := p21.fr 0; have p21d := p21.fr 1; have p21l := p21.lt; have p21n := Nat.ne_of_lt p21.lt; have p21m := Nat.ne_of_gt p21.lt) | (have p21 := (p20.alloc _).next b21; (try rw [size_alloc] at p21); have p21a := p21.c0; have p21b := p21.c1; have p21c := p21.fr 0; have p21d := p21.fr 1; have p21l := p21.lt; have p21n := Nat.ne_of_lt p21.lt; have p21m := Nat.ne_of_gt p21.lt) | (have p21 := ((p20.alloc _).alloc _).next b21; (try rw [size_alloc] at p21); have p21a := p21.c0; have p21b := p21.c1; have p21c := p21.fr 0; have p21d := p21.fr 1; have p21l := p21.lt; have p21n := Nat.ne_of_lt p21.lt; have p21m := Nat.ne_of_gt p21.lt) | skip); (with_reducible first | (have q21 := q20.next b21; (try rw [size_alloc] at q21); have q21a := q21.c0; have q21b := q21.c1; have q21c := q21.fr 0; have q21d := q21.fr 1; have q21l := q21.lt; have q21n := Nat.ne_of_lt q21.lt; have q21m := Nat.ne_of_gt q21.lt) | (have q21 := (q20.alloc _).next b21; (try rw [size_alloc] at q21); have q21a := q21.c0; have q21b := q21.c1; have q21c := q21.fr 0; have q21d := q21.fr 1; have q21l := q21.lt; have q21n := Nat.ne_of_lt q21.lt; have q21m := Nat.ne_of_gt q21.lt) | (have q21 := ((q20.alloc _).alloc _).next b21; (try rw [size_alloc] at q21); have q21a := q21.c0; have q21b := q21.c1; have q21c := q21.fr 0; have q21d := q21.fr 1; have q21l := q21.lt; have q21n := Nat.ne_of_lt q21.lt; have q21m := Nat.ne_of_gt q21.lt) | skip); (with_reducible first | (have u21 := (Blk.new _ _).next b21; (try rw [size_alloc] at u21); have u21a := u21.c0; have u21b := u21.c1; have u21c := u21.fr 0; have u21d := u21.fr 1; have u21l := u21.lt; have u21n := Nat.ne_of_lt u21.lt; have u21m := Nat.ne_of_gt u21.lt) | skip); (with_reducible first | (have x21 := ((Blk.new _ _).alloc _).next b21; (try rw [size_alloc] at x21); have x21a := x21.c0; have x21b := x21.c1; have x21c := x21.fr 0; have x21d := x21.fr 1; have x21l := x21.lt; have x21n := Nat.ne_of_lt x21.lt; have x21m := Nat.ne_of_gt x21.lt) | skip)))
        all_goals
          go_wp2_with fail
          go_meet
          case rel =>
            (try simp only [st2_def])
            refine ⟨_, _, s3, A3, n3, c3, s4, A4, n4, c4, rfl, rfl, ?_, ?_, ?_⟩
            · exact KeepsB.add2 (B := WB) (by with_reducible ((repeat (first | refine KeepsB.alloc ?_ _ | refine KeepsB.st ?_ _ _ (by have h2 := hz0.out; have h3 := hz20.out; have h4 := hz21.out; (try simp only [size_alloc, st2_size]); omega))); exact K21.out)) (by with_reducible (repeat (first | assumption | exact Blk.newAt _ _ (by simp only [size_alloc, st2_size]) | refine Blk.alloc ?_ _ | refine Blk.stSame ?_ | refine Blk.stOther ?_ (by (try simp only [size_alloc, st2_size]); omega)))) (by with_reducible (repeat (first | assumption | exact Blk.newAt _ _ (by simp only [size_alloc, st2_size]) | refine Blk.alloc ?_ _ | refine Blk.stSame ?_ | refine Blk.stOther ?_ (by (try simp only [size_alloc, st2_size]); omega)))) (by have h2 := hz0.out; have h3 := hz20.out; have h4 := hz21.out; (try simp only [size_alloc, st2_size]); omega) (by have h2 := hz0.out; have h3 := hz20.out; have h4 := hz21.out; (try simp only [size_alloc, st2_size]); omega)
            · exact (by with_reducible ((repeat (first | refine ZRes.alloc ?_ _ | refine ZRes.st ?_ (by with_reducible (repeat (first | assumption | exact Blk.newAt _ _ (by simp only [size_alloc, st2_size]) | refine Blk.alloc ?_ _ | refine Blk.stSame ?_ | refine Blk.stOther ?_ (by (try simp only [size_alloc, st2_size]); omega)))))); exact r20))
            · exact (by with_reducible ((repeat (first | refine ZRes.alloc ?_ _ | refine ZRes.st ?_ (by with_reducible (repeat (first | assumption | exact Blk.newAt _ _ (by simp only [size_alloc, st2_size]) | refine Blk.alloc ?_ _ | refine Blk.stSame ?_ | refine Blk.stOther ?_ (by (try simp only [size_alloc, st2_size]); omega)))))); exact r21))
      case rest =>
        obtain ⟨g7, g8, s3, A3, n3, c3, s4, A4, n4, c4, rfl, rfl, K, rs, rp⟩ := hcut
        rename World => wcut
        clear SOF HK hz0
        skip
        skip
        have HC0 := hide (fun v u (X : Int) k W (h1 : ZIn W v X k) (h2 : ZIn W u X k) (hk : k ≤ 1099511627776) => (show Calls Try.prog 42 #[v, u] W (fun e w' => e = .returned (.int .i64 0) ∧ Below W.heap.size W w') by have := cmp_z v u X X k W h1 h2 hk; unfold CmpZPost at this; rw [sgn3_same'] at this; exact this))
        have HSD := hide (fun v W (h1 : ZIn W v (Z - Y) 61) => (show Calls Try.prog 43 #[v] W (fun e w' => e = .returned (.int .i64 (sgn3 Z Y)) ∧ Below W.heap.size W w') by have := sign_z v _ 61 W h1 (by omega); unfold SignPost at this; rw [hmi.out] at this; exact this))
        have HCM := hide (fun v u W (h1 : ZIn W v Z 60) (h2 : ZIn W u Y 60) => (show Calls Try.prog 42 #[v, u] W (fun e w' => e = .returned (.int .i64 (sgn3 Z Y)) ∧ Below W.heap.size W w') from cmp_z v u Z Y 60 W h1 h2 (by omega)))
        have HSP := hide (fun v W (h1 : ZIn W v (Z * Y) 120) => (show Calls Try.prog 43 #[v] W (fun e w' => e = .returned (.int .i64 (Z.sign * Y.sign)) ∧ Below W.heap.size W w') by have := sign_z v _ 120 W h1 (by omega); unfold SignPost at this; rw [hpr.out.1] at this; exact this))
        have HSA := hide (fun v W (h1 : ZIn W v Z 60) => (show Calls Try.prog 43 #[v] W (fun e w' => e = .returned (.int .i64 Z.sign) ∧ Below W.heap.size W w') from sign_z v _ 60 W h1 (by omega)))
        have HSB := hide (fun v W (h1 : ZIn W v Y 60) => (show Calls Try.prog 43 #[v] W (fun e w' => e = .returned (.int .i64 Y.sign) ∧ Below W.heap.size W w') from sign_z v _ 60 W h1 (by omega)))
        have hwr : IntKind.i64.wrap (Z.sign * Y.sign) = Z.sign * Y.sign := IntWalk.i64_in _ ⟨by have := hpr.out.2.1; omega, by have := hpr.out.2.2; omega⟩
        have he1 : (Z.sign * Y.sign == Z.sign * Y.sign) = true := by simp
        have he2 : (sgn3 Z Y == sgn3 Z Y) = true := by simp
        generalize Z.sign = sa at *
        generalize Y.sign = sb at *
        generalize sgn3 Z Y = sq at *
        skip
        have SOF := hide (show ∀ W, Keeps w [(g7, .bool s3, .slice A3 n3 c3), (g8, .bool s4, .slice A4 n4 c4), (w.heap.size, .bool s, .slice A n c), (w.heap.size + 1, .bool t, .slice B m d), (w.heap.size + 1 + 1, .bool u, .slice C l f)] W → (fun W => Keeps w [(g7, .bool s3, .slice A3 n3 c3), (g8, .bool s4, .slice A4 n4 c4), (w.heap.size, .bool s, .slice A n c), (w.heap.size + 1, .bool t, .slice B m d), (w.heap.size + 1 + 1, .bool u, .slice C l f)] W ∧ W.cell? ⟨w.heap.size, 0, none⟩ = some (.bool s) ∧ W.cell? ⟨w.heap.size, 1, none⟩ = some (.slice A n c) ∧ W.cell? ⟨w.heap.size + 1, 0, none⟩ = some (.bool t) ∧ W.cell? ⟨w.heap.size + 1, 1, none⟩ = some (.slice B m d) ∧ W.cell? ⟨g7, 0, none⟩ = some (.bool s3) ∧ W.cell? ⟨g7, 1, none⟩ = some (.slice A3 n3 c3) ∧ W.cell? ⟨g8, 0, none⟩ = some (.bool s4) ∧ W.cell? ⟨g8, 1, none⟩ = some (.slice A4 n4 c4)) W from fun W k => ⟨k, (k.blk (List.Mem.tail _ (List.Mem.tail _ (List.Mem.head _)))).c0, (k.blk (List.Mem.tail _ (List.Mem.tail _ (List.Mem.head _)))).c1, (k.blk (List.Mem.tail _ (List.Mem.tail _ (List.Mem.tail _ (List.Mem.head _))))).c0, (k.blk (List.Mem.tail _ (List.Mem.tail _ (List.Mem.tail _ (List.Mem.head _))))).c1, (k.blk (List.Mem.head _)).c0, (k.blk (List.Mem.head _)).c1, (k.blk (List.Mem.tail _ (List.Mem.head _))).c0, (k.blk (List.Mem.tail _ (List.Mem.head _))).c1⟩)
        have HK := hide K
        have T31 : Below wcut.heap.size wcut wcut.drew := bl_drewN wcut 1
        clear K
        go_wp2_with fail
        go_region_held3 (fun W => Keeps w [(g7, .bool s3, .slice A3 n3 c3), (g8, .bool s4, .slice A4 n4 c4), (w.heap.size, .bool s, .slice A n c), (w.heap.size + 1, .bool t, .slice B m d), (w.heap.size + 1 + 1, .bool u, .slice C l f)] W ∧ W.cell? ⟨w.heap.size, 0, none⟩ = some (.bool s) ∧ W.cell? ⟨w.heap.size, 1, none⟩ = some (.slice A n c) ∧ W.cell? ⟨w.heap.size + 1, 0, none⟩ = some (.bool t) ∧ W.cell? ⟨w.heap.size + 1, 1, none⟩ = some (.slice B m d) ∧ W.cell? ⟨g7, 0, none⟩ = some (.bool s3) ∧ W.cell? ⟨g7, 1, none⟩ = some (.slice A3 n3 c3) ∧ W.cell? ⟨g8, 0, none⟩ = some (.bool s4) ∧ W.cell? ⟨g8, 1, none⟩ = some (.slice A4 n4 c4))
          (with_reducible first | exact SOF.out _ HK.out.drew | exact SOF.out _ (Keeps.call (And.left (a := Keeps w _ _) (by assumption)) (by assumption)))
          (first
            | (go_at_call 36; (with_reducible refine (add_z _ _ Y Z 60 wcut.drew (hu.below (HK.out.old.next T31)) (hv.below (HK.out.old.next T31)) (by omega)).mono ?_); rintro e w32 ⟨v32, rfl, r32, b32⟩; have T32 := T31.next b32; replace r32 := r32.ofEq (show _ = Z + Y by omega))
            | (go_at_call 42; (with_reducible refine (HC0.out _ _ (Z + Y) 61 w32 (rs.below T32).in_ r32.in_ (by omega)).mono ?_); rintro e w33 ⟨rfl, b33⟩; have T33 := T32.next b33)
            | (go_at_call 40; (with_reducible refine (mul_z _ _ Y Z 60 60 w33 (hu.below (HK.out.old.next T33)) (hv.below (HK.out.old.next T33)) (by omega) (by omega)).mono ?_); rintro e w34 ⟨v34, rfl, r34, b34⟩; have T34 := T33.next b34; replace r34 := r34.ofEq (Int.mul_comm Y Z))
            | (go_at_call 42; (with_reducible refine (HC0.out _ _ (Z * Y) 120 w34 (rp.below T34).in_ r34.in_ (by omega)).mono ?_); rintro e w35 ⟨rfl, b35⟩; have T35 := T34.next b35)
            | (go_at_call 38; (with_reducible refine (sub_z _ _ (Z + Y) Y 61 w35 (rs.below T35).in_ ((hu.below (HK.out.old.next T35)).mono (by omega)) (by omega)).mono ?_); rintro e w36 ⟨v36, rfl, r36, b36⟩; have T36 := T35.next b36; replace r36 := r36.ofEq (show _ = Z by omega))
            | (go_at_call 42; (with_reducible refine (HC0.out _ _ Z 62 w36 r36.in_ ((hv.below (HK.out.old.next T36)).mono (by omega)) (by omega)).mono ?_); rintro e w37 ⟨rfl, b37⟩; have T37 := T36.next b37))
        have K := HK.out.call T37
        replace rs := rs.below T37
        replace rp := rp.below T37
        clear HK SOF T31 T32 T33 T34 T35 T36 T37
        have SOF := hide (show ∀ W, Keeps w [(g7, .bool s3, .slice A3 n3 c3), (g8, .bool s4, .slice A4 n4 c4), (w.heap.size, .bool s, .slice A n c), (w.heap.size + 1, .bool t, .slice B m d), (w.heap.size + 1 + 1, .bool u, .slice C l f)] W → (fun W => Keeps w [(g7, .bool s3, .slice A3 n3 c3), (g8, .bool s4, .slice A4 n4 c4), (w.heap.size, .bool s, .slice A n c), (w.heap.size + 1, .bool t, .slice B m d), (w.heap.size + 1 + 1, .bool u, .slice C l f)] W ∧ W.cell? ⟨w.heap.size, 0, none⟩ = some (.bool s) ∧ W.cell? ⟨w.heap.size, 1, none⟩ = some (.slice A n c) ∧ W.cell? ⟨w.heap.size + 1, 0, none⟩ = some (.bool t) ∧ W.cell? ⟨w.heap.size + 1, 1, none⟩ = some (.slice B m d) ∧ W.cell? ⟨w.heap.size + 1 + 1, 0, none⟩ = some (.bool u) ∧ W.cell? ⟨w.heap.size + 1 + 1, 1, none⟩ = some (.slice C l f) ∧ W.cell? ⟨g7, 0, none⟩ = some (.bool s3) ∧ W.cell? ⟨g7, 1, none⟩ = some (.slice A3 n3 c3)) W from fun W k => ⟨k, (k.blk (List.Mem.tail _ (List.Mem.tail _ (List.Mem.head _)))).c0, (k.blk (List.Mem.tail _ (List.Mem.tail _ (List.Mem.head _)))).c1, (k.blk (List.Mem.tail _ (List.Mem.tail _ (List.Mem.tail _ (List.Mem.head _))))).c0, (k.blk (List.Mem.tail _ (List.Mem.tail _ (List.Mem.tail _ (List.Mem.head _))))).c1, (k.blk (List.Mem.tail _ (List.Mem.tail _ (List.Mem.tail _ (List.Mem.tail _ (List.Mem.head _)))))).c0, (k.blk (List.Mem.tail _ (List.Mem.tail _ (List.Mem.tail _ (List.Mem.tail _ (List.Mem.head _)))))).c1, (k.blk (List.Mem.head _)).c0, (k.blk (List.Mem.head _)).c1⟩)
        have HK := hide K
        have T38 : Below w37.heap.size w37 w37.drew := bl_drewN w37 1
        clear K
        go_wp2_with fail
        go_region_held3 (fun W => Keeps w [(g7, .bool s3, .slice A3 n3 c3), (g8, .bool s4, .slice A4 n4 c4), (w.heap.size, .bool s, .slice A n c), (w.heap.size + 1, .bool t, .slice B m d), (w.heap.size + 1 + 1, .bool u, .slice C l f)] W ∧ W.cell? ⟨w.heap.size, 0, none⟩ = some (.bool s) ∧ W.cell? ⟨w.heap.size, 1, none⟩ = some (.slice A n c) ∧ W.cell? ⟨w.heap.size + 1, 0, none⟩ = some (.bool t) ∧ W.cell? ⟨w.heap.size + 1, 1, none⟩ = some (.slice B m d) ∧ W.cell? ⟨w.heap.size + 1 + 1, 0, none⟩ = some (.bool u) ∧ W.cell? ⟨w.heap.size + 1 + 1, 1, none⟩ = some (.slice C l f) ∧ W.cell? ⟨g7, 0, none⟩ = some (.bool s3) ∧ W.cell? ⟨g7, 1, none⟩ = some (.slice A3 n3 c3))
          (with_reducible first | exact SOF.out _ HK.out.drew | exact SOF.out _ (Keeps.call (And.left (a := Keeps w _ _) (by assumption)) (by assumption)))
          (first
            | (go_at_call 40; (with_reducible refine (mul_z _ _ (Z + Y) X 61 60 w37.drew (rs.below T38).in_ (ht.below (HK.out.old.next T38)) (by omega) (by omega)).mono ?_); rintro e w39 ⟨v39, rfl, r39, b39⟩; have T39 := T38.next b39)
            | (go_at_call 40; (with_reducible refine (mul_z _ _ Z X 60 60 w39 (hv.below (HK.out.old.next T39)) (ht.below (HK.out.old.next T39)) (by omega) (by omega)).mono ?_); rintro e w40 ⟨v40, rfl, r40, b40⟩; have T40 := T39.next b40)
            | (go_at_call 40; (with_reducible refine (mul_z _ _ Y X 60 60 w40 (hu.below (HK.out.old.next T40)) (ht.below (HK.out.old.next T40)) (by omega) (by omega)).mono ?_); rintro e w41 ⟨v41, rfl, r41, b41⟩; have T41 := T40.next b41)
            | (go_at_call 36; (with_reducible refine (add_z _ _ (Z * X) (Y * X) 120 w41 (r40.below b41).in_ r41.in_ (by omega)).mono ?_); rintro e w42 ⟨v42, rfl, r42, b42⟩; have T42 := T41.next b42; replace r42 := r42.ofEq (Int.add_mul Z Y X).symm)
            | (go_at_call 42; (with_reducible refine (HC0.out _ _ ((Z + Y) * X) 121 w42 (((r39.below b40).below b41).below b42).in_ r42.in_ (by omega)).mono ?_); rintro e w43 ⟨rfl, b43⟩; have T43 := T42.next b43)
            | (go_at_call 36; (with_reducible refine (add_z _ _ (Z + Y) X 61 w43 (rs.below T43).in_ ((ht.below (HK.out.old.next T43)).mono (by omega)) (by omega)).mono ?_); rintro e w44 ⟨v44, rfl, r44, b44⟩; have T44 := T43.next b44)
            | (go_at_call 36; (with_reducible refine (add_z _ _ Y X 60 w44 (hu.below (HK.out.old.next T44)) (ht.below (HK.out.old.next T44)) (by omega)).mono ?_); rintro e w45 ⟨v45, rfl, r45, b45⟩; have T45 := T44.next b45)
            | (go_at_call 36; (with_reducible refine (add_z _ _ Z (Y + X) 61 w45 ((hv.below (HK.out.old.next T45)).mono (by omega)) r45.in_ (by omega)).mono ?_); rintro e w46 ⟨v46, rfl, r46, b46⟩; have T46 := T45.next b46; replace r46 := r46.ofEq (show _ = Z + Y + X by omega))
            | (go_at_call 42; (with_reducible refine (HC0.out _ _ (Z + Y + X) 62 w46 ((r44.below b45).below b46).in_ r46.in_ (by omega)).mono ?_); rintro e w47 ⟨rfl, b47⟩; have T47 := T46.next b47))
        have K := HK.out.call T47
        replace rs := rs.below T47
        replace rp := rp.below T47
        clear HK SOF T38 T39 T40 T41 T42 T43 T44 T45 T46 T47
        have SOF := hide (show ∀ W, Keeps w [(g7, .bool s3, .slice A3 n3 c3), (g8, .bool s4, .slice A4 n4 c4), (w.heap.size, .bool s, .slice A n c), (w.heap.size + 1, .bool t, .slice B m d), (w.heap.size + 1 + 1, .bool u, .slice C l f)] W → (fun W => Keeps w [(g7, .bool s3, .slice A3 n3 c3), (g8, .bool s4, .slice A4 n4 c4), (w.heap.size, .bool s, .slice A n c), (w.heap.size + 1, .bool t, .slice B m d), (w.heap.size + 1 + 1, .bool u, .slice C l f)] W ∧ W.cell? ⟨w.heap.size, 0, none⟩ = some (.bool s) ∧ W.cell? ⟨w.heap.size, 1, none⟩ = some (.slice A n c) ∧ W.cell? ⟨w.heap.size + 1, 0, none⟩ = some (.bool t) ∧ W.cell? ⟨w.heap.size + 1, 1, none⟩ = some (.slice B m d) ∧ W.cell? ⟨g8, 0, none⟩ = some (.bool s4) ∧ W.cell? ⟨g8, 1, none⟩ = some (.slice A4 n4 c4)) W from fun W k => ⟨k, (k.blk (List.Mem.tail _ (List.Mem.tail _ (List.Mem.head _)))).c0, (k.blk (List.Mem.tail _ (List.Mem.tail _ (List.Mem.head _)))).c1, (k.blk (List.Mem.tail _ (List.Mem.tail _ (List.Mem.tail _ (List.Mem.head _))))).c0, (k.blk (List.Mem.tail _ (List.Mem.tail _ (List.Mem.tail _ (List.Mem.head _))))).c1, (k.blk (List.Mem.tail _ (List.Mem.head _))).c0, (k.blk (List.Mem.tail _ (List.Mem.head _))).c1⟩)
        have HK := hide K
        have T48 : Below w47.heap.size w47 w47.drew := bl_drewN w47 1
        clear K
        go_wp2_with fail
        go_region_held3 (fun W => Keeps w [(g7, .bool s3, .slice A3 n3 c3), (g8, .bool s4, .slice A4 n4 c4), (w.heap.size, .bool s, .slice A n c), (w.heap.size + 1, .bool t, .slice B m d), (w.heap.size + 1 + 1, .bool u, .slice C l f)] W ∧ W.cell? ⟨w.heap.size, 0, none⟩ = some (.bool s) ∧ W.cell? ⟨w.heap.size, 1, none⟩ = some (.slice A n c) ∧ W.cell? ⟨w.heap.size + 1, 0, none⟩ = some (.bool t) ∧ W.cell? ⟨w.heap.size + 1, 1, none⟩ = some (.slice B m d) ∧ W.cell? ⟨g8, 0, none⟩ = some (.bool s4) ∧ W.cell? ⟨g8, 1, none⟩ = some (.slice A4 n4 c4))
          (with_reducible first | exact SOF.out _ HK.out.drew | exact SOF.out _ (Keeps.call (And.left (a := Keeps w _ _) (by assumption)) (by assumption)))
          (first
            | (go_at_call 45; (with_reducible refine (neg_z _ Z 60 w47.drew (hv.below (HK.out.old.next T48)) (by omega)).mono ?_); rintro e w49 ⟨v49, rfl, r49, b49⟩; have T49 := T48.next b49)
            | (go_at_call 36; (with_reducible refine (add_z _ _ Z (-Z) 60 w49 (hv.below (HK.out.old.next T49)) r49.in_ (by omega)).mono ?_); rintro e w50 ⟨v50, rfl, r50, b50⟩; have T50 := T49.next b50; replace r50 := r50.ofEq (show _ = (0 : Int) by omega))
            | (go_at_call 43; (with_reducible refine (sign_z _ 0 61 w50 r50.in_ (by omega)).mono ?_); rintro e w51 ⟨rfl, b51⟩; have T51 := T50.next b51)
            | (go_at_call 43; (with_reducible refine (HSP.out _ w51 (rp.below T51).in_).mono ?_); rintro e w52 ⟨rfl, b52⟩; have T52 := T51.next b52)
            | (go_at_call 43; (with_reducible refine (HSA.out _ w52 (hv.below (HK.out.old.next T52))).mono ?_); rintro e w53 ⟨rfl, b53⟩; have T53 := T52.next b53)
            | (go_at_call 43; (with_reducible refine (HSB.out _ w53 (hu.below (HK.out.old.next T53))).mono ?_); rintro e w54 ⟨rfl, b54⟩; have T54 := T53.next b54)
            | (go_at_call 42; (with_reducible refine (HCM.out _ _ w54 (hv.below (HK.out.old.next T54)) (hu.below (HK.out.old.next T54))).mono ?_); rintro e w55 ⟨rfl, b55⟩; have T55 := T54.next b55)
            | (go_at_call 38; (with_reducible refine (sub_z _ _ Z Y 60 w55 (hv.below (HK.out.old.next T55)) (hu.below (HK.out.old.next T55)) (by omega)).mono ?_); rintro e w56 ⟨v56, rfl, r56, b56⟩; have T56 := T55.next b56)
            | (go_at_call 43; (with_reducible refine (HSD.out _ w56 r56.in_).mono ?_); rintro e w57 ⟨rfl, b57⟩; have T57 := T56.next b57)
            | (go_at_call 45; (with_reducible refine (neg_z _ Z 60 w57 (hv.below (HK.out.old.next T57)) (by omega)).mono ?_); rintro e w58 ⟨v58, rfl, r58, b58⟩; have T58 := T57.next b58)
            | (go_at_call 45; (with_reducible refine (neg_z _ (-Z) 60 w58 r58.in_ (by omega)).mono ?_); rintro e w59 ⟨v59, rfl, r59, b59⟩; have T59 := T58.next b59; replace r59 := r59.ofEq (show _ = Z by omega))
            | (go_at_call 42; (with_reducible refine (HC0.out _ _ Z 60 w59 r59.in_ (hv.below (HK.out.old.next T59)) (by omega)).mono ?_); rintro e w60 ⟨rfl, b60⟩; have T60 := T59.next b60))
        have K := HK.out.call T60
        replace rs := rs.below T60
        replace rp := rp.below T60
        clear HK SOF T48 T49 T50 T51 T52 T53 T54 T55 T56 T57 T58 T59 T60
        go_wp2_with fail
        go_ret
        exact ⟨rfl, K.old⟩
    · go_enter Try.func11, Try.ntmps11
      go_wp2_with fail
      refine (counting_any _).mono ?_
      rintro e w1 ⟨rfl, b1⟩
      replace K := K.call b1
      clear b1
      have cxa := (K.blk (List.Mem.head _)).c0
      have cxb := (K.blk (List.Mem.head _)).c1
      have cya := (K.blk (List.Mem.tail _ (List.Mem.head _))).c0
      have cyb := (K.blk (List.Mem.tail _ (List.Mem.head _))).c1
      go_wp2_with fail
      refine (z2short_yes _ _ Z Y 60 60 w1 (hv.below K.old) (hu.below K.old) (by omega) (by omega)).mono ?_
      rintro e w2 ⟨rfl, b2⟩
      clear cxa cxb cya cyb
      replace K := K.call b2
      clear b2
      have cza := (K.blk (List.Mem.tail _ (List.Mem.tail _ (List.Mem.head _)))).c0
      have czb := (K.blk (List.Mem.tail _ (List.Mem.tail _ (List.Mem.head _)))).c1
      go_wp2_with fail
      go_ret
      exact ⟨rfl, K.old⟩
  · go_enter Try.func11, Try.ntmps11
    go_wp2_with fail
    refine (counting_any _).mono ?_
    rintro e w1 ⟨rfl, b1⟩
    replace K := K.call b1
    clear b1
    have cxa := (K.blk (List.Mem.head _)).c0
    have cxb := (K.blk (List.Mem.head _)).c1
    have cya := (K.blk (List.Mem.tail _ (List.Mem.head _))).c0
    have cyb := (K.blk (List.Mem.tail _ (List.Mem.head _))).c1
    go_wp2_with fail
    refine (z2short_no s t A B n c m d 60 w1 (by omega) (by omega) (by omega) (by omega)).mono ?_
    rintro e w2 ⟨rfl, b2⟩
    clear cxa cxb cya cyb
    replace K := K.call b2
    clear b2
    go_wp2_with fail
    go_ret
    exact ⟨rfl, K.old⟩
end Go.Proofs.Ytpocaopiaggbmaa
