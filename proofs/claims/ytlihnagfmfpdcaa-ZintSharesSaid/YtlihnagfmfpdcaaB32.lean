/- Texts of one seat, put together: BezoutZ. -/
import Derived.Test.YtlihnagfmfpdcaaB30
import Derived.Test.YtlihnagfmfpdcaaB31
import Derived.Deep.LoopGhost
import Derived.Deep.DeepCutAuto
/- zint.Bezout. -/
namespace Go.Proofs.Ytlihnagfmfpdcaa
open Go.RowKit

/-- What the loop keeps: the numbers r0, x0, y0 and k, x1, y1 of Euclid's steps, in the two triples. -/
def BzRel (N M K gL gN : Nat) (w : World) (L : List (Nat × Value × Value)) (k : Nat) (wr : World) : Prop :=
  ∃ (r0 : Nat) (x0 y0 x1 y1 : Int), BezInv N M r0 k x0 y0 x1 y1 ∧ bez r0 k x0 y0 x1 y1 = bez N M 1 0 0 1 ∧ TRes wr gL (r0 : Int) x0 y0 K ∧ TRes wr gN (k : Int) x1 y1 K ∧ Keeps w L wr
def TSlot (W : World) (X Y Z : Int) (K : Nat) (v : Value) (wx : World) : Prop := ∃ g, v = .pointer (some ⟨g, 0, none⟩) ∧ W.heap.size ≤ g ∧ TRes wx g X Y Z K ∧ Below W.heap.size W wx
def BzPost (G X Y : Int) (K : Nat) (w : World) (e : Ending) (w' : World) : Prop := ∃ v1 v2 v3, e = .returned (.tuple #[v1, v2, v3]) ∧ ZRes w' v1 G K ∧ ZRes w' v2 X K ∧ ZRes w' v3 Y K ∧ Below w.heap.size w w'
def bzX (Z Y : Int) : Int := if Z < 0 then -(bez Z.natAbs Y.natAbs 1 0 0 1).2.1 else (bez Z.natAbs Y.natAbs 1 0 0 1).2.1
def bzY (Z Y : Int) : Int := if Y < 0 then -(bez Z.natAbs Y.natAbs 1 0 0 1).2.2 else (bez Z.natAbs Y.natAbs 1 0 0 1).2.2
set_option maxRecDepth 100000 in
set_option maxHeartbeats 8000000 in
theorem bezout_z (v u : Value) (Z Y : Int) (k K : Nat) (w : World) (hv : ZIn w v Z k) (hu : ZIn w u Y k) (hk : k ≤ 6871947) (hK : K = k + 1) : Calls Try.prog 25 #[v, u] w (BzPost (gcdZ Z Y) (bzX Z Y) (bzY Z Y) K w) := by
  have hv0 := hv
  have hu0 := hu
  obtain ⟨s, A, n, c, xs, rfl, -⟩ := hv
  obtain ⟨t, B, m, d, ys, rfl, -⟩ := hu
  obtain ⟨W0, hW, x0, y0, q0, r0, p0, z0, hz⟩ := fold5 w #[.bool s, .slice A n c] #[.bool t, .slice B m d]
  have K0 := (((((Keeps.nil z0).add p0 (by omega)).add r0 (by omega)).add q0 (by omega)).add y0 (by omega)).add x0 (by omega)
  have HAX := hide (abs_z _ Z k W0 (hv0.below z0) (by omega))
  have HAY := hide (fun W (h : Below w.heap.size w W) => abs_z _ Y k W (hu0.below h) (by omega))
  clear x0 y0 q0 r0 p0 z0
  subst hW
  have hsz0 := hide hz
  clear hz
  have HSX := hide (fun W (h : Below w.heap.size w W) => sign_z _ Z k W (hv0.below h) (by omega))
  have HSY := hide (fun W (h : Below w.heap.size w W) => sign_z _ Y k W (hu0.below h) (by omega))
  unfold SignPost at HSX HSY
  have hXd := hide (show bzX Z Y = if Z < 0 then -(bez Z.natAbs Y.natAbs 1 0 0 1).2.1 else (bez Z.natAbs Y.natAbs 1 0 0 1).2.1 from rfl)
  have hYd := hide (show bzY Z Y = if Y < 0 then -(bez Z.natAbs Y.natAbs 1 0 0 1).2.2 else (bez Z.natAbs Y.natAbs 1 0 0 1).2.2 from rfl)
  have hGd := hide (show gcdZ Z Y = ((Nat.gcd Z.natAbs Y.natAbs : Nat) : Int) from rfl)
  have hN := hide hv0.lt
  have hM := hide hu0.lt
  generalize Z.natAbs = N at *
  generalize Y.natAbs = M at *
  have hKp := hide (show N + M + 1 < 4294967296 ^ K by
    have h1 := hN.out
    have h2 := hM.out
    rw [hK, Nat.pow_succ]
    omega)
  have hk2 : K ≤ 6871948 := by omega
  have hkK : k ≤ K := by omega
  clear hK
  go_enter Try.func25, Try.ntmps25
  go_wp2_with fail
  refine HAX.out.mono ?_
  rintro e w1 ⟨v1, rfl, r1, b1⟩
  obtain ⟨s1, A1, n1, c1, rfl⟩ := r1.form
  have K1 := K0.call b1
  clear HAX K0
  go_wp2_with fail
  refine (of_z 1 w1 (by omega) (by omega)).mono ?_
  rintro e w2 ⟨v2, rfl, r2, b2⟩
  obtain ⟨s2, A2, n2, c2, rfl⟩ := r2.form
  replace K1 := K1.call b2
  replace r1 := r1.below b2
  go_wp2_with fail
  refine (of_z 0 w2 (by omega) (by omega)).mono ?_
  rintro e w3 ⟨v3, rfl, r3, b3⟩
  obtain ⟨s3, A3, n3, c3, rfl⟩ := r3.form
  replace K1 := K1.call b3
  replace r1 := r1.below b3
  replace r2 := r2.below b3
  have hsz1 := b1.size
  have hsz2 := b2.size
  have hsz3 := b3.size
  clear b1 b2 b3
  have L4 : TRes (w3.alloc (.cells #[.bool s1, .slice A1 n1 c1, .bool s2, .slice A2 n2 c2, .bool s3, .slice A3 n3 c3] 72)) w3.heap.size (N : Int) 1 0 K :=
    ⟨_, _, _, _, _, _, _, _, _, _, _, _, BT.new _ _ _ _ _ _ _, (r1.alloc _).short (by have := hKp.out; omega), (r2.alloc _).short (by have := hKp.out; omega), (r3.alloc _).short (by have := hKp.out; omega)⟩
  have K4 := K1.alloc (.cells #[.bool s1, .slice A1 n1 c1, .bool s2, .slice A2 n2 c2, .bool s3, .slice A3 n3 c3] 72)
  have hgL := hide (show w.heap.size + 5 ≤ w3.heap.size by have := hsz0.out; omega)
  have hs4 := size_alloc w3 (.cells #[.bool s1, .slice A1 n1 c1, .bool s2, .slice A2 n2 c2, .bool s3, .slice A3 n3 c3] 72)
  clear r1 r2 r3 K1 hsz1 hsz2 hsz3
  have y4 := K4.blk (List.Mem.tail _ (List.Mem.head _))
  have y4a := y4.c0
  have y4b := y4.c1
  go_wp2_with fail
  refine (HAY.out _ K4.old).mono ?_
  rintro e w5 ⟨v5, rfl, r5, b5⟩
  obtain ⟨s5, A5, n5, c5, rfl⟩ := r5.form
  clear y4 y4a y4b HAY
  replace K4 := K4.call b5
  replace L4 := L4.next b5
  go_wp2_with fail
  refine (of_z 0 w5 (by omega) (by omega)).mono ?_
  rintro e w6 ⟨v6, rfl, r6, b6⟩
  obtain ⟨s6, A6, n6, c6, rfl⟩ := r6.form
  replace K4 := K4.call b6
  replace L4 := L4.next b6
  replace r5 := r5.below b6
  go_wp2_with fail
  refine (of_z 1 w6 (by omega) (by omega)).mono ?_
  rintro e w7 ⟨v7, rfl, r7, b7⟩
  obtain ⟨s7, A7, n7, c7, rfl⟩ := r7.form
  replace K4 := K4.call b7
  replace L4 := L4.next b7
  replace r5 := r5.below b7
  replace r6 := r6.below b7
  have N4 : TRes (w7.alloc (.cells #[.bool s5, .slice A5 n5 c5, .bool s6, .slice A6 n6 c6, .bool s7, .slice A7 n7 c7] 72)) w7.heap.size (M : Int) 0 1 K :=
    ⟨_, _, _, _, _, _, _, _, _, _, _, _, BT.new _ _ _ _ _ _ _, (r5.alloc _).short (by have := hKp.out; omega), (r6.alloc _).short (by have := hKp.out; omega), (r7.alloc _).short (by have := hKp.out; omega)⟩
  replace K4 := K4.alloc (.cells #[.bool s5, .slice A5 n5 c5, .bool s6, .slice A6 n6 c6, .bool s7, .slice A7 n7 c7] 72)
  replace L4 := L4.next (bl_alloc _ (.cells #[.bool s5, .slice A5 n5 c5, .bool s6, .slice A6 n6 c6, .bool s7, .slice A7 n7 c7] 72))
  have hgN := hide (show w3.heap.size < w7.heap.size by have h1 := b5.size; have h2 := b6.size; have h3 := b7.size; omega)
  have R0 := hide (show BzRel N M K w3.heap.size w7.heap.size w _ M _ from ⟨N, 1, 0, 0, 1, bez_start N M, rfl, L4, N4, K4⟩)
  clear r5 r6 r7 b5 b6 b7 hs4 L4 N4 K4
  generalize w3.heap.size = gL at *
  go_wp2_with fail
  generalize w7.heap.size = gN at *
  go_loopg [11] M (fun k v wr => Hid (BzRel N M K gL gN w [(w.heap.size, .bool s, .slice A n c), (w.heap.size + 1, .bool t, .slice B m d), (w.heap.size + 1 + 1, .bool false, .slice none 0 0), (w.heap.size + 1 + 1 + 1, .bool false, .slice none 0 0), (w.heap.size + 1 + 1 + 1 + 1, .bool false, .slice none 0 0)] k wr))
  case atStart => exact R0
  case round =>
    clear R0
    obtain ⟨r0, x0, y0, x1, y1, hinv, hbez, hL, hNx, hKp2⟩ := hrel
    have HINV := hide hinv
    have HBEZ := hide hbez
    clear hinv hbez
    by_cases hk0 : gk = 0
    · subst hk0
      obtain ⟨s1, A1, n1, c1, s2, A2, n2, c2, s3, A3, n3, c3, bL, l1, l2, l3⟩ := hL
      obtain ⟨s4, A4, n4, c4, s5, A5, n5, c5, s6, A6, n6, c6, bN, l4, -, -⟩ := hNx
      have hends := hide (bez_ends N M N M 1 0 0 1 (bez_start N M))
      have hbe := HBEZ.out
      rw [bez_end] at hbe
      rw [← hbe] at hends hXd hYd
      have HEND := hide hends.out.1
      clear hbe HBEZ HINV hends
      have HS0 := hide (show Calls Try.prog 42 #[.agg #[.bool s4, .slice A4 n4 c4]] wr (fun e w' => e = .returned (.int .i64 0) ∧ Below wr.heap.size wr w') from sign_z _ _ K wr l4.in_ (by omega))
      have N0 := bN.c0
      have N1 := bN.c1
      have KT := hKp2
      have hfar : ∀ p ∈ [(w.heap.size, Value.bool s, Value.slice A n c), (w.heap.size + 1, Value.bool t, Value.slice B m d), (w.heap.size + 1 + 1, Value.bool false, Value.slice none 0 0), (w.heap.size + 1 + 1 + 1, Value.bool false, Value.slice none 0 0), (w.heap.size + 1 + 1 + 1 + 1, Value.bool false, Value.slice none 0 0)], p.1 < gL := by
        have := hgL.out
        intro p hp
        simp only [List.mem_cons, List.not_mem_nil, or_false] at hp
        rcases hp with rfl | rfl | rfl | rfl | rfl <;> (show _ < _) <;> simp only [] <;> omega
      have HFAR := hide hfar
      have hn1 : ¬ gL = w.heap.size + 1 := by have := hgL.out; omega
      have hn2 : ¬ w.heap.size + 1 = gL := by have := hgL.out; omega
      have hGE : ((r0 : Nat) : Int) = gcdZ Z Y := by rw [hGd.out]; exact congrArg _ HEND.out
      clear l4 bN hKp2 HEND hGd
      by_cases hz : Z < 0
      all_goals by_cases hy : Y < 0
      · have hE : ((r0 : Nat) : Int) = gcdZ Z Y ∧ -x0 = bzX Z Y ∧ -y0 = bzY Z Y := ⟨hGE, by rw [hXd.out, if_pos hz], by rw [hYd.out, if_pos hy]⟩
        have hzs : Z.sign < 0 := by rw [Int.sign_eq_neg_one_of_neg hz]; omega
        have hys : Y.sign < 0 := by rw [Int.sign_eq_neg_one_of_neg hy]; omega
        generalize Z.sign = zs at *
        generalize Y.sign = ysn at *
        clear hz hy hXd hYd hGE
        go_wp2_with fail
        refine HS0.out.mono ?_
        rintro e w1 ⟨rfl, b1⟩
        replace KT := KT.call b1; replace bL := bL.next b1; replace l1 := l1.below b1; replace l2 := l2.below b1; replace l3 := l3.below b1
        clear N0 N1
        have c0 := (KT.blk (List.Mem.head _)).c0; have c1 := (KT.blk (List.Mem.head _)).c1
        go_wp2_with fail
        refine (HSX.out w1 KT.old).mono ?_
        rintro e w2 ⟨rfl, b2⟩
        clear c0 c1
        replace KT := KT.call b2; replace bL := bL.next b2; replace l1 := l1.below b2; replace l2 := l2.below b2; replace l3 := l3.below b2
        have d2 := bL.c2; have d3 := bL.c3
        go_wp2_with fail
        refine (neg_z _ x0 K w2 l2.in_ (by omega)).mono ?_
        rintro e w3 ⟨v3, rfl, r3, b3⟩
        obtain ⟨s3, A3, n3, c3, rfl⟩ := r3.form
        clear d2 d3
        replace KT := KT.call b3; replace bL := bL.next b3; replace l1 := l1.below b3; replace l3 := l3.below b3
        have d2 := bL.c2; have d3 := bL.c3; have f2 := bL.fr 2; have f3 := bL.fr 3
        have c0 := (KT.blk (List.Mem.tail _ (List.Mem.head _))).c0; have c1 := (KT.blk (List.Mem.tail _ (List.Mem.head _))).c1
        have o3 := only_setY w3 gL (.bool s3) (.slice A3 n3 c3)
        have KT3 := KT.far o3 (by have := hgL.out; omega) (fun p hp => by have := hfar p hp; omega)
        have l13 := l1.onlyT bL o3; have l23 := r3.onlyT bL o3; have l33 := l3.onlyT bL o3
        have bL3 := bL.setY (.bool s3) (.slice A3 n3 c3)
        have HH3 := hide (And.intro KT3 (And.intro l13 (And.intro l23 (And.intro l33 bL3))))
        clear KT3 l13 l23 l33 bL3 KT l1 r3 l3 bL o3 l2
        go_wp2_with fail
        obtain ⟨KT, l1, l2, l3, bL⟩ := HH3.out
        clear c0 c1 d2 d3 f2 f3 HH3
        generalize hW4 : (w3.setCell ⟨gL, 2, none⟩ (.bool s3)).setCell ⟨gL, 3, none⟩ (.slice A3 n3 c3) = w4 at *
        clear hW4
        refine (HSY.out w4 KT.old).mono ?_
        rintro e w5 ⟨rfl, b5⟩
        replace KT := KT.call b5; replace bL := bL.next b5; replace l1 := l1.below b5; replace l2 := l2.below b5; replace l3 := l3.below b5
        have d2 := bL.c4; have d3 := bL.c5
        go_wp2_with fail
        refine (neg_z _ y0 K w5 l3.in_ (by omega)).mono ?_
        rintro e w6 ⟨v6, rfl, r6, b6⟩
        obtain ⟨s6, A6, n6, c6, rfl⟩ := r6.form
        clear d2 d3
        replace KT := KT.call b6; replace bL := bL.next b6; replace l1 := l1.below b6; replace l2 := l2.below b6
        have d2 := bL.c4; have d3 := bL.c5; have f2 := bL.fr 4; have f3 := bL.fr 5
        have o6 := only_setZ w6 gL (.bool s6) (.slice A6 n6 c6)
        have KT3 := KT.far o6 (by have := hgL.out; omega) (fun p hp => by have := hfar p hp; omega)
        have l13 := l1.onlyT bL o6; have l23 := l2.onlyT bL o6; have l33 := r6.onlyT bL o6
        have bL3 := bL.setZ (.bool s6) (.slice A6 n6 c6)
        have HH3 := hide (And.intro KT3 (And.intro l13 (And.intro l23 (And.intro l33 bL3))))
        clear KT3 l13 l23 l33 bL3 KT l1 r6 l3 bL o6 l2
        go_wp2_with fail
        obtain ⟨KT, l1, l2, l3, bL⟩ := HH3.out
        clear d2 d3 f2 f3 HH3
        generalize hW7 : (w6.setCell ⟨gL, 4, none⟩ (.bool s6)).setCell ⟨gL, 5, none⟩ (.slice A6 n6 c6) = w7 at *
        clear hW7
        have L0 := bL.c0; have L1 := bL.c1; have L2 := bL.c2; have L3 := bL.c3; have L4 := bL.c4; have L5 := bL.c5
        have q := KT.blk (List.Mem.tail _ (List.Mem.tail _ (List.Mem.head _)))
        have r := KT.blk (List.Mem.tail _ (List.Mem.tail _ (List.Mem.tail _ (List.Mem.head _))))
        have p := KT.blk (List.Mem.tail _ (List.Mem.tail _ (List.Mem.tail _ (List.Mem.tail _ (List.Mem.head _)))))
        have q0 := q.c0; have q1 := q.c1; have q2 := q.fr 0; have q3 := q.fr 1
        have r0a := r.c0; have r1a := r.c1; have r2a := r.fr 0; have r3a := r.fr 1
        have p0 := p.c0; have p1 := p.c1; have p2 := p.fr 0; have p3 := p.fr 1
        have HZ := hide (And.intro KT (And.intro q (And.intro r (And.intro p (And.intro l1 (And.intro l2 l3))))))
        have HE := hide hE
        clear KT q r p l1 l2 l3 bL hE
        go_region
        clear L0 L1 L2 L3 L4 L5 q0 q1 q2 q3 r0a r1a r2a r3a p0 p1 p2 p3
        go_wp2_with fail
        simp only [st2_def]
        obtain ⟨KT, q, r, p, l1, l2, l3⟩ := HZ.out
        have h7 := three_out KT q r p l1 l2 l3
        exact bodyPost_zzz rfl rfl rfl rfl h7.1 h7.2.1 h7.2.2.1 rfl ⟨_, _, _, rfl, h7.2.2.2.1.ofEq HE.out.1, h7.2.2.2.2.1.ofEq HE.out.2.1, h7.2.2.2.2.2.1.ofEq HE.out.2.2, h7.2.2.2.2.2.2⟩
      · have hE : ((r0 : Nat) : Int) = gcdZ Z Y ∧ -x0 = bzX Z Y ∧ y0 = bzY Z Y := ⟨hGE, by rw [hXd.out, if_pos hz], by rw [hYd.out, if_neg hy]⟩
        have hzs : Z.sign < 0 := by rw [Int.sign_eq_neg_one_of_neg hz]; omega
        have hys : ¬ Y.sign < 0 := fun h => hy (Int.sign_neg_iff.1 h)
        generalize Z.sign = zs at *
        generalize Y.sign = ysn at *
        clear hz hy hXd hYd hGE
        go_wp2_with fail
        refine HS0.out.mono ?_
        rintro e w1 ⟨rfl, b1⟩
        replace KT := KT.call b1; replace bL := bL.next b1; replace l1 := l1.below b1; replace l2 := l2.below b1; replace l3 := l3.below b1
        clear N0 N1
        have c0 := (KT.blk (List.Mem.head _)).c0; have c1 := (KT.blk (List.Mem.head _)).c1
        go_wp2_with fail
        refine (HSX.out w1 KT.old).mono ?_
        rintro e w2 ⟨rfl, b2⟩
        clear c0 c1
        replace KT := KT.call b2; replace bL := bL.next b2; replace l1 := l1.below b2; replace l2 := l2.below b2; replace l3 := l3.below b2
        have d2 := bL.c2; have d3 := bL.c3
        go_wp2_with fail
        refine (neg_z _ x0 K w2 l2.in_ (by omega)).mono ?_
        rintro e w3 ⟨v3, rfl, r3, b3⟩
        obtain ⟨s3, A3, n3, c3, rfl⟩ := r3.form
        clear d2 d3
        replace KT := KT.call b3; replace bL := bL.next b3; replace l1 := l1.below b3; replace l3 := l3.below b3
        have d2 := bL.c2; have d3 := bL.c3; have f2 := bL.fr 2; have f3 := bL.fr 3
        have c0 := (KT.blk (List.Mem.tail _ (List.Mem.head _))).c0; have c1 := (KT.blk (List.Mem.tail _ (List.Mem.head _))).c1
        have o3 := only_setY w3 gL (.bool s3) (.slice A3 n3 c3)
        have KT3 := KT.far o3 (by have := hgL.out; omega) (fun p hp => by have := hfar p hp; omega)
        have l13 := l1.onlyT bL o3; have l23 := r3.onlyT bL o3; have l33 := l3.onlyT bL o3
        have bL3 := bL.setY (.bool s3) (.slice A3 n3 c3)
        have HH3 := hide (And.intro KT3 (And.intro l13 (And.intro l23 (And.intro l33 bL3))))
        clear KT3 l13 l23 l33 bL3 KT l1 r3 l3 bL o3 l2
        go_wp2_with fail
        obtain ⟨KT, l1, l2, l3, bL⟩ := HH3.out
        clear c0 c1 d2 d3 f2 f3 HH3
        generalize hW4 : (w3.setCell ⟨gL, 2, none⟩ (.bool s3)).setCell ⟨gL, 3, none⟩ (.slice A3 n3 c3) = w4 at *
        clear hW4
        refine (HSY.out w4 KT.old).mono ?_
        rintro e w5 ⟨rfl, b5⟩
        replace KT := KT.call b5; replace bL := bL.next b5; replace l1 := l1.below b5; replace l2 := l2.below b5; replace l3 := l3.below b5
        go_wp2_with fail
        have L0 := bL.c0; have L1 := bL.c1; have L2 := bL.c2; have L3 := bL.c3; have L4 := bL.c4; have L5 := bL.c5
        have q := KT.blk (List.Mem.tail _ (List.Mem.tail _ (List.Mem.head _)))
        have r := KT.blk (List.Mem.tail _ (List.Mem.tail _ (List.Mem.tail _ (List.Mem.head _))))
        have p := KT.blk (List.Mem.tail _ (List.Mem.tail _ (List.Mem.tail _ (List.Mem.tail _ (List.Mem.head _)))))
        have q0 := q.c0; have q1 := q.c1; have q2 := q.fr 0; have q3 := q.fr 1
        have r0a := r.c0; have r1a := r.c1; have r2a := r.fr 0; have r3a := r.fr 1
        have p0 := p.c0; have p1 := p.c1; have p2 := p.fr 0; have p3 := p.fr 1
        have HZ := hide (And.intro KT (And.intro q (And.intro r (And.intro p (And.intro l1 (And.intro l2 l3))))))
        have HE := hide hE
        clear KT q r p l1 l2 l3 bL hE
        go_region
        clear L0 L1 L2 L3 L4 L5 q0 q1 q2 q3 r0a r1a r2a r3a p0 p1 p2 p3
        go_wp2_with fail
        simp only [st2_def]
        obtain ⟨KT, q, r, p, l1, l2, l3⟩ := HZ.out
        have h7 := three_out KT q r p l1 l2 l3
        exact bodyPost_zzz rfl rfl rfl rfl h7.1 h7.2.1 h7.2.2.1 rfl ⟨_, _, _, rfl, h7.2.2.2.1.ofEq HE.out.1, h7.2.2.2.2.1.ofEq HE.out.2.1, h7.2.2.2.2.2.1.ofEq HE.out.2.2, h7.2.2.2.2.2.2⟩
      · have hE : ((r0 : Nat) : Int) = gcdZ Z Y ∧ x0 = bzX Z Y ∧ -y0 = bzY Z Y := ⟨hGE, by rw [hXd.out, if_neg hz], by rw [hYd.out, if_pos hy]⟩
        have hzs : ¬ Z.sign < 0 := fun h => hz (Int.sign_neg_iff.1 h)
        have hys : Y.sign < 0 := by rw [Int.sign_eq_neg_one_of_neg hy]; omega
        generalize Z.sign = zs at *
        generalize Y.sign = ysn at *
        clear hz hy hXd hYd hGE
        go_wp2_with fail
        refine HS0.out.mono ?_
        rintro e w1 ⟨rfl, b1⟩
        replace KT := KT.call b1; replace bL := bL.next b1; replace l1 := l1.below b1; replace l2 := l2.below b1; replace l3 := l3.below b1
        clear N0 N1
        have c0 := (KT.blk (List.Mem.head _)).c0; have c1 := (KT.blk (List.Mem.head _)).c1
        go_wp2_with fail
        refine (HSX.out w1 KT.old).mono ?_
        rintro e w2 ⟨rfl, b2⟩
        clear c0 c1
        replace KT := KT.call b2; replace bL := bL.next b2; replace l1 := l1.below b2; replace l2 := l2.below b2; replace l3 := l3.below b2
        have c0 := (KT.blk (List.Mem.tail _ (List.Mem.head _))).c0; have c1 := (KT.blk (List.Mem.tail _ (List.Mem.head _))).c1
        go_wp2_with fail
        clear c0 c1
        refine (HSY.out w2 KT.old).mono ?_
        rintro e w5 ⟨rfl, b5⟩
        replace KT := KT.call b5; replace bL := bL.next b5; replace l1 := l1.below b5; replace l2 := l2.below b5; replace l3 := l3.below b5
        have d2 := bL.c4; have d3 := bL.c5
        go_wp2_with fail
        refine (neg_z _ y0 K w5 l3.in_ (by omega)).mono ?_
        rintro e w6 ⟨v6, rfl, r6, b6⟩
        obtain ⟨s6, A6, n6, c6, rfl⟩ := r6.form
        clear d2 d3
        replace KT := KT.call b6; replace bL := bL.next b6; replace l1 := l1.below b6; replace l2 := l2.below b6
        have d2 := bL.c4; have d3 := bL.c5; have f2 := bL.fr 4; have f3 := bL.fr 5
        have o6 := only_setZ w6 gL (.bool s6) (.slice A6 n6 c6)
        have KT3 := KT.far o6 (by have := hgL.out; omega) (fun p hp => by have := hfar p hp; omega)
        have l13 := l1.onlyT bL o6; have l23 := l2.onlyT bL o6; have l33 := r6.onlyT bL o6
        have bL3 := bL.setZ (.bool s6) (.slice A6 n6 c6)
        have HH3 := hide (And.intro KT3 (And.intro l13 (And.intro l23 (And.intro l33 bL3))))
        clear KT3 l13 l23 l33 bL3 KT l1 r6 l3 bL o6 l2
        go_wp2_with fail
        obtain ⟨KT, l1, l2, l3, bL⟩ := HH3.out
        clear d2 d3 f2 f3 HH3
        generalize hW7 : (w6.setCell ⟨gL, 4, none⟩ (.bool s6)).setCell ⟨gL, 5, none⟩ (.slice A6 n6 c6) = w7 at *
        clear hW7
        have L0 := bL.c0; have L1 := bL.c1; have L2 := bL.c2; have L3 := bL.c3; have L4 := bL.c4; have L5 := bL.c5
        have q := KT.blk (List.Mem.tail _ (List.Mem.tail _ (List.Mem.head _)))
        have r := KT.blk (List.Mem.tail _ (List.Mem.tail _ (List.Mem.tail _ (List.Mem.head _))))
        have p := KT.blk (List.Mem.tail _ (List.Mem.tail _ (List.Mem.tail _ (List.Mem.tail _ (List.Mem.head _)))))
        have q0 := q.c0; have q1 := q.c1; have q2 := q.fr 0; have q3 := q.fr 1
        have r0a := r.c0; have r1a := r.c1; have r2a := r.fr 0; have r3a := r.fr 1
        have p0 := p.c0; have p1 := p.c1; have p2 := p.fr 0; have p3 := p.fr 1
        have HZ := hide (And.intro KT (And.intro q (And.intro r (And.intro p (And.intro l1 (And.intro l2 l3))))))
        have HE := hide hE
        clear KT q r p l1 l2 l3 bL hE
        go_region
        clear L0 L1 L2 L3 L4 L5 q0 q1 q2 q3 r0a r1a r2a r3a p0 p1 p2 p3
        go_wp2_with fail
        simp only [st2_def]
        obtain ⟨KT, q, r, p, l1, l2, l3⟩ := HZ.out
        have h7 := three_out KT q r p l1 l2 l3
        exact bodyPost_zzz rfl rfl rfl rfl h7.1 h7.2.1 h7.2.2.1 rfl ⟨_, _, _, rfl, h7.2.2.2.1.ofEq HE.out.1, h7.2.2.2.2.1.ofEq HE.out.2.1, h7.2.2.2.2.2.1.ofEq HE.out.2.2, h7.2.2.2.2.2.2⟩
      · have hE : ((r0 : Nat) : Int) = gcdZ Z Y ∧ x0 = bzX Z Y ∧ y0 = bzY Z Y := ⟨hGE, by rw [hXd.out, if_neg hz], by rw [hYd.out, if_neg hy]⟩
        have hzs : ¬ Z.sign < 0 := fun h => hz (Int.sign_neg_iff.1 h)
        have hys : ¬ Y.sign < 0 := fun h => hy (Int.sign_neg_iff.1 h)
        generalize Z.sign = zs at *
        generalize Y.sign = ysn at *
        clear hz hy hXd hYd hGE
        go_wp2_with fail
        refine HS0.out.mono ?_
        rintro e w1 ⟨rfl, b1⟩
        replace KT := KT.call b1; replace bL := bL.next b1; replace l1 := l1.below b1; replace l2 := l2.below b1; replace l3 := l3.below b1
        clear N0 N1
        have c0 := (KT.blk (List.Mem.head _)).c0; have c1 := (KT.blk (List.Mem.head _)).c1
        go_wp2_with fail
        refine (HSX.out w1 KT.old).mono ?_
        rintro e w2 ⟨rfl, b2⟩
        clear c0 c1
        replace KT := KT.call b2; replace bL := bL.next b2; replace l1 := l1.below b2; replace l2 := l2.below b2; replace l3 := l3.below b2
        have c0 := (KT.blk (List.Mem.tail _ (List.Mem.head _))).c0; have c1 := (KT.blk (List.Mem.tail _ (List.Mem.head _))).c1
        go_wp2_with fail
        clear c0 c1
        refine (HSY.out w2 KT.old).mono ?_
        rintro e w5 ⟨rfl, b5⟩
        replace KT := KT.call b5; replace bL := bL.next b5; replace l1 := l1.below b5; replace l2 := l2.below b5; replace l3 := l3.below b5
        go_wp2_with fail
        have L0 := bL.c0; have L1 := bL.c1; have L2 := bL.c2; have L3 := bL.c3; have L4 := bL.c4; have L5 := bL.c5
        have q := KT.blk (List.Mem.tail _ (List.Mem.tail _ (List.Mem.head _)))
        have r := KT.blk (List.Mem.tail _ (List.Mem.tail _ (List.Mem.tail _ (List.Mem.head _))))
        have p := KT.blk (List.Mem.tail _ (List.Mem.tail _ (List.Mem.tail _ (List.Mem.tail _ (List.Mem.head _)))))
        have q0 := q.c0; have q1 := q.c1; have q2 := q.fr 0; have q3 := q.fr 1
        have r0a := r.c0; have r1a := r.c1; have r2a := r.fr 0; have r3a := r.fr 1
        have p0 := p.c0; have p1 := p.c1; have p2 := p.fr 0; have p3 := p.fr 1
        have HZ := hide (And.intro KT (And.intro q (And.intro r (And.intro p (And.intro l1 (And.intro l2 l3))))))
        have HE := hide hE
        clear KT q r p l1 l2 l3 bL hE
        go_region
        clear L0 L1 L2 L3 L4 L5 q0 q1 q2 q3 r0a r1a r2a r3a p0 p1 p2 p3
        go_wp2_with fail
        simp only [st2_def]
        obtain ⟨KT, q, r, p, l1, l2, l3⟩ := HZ.out
        have h7 := three_out KT q r p l1 l2 l3
        exact bodyPost_zzz rfl rfl rfl rfl h7.1 h7.2.1 h7.2.2.1 rfl ⟨_, _, _, rfl, h7.2.2.2.1.ofEq HE.out.1, h7.2.2.2.2.1.ofEq HE.out.2.1, h7.2.2.2.2.2.1.ofEq HE.out.2.2, h7.2.2.2.2.2.2⟩
    · have hstep := hide (bez_next HINV.out hk0)
      have hbst := hide (bez_step r0 gk x0 y0 x1 y1 hk0)
      have hml := hide (Nat.mod_lt r0 (Nat.pos_of_ne_zero hk0))
      have hdv := nat_fdiv r0 gk hk0
      have hne : ((gk : Int) ≠ 0) := by omega
      have hsg : (gk : Int).sign = 1 := Int.sign_eq_one_of_pos (by omega)
      obtain ⟨s1, A1, n1, c1, s2, A2, n2, c2, s3, A3, n3, c3, hBL, l1, l2, l3⟩ := hL
      obtain ⟨s4, A4, n4, c4, s5, A5, n5, c5, s6, A6, n6, c6, hBN, l4, l5, l6⟩ := hNx
      have HSG := hide (show Calls Try.prog 42 #[.agg #[.bool s4, .slice A4 n4 c4]] wr (fun e w' => e = .returned (.int .i64 1) ∧ Below wr.heap.size wr w') by
        have := sign_z _ _ K wr l4.in_ (by omega)
        unfold SignPost at this
        rw [hsg] at this
        exact this)
      have HDV := hide (fun W (h : Below wr.heap.size wr W) => zdiv_yes _ _ (r0 : Int) (gk : Int) K K W (l1.below h).in_ (l4.below h).in_ hne (by omega) (by omega))
      unfold DivZYes at HDV
      rw [hdv.1, hdv.2] at HDV
      clear hsg hdv hne hk0
      have l1c0 := hBL.c0
      have l1c1 := hBL.c1
      have l4c0 := hBN.c0
      have l4c1 := hBN.c1
      go_wp2_with fail
      refine HSG.out.mono ?_
      rintro e w1 ⟨rfl, b1⟩
      clear l1c0 l1c1 l4c0 l4c1 HSG
      replace hBL := hBL.next b1
      replace hBN := hBN.next b1
      have l1c0 := hBL.c0
      have l1c1 := hBL.c1
      have l4c0 := hBN.c0
      have l4c1 := hBN.c1
      go_wp2_with fail
      refine (HDV.out w1 b1).mono ?_
      rintro e w2 ⟨u2, v2, rfl, zq, zr, b2⟩
      obtain ⟨sq, Aq, nq, cq, rfl⟩ := zq.form
      obtain ⟨sr, Ar, nr, cr, rfl⟩ := zr.form
      clear l1c0 l1c1 l4c0 l4c1 HDV
      replace hBL := hBL.next b2
      replace hBN := hBN.next b2
      go_upto_region 5 with fail
      have tt := (bl_alloc w2 (.cells #[.bool sq, .slice Aq nq cq] 38)).next (bl_alloc _ (.cells #[.bool sr, .slice Ar nr cr] 38))
      have qB := (Blk.new w2 #[.bool sq, .slice Aq nq cq]).alloc (.cells #[.bool sr, .slice Ar nr cr] 38)
      have rB := Blk.newAt (g := w2.heap.size + 1) (w2.alloc (.cells #[.bool sq, .slice Aq nq cq] 38)) #[.bool sr, .slice Ar nr cr] (by rw [size_alloc])
      have T6 := ((b1.next b2).next tt)
      have K6 := ((hKp2.call b1).call b2).call tt
      replace hBL := hBL.next tt
      replace hBN := hBN.next tt
      replace zq := zq.below tt
      replace zr := zr.below tt
      replace l2 := l2.below T6
      replace l3 := l3.below T6
      replace l5 := l5.below T6
      replace l6 := l6.below T6
      replace l4 := l4.below T6
      clear tt T6 hKp2 l1 b1 b2
      generalize hW6 : (w2.alloc (.cells #[.bool sq, .slice Aq nq cq] 38)).alloc (.cells #[.bool sr, .slice Ar nr cr] 38) = W6 at *
      have HB := hide (show BT W6 gL _ _ _ _ _ _ ∧ BT W6 gN _ _ _ _ _ _ ∧ Blk W6 _ _ ∧ Blk W6 _ _ from ⟨hBL, hBN, qB, rB⟩)
      have HM1 := hide (fun W (h : Below W6.heap.size W6 W) => mul_z _ _ _ _ K K W (zq.below h).in_ (l5.below h).in_ (by omega) (by omega))
      have HM2 := hide (fun W (h : Below W6.heap.size W6 W) => mul_z _ _ _ _ K K W (zq.below h).in_ (l6.below h).in_ (by omega) (by omega))
      have HS1 := hide (fun W v6 (h : Below W6.heap.size W6 W) (h1 : ZRes W v6 (((r0 / gk : Nat) : Int) * x1) (K + K)) => sub_z _ v6 _ _ (K + K) W ((l2.below h).in_.mono (by omega)) h1.in_ (by omega))
      have HS2 := hide (fun W v6 (h : Below W6.heap.size W6 W) (h1 : ZRes W v6 (((r0 / gk : Nat) : Int) * y1) (K + K)) => sub_z _ v6 _ _ (K + K) W ((l3.below h).in_.mono (by omega)) h1.in_ (by omega))
      have HZR := hide zr
      have SOF := hide (show ∀ W, Below W6.heap.size W6 W → (fun W => Below W6.heap.size W6 W ∧ W.cell? ⟨w2.heap.size, 0, none⟩ = some (.bool sq) ∧ W.cell? ⟨w2.heap.size, 1, none⟩ = some (.slice Aq nq cq) ∧ W.cell? ⟨w2.heap.size + 1, 0, none⟩ = some (.bool sr) ∧ W.cell? ⟨w2.heap.size + 1, 1, none⟩ = some (.slice Ar nr cr) ∧ W.cell? ⟨gL, 2, none⟩ = some (.bool s2) ∧ W.cell? ⟨gL, 3, none⟩ = some (.slice A2 n2 c2) ∧ W.cell? ⟨gL, 4, none⟩ = some (.bool s3) ∧ W.cell? ⟨gL, 5, none⟩ = some (.slice A3 n3 c3) ∧ W.cell? ⟨gN, 2, none⟩ = some (.bool s5) ∧ W.cell? ⟨gN, 3, none⟩ = some (.slice A5 n5 c5) ∧ W.cell? ⟨gN, 4, none⟩ = some (.bool s6) ∧ W.cell? ⟨gN, 5, none⟩ = some (.slice A6 n6 c6)) W from fun W h => ⟨h, (qB.next h).c0, (qB.next h).c1, (rB.next h).c0, (rB.next h).c1, (hBL.next h).c2, (hBL.next h).c3, (hBL.next h).c4, (hBL.next h).c5, (hBN.next h).c2, (hBN.next h).c3, (hBN.next h).c4, (hBN.next h).c5⟩)
      have HK6 := hide K6
      have HD0 := hide (show Below W6.heap.size W6 W6.drew from bl_drewN W6 1)
      have HL46 := hide (show ZRes W6 _ _ K ∧ ZRes W6 _ _ K ∧ ZRes W6 _ _ K from ⟨l4, l5, l6⟩)
      have HX := hide (show (x0 - ((r0 / gk : Nat) : Int) * x1).natAbs < 4294967296 ^ K from Nat.lt_of_le_of_lt hstep.out.2.2.2.2.2.2.2.1 hKp.out)
      have HY := hide (show (y0 - ((r0 / gk : Nat) : Int) * y1).natAbs < 4294967296 ^ K from Nat.lt_of_le_of_lt hstep.out.2.2.2.2.2.2.2.2.2 hKp.out)
      clear K6 hBL hBN qB rB zq zr l2 l3 l4 l5 l6 hW6
      -- REGION 5 BEGINS
      refine wp_region_facts (by kernel_rfl) (by kernel_rfl) (by kernel_rfl) (fun w w' => ∀ v Z k, ZRes w v Z k → ZRes w' v Z k) (fun j v w => match j with | 0 => v = .agg #[.bool sr, .slice Ar nr cr] | 1 => v = .pointer (some ⟨gL, 2, none⟩) | 2 => v = .agg #[.bool s2, .slice A2 n2 c2] | 3 => v = .agg #[.bool sq, .slice Aq nq cq] | 4 => v = .pointer (some ⟨gN, 2, none⟩) | 5 => v = .agg #[.bool s5, .slice A5 n5 c5] | 6 => ZRes w v (((r0 / gk : Nat) : Int) * x1) (K + K) | 7 => ZRes w v (x0 - ((r0 / gk : Nat) : Int) * x1) K | 8 => v = .pointer (some ⟨gL, 4, none⟩) | 9 => v = .agg #[.bool s3, .slice A3 n3 c3] | 10 => v = .agg #[.bool sq, .slice Aq nq cq] | 11 => v = .pointer (some ⟨gN, 4, none⟩) | 12 => v = .agg #[.bool s6, .slice A6 n6 c6] | 13 => ZRes w v (((r0 / gk : Nat) : Int) * y1) (K + K) | 14 => ZRes w v (y0 - ((r0 / gk : Nat) : Int) * y1) K | 15 => ∃ s8 A8 n8 c8 s9 A9 n9 c9, v = .agg #[.bool sr, .slice Ar nr cr, .bool s8, .slice A8 n8 c8, .bool s9, .slice A9 n9 c9] ∧ ZRes w (.agg #[.bool s8, .slice A8 n8 c8]) (x0 - ((r0 / gk : Nat) : Int) * x1) K ∧ ZRes w (.agg #[.bool s9, .slice A9 n9 c9]) (y0 - ((r0 / gk : Nat) : Int) * y1) K | _ => True) (G1 W6 16 17 (fun w g => BT w g (.bool false) (.slice none 0 0) (.bool false) (.slice none 0 0) (.bool false) (.slice none 0 0)) (fun w g => TRes w g ((r0 % gk : Nat) : Int) (x0 - ((r0 / gk : Nat) : Int) * x1) (y0 - ((r0 / gk : Nat) : Int) * y1) K)) ?_ (fun σ => G1.start) ?_ ?_
      · intro j v w w' hT h
        match j, h with
        | 0, h => exact h
        | 1, h => exact h
        | 2, h => exact h
        | 3, h => exact h
        | 4, h => exact h
        | 5, h => exact h
        | 6, h => exact hT _ _ _ h
        | 7, h => exact hT _ _ _ h
        | 8, h => exact h
        | 9, h => exact h
        | 10, h => exact h
        | 11, h => exact h
        | 12, h => exact h
        | 13, h => exact hT _ _ _ h
        | 14, h => exact hT _ _ _ h
        | 15, ⟨s8, A8, n8, c8, s9, A9, n9, c9, e, h1, h2⟩ => exact ⟨s8, A8, n8, c8, s9, A9, n9, c9, e, hT _ _ _ h1, hT _ _ _ h2⟩
        | j + 16, h => trivial
      · refine ⟨?_, ?_, ?_, ?_, ?_, ?_, ?_, ?_, ?_, ?_, ?_, ?_, ?_, ?_, ?_, ?_, ?_, ?_, trivial⟩
        · intro listed σ w a hin hout hl hc hp hG hF
          refine Guarded.none rfl ?_
          have e10 : a.tmps.getD 10 undef = .pointer (some ⟨w2.heap.size + 1, 0, none⟩) := hout 10 (by kernel_rfl)
          obtain ⟨-, H0, H1, H2, H3, H4, H5, H6, H7, H8, H9, H10, H11⟩ := SOF.out w hG.old
          refine Does.val (.agg #[.bool sr, .slice Ar nr cr]) (w' := w) ?_ ⟨fun _ _ _ h => h, rfl, hG.same (by decide) (by decide)⟩
          go_simp
        · intro listed σ w a hin hout hl hc hp hG hF
          refine Guarded.none rfl ?_
          have e7 : a.tmps.getD 7 undef = .pointer (some ⟨gL, 0, none⟩) := hout 7 (by kernel_rfl)
          obtain ⟨-, H0, H1, H2, H3, H4, H5, H6, H7, H8, H9, H10, H11⟩ := SOF.out w hG.old
          refine Does.val (.pointer (some ⟨gL, 2, none⟩)) (w' := w) ?_ ⟨fun _ _ _ h => h, rfl, hG.same (by decide) (by decide)⟩
          go_simp
        · intro listed σ w a hin hout hl hc hp hG hF
          refine Guarded.none rfl ?_
          have e37 : a.tmps.getD 37 undef = .pointer (some ⟨gL, 2, none⟩) := (hin 1 37 rfl (hp ⟨1, .data⟩ (by simp) rfl)).trans (hF 1 (hp ⟨1, .data⟩ (by simp) rfl))
          obtain ⟨-, H0, H1, H2, H3, H4, H5, H6, H7, H8, H9, H10, H11⟩ := SOF.out w hG.old
          refine Does.val (.agg #[.bool s2, .slice A2 n2 c2]) (w' := w) ?_ ⟨fun _ _ _ h => h, rfl, hG.same (by decide) (by decide)⟩
          go_simp
        · intro listed σ w a hin hout hl hc hp hG hF
          refine Guarded.none rfl ?_
          have e9 : a.tmps.getD 9 undef = .pointer (some ⟨w2.heap.size, 0, none⟩) := hout 9 (by kernel_rfl)
          obtain ⟨-, H0, H1, H2, H3, H4, H5, H6, H7, H8, H9, H10, H11⟩ := SOF.out w hG.old
          refine Does.val (.agg #[.bool sq, .slice Aq nq cq]) (w' := w) ?_ ⟨fun _ _ _ h => h, rfl, hG.same (by decide) (by decide)⟩
          go_simp
        · intro listed σ w a hin hout hl hc hp hG hF
          refine Guarded.none rfl ?_
          have e8 : a.tmps.getD 8 undef = .pointer (some ⟨gN, 0, none⟩) := hout 8 (by kernel_rfl)
          obtain ⟨-, H0, H1, H2, H3, H4, H5, H6, H7, H8, H9, H10, H11⟩ := SOF.out w hG.old
          refine Does.val (.pointer (some ⟨gN, 2, none⟩)) (w' := w) ?_ ⟨fun _ _ _ h => h, rfl, hG.same (by decide) (by decide)⟩
          go_simp
        · intro listed σ w a hin hout hl hc hp hG hF
          refine Guarded.none rfl ?_
          have e40 : a.tmps.getD 40 undef = .pointer (some ⟨gN, 2, none⟩) := (hin 4 40 rfl (hp ⟨4, .data⟩ (by simp) rfl)).trans (hF 4 (hp ⟨4, .data⟩ (by simp) rfl))
          obtain ⟨-, H0, H1, H2, H3, H4, H5, H6, H7, H8, H9, H10, H11⟩ := SOF.out w hG.old
          refine Does.val (.agg #[.bool s5, .slice A5 n5 c5]) (w' := w) ?_ ⟨fun _ _ _ h => h, rfl, hG.same (by decide) (by decide)⟩
          go_simp
        · intro listed σ w a hin hout hl hc hp hG hF
          refine Guarded.none rfl ?_
          have e39 : a.tmps.getD 39 undef = .agg #[.bool sq, .slice Aq nq cq] := (hin 3 39 rfl (hp ⟨3, .data⟩ (by simp) rfl)).trans (hF 3 (hp ⟨3, .data⟩ (by simp) rfl))
          have e41 : a.tmps.getD 41 undef = .agg #[.bool s5, .slice A5 n5 c5] := (hin 5 41 rfl (hp ⟨5, .data⟩ (by simp) rfl)).trans (hF 5 (hp ⟨5, .data⟩ (by simp) rfl))
          refine Does.call ?_ (HM1.out w hG.old) ?_
          · go_simp
          · rintro e w' ⟨v, rfl, z, hb⟩
            exact ⟨v, rfl, fun _ _ _ h => h.below hb, z, hG.keep (by decide) (by decide) hb (fun g h => h.next hb) (fun g h => h.next hb)⟩
        · intro listed σ w a hin hout hl hc hp hG hF
          refine Guarded.none rfl ?_
          have e38 : a.tmps.getD 38 undef = .agg #[.bool s2, .slice A2 n2 c2] := (hin 2 38 rfl (hp ⟨2, .data⟩ (by simp) rfl)).trans (hF 2 (hp ⟨2, .data⟩ (by simp) rfl))
          have e42 := hin 6 42 rfl (hp ⟨6, .data⟩ (by simp) rfl)
          have z6 : ZRes w (σ 6) _ _ := hF 6 (hp ⟨6, .data⟩ (by simp) rfl)
          generalize σ 6 = vv at *
          refine Does.call ?_ (HS1.out w _ hG.old z6) ?_
          · go_simp
          · rintro e w' ⟨v, rfl, z, hb⟩
            exact ⟨v, rfl, fun _ _ _ h => h.below hb, z.short HX.out, hG.keep (by decide) (by decide) hb (fun g h => h.next hb) (fun g h => h.next hb)⟩
        · intro listed σ w a hin hout hl hc hp hG hF
          refine Guarded.none rfl ?_
          have e7 : a.tmps.getD 7 undef = .pointer (some ⟨gL, 0, none⟩) := hout 7 (by kernel_rfl)
          obtain ⟨-, H0, H1, H2, H3, H4, H5, H6, H7, H8, H9, H10, H11⟩ := SOF.out w hG.old
          refine Does.val (.pointer (some ⟨gL, 4, none⟩)) (w' := w) ?_ ⟨fun _ _ _ h => h, rfl, hG.same (by decide) (by decide)⟩
          go_simp
        · intro listed σ w a hin hout hl hc hp hG hF
          refine Guarded.none rfl ?_
          have e44 : a.tmps.getD 44 undef = .pointer (some ⟨gL, 4, none⟩) := (hin 8 44 rfl (hp ⟨8, .data⟩ (by simp) rfl)).trans (hF 8 (hp ⟨8, .data⟩ (by simp) rfl))
          obtain ⟨-, H0, H1, H2, H3, H4, H5, H6, H7, H8, H9, H10, H11⟩ := SOF.out w hG.old
          refine Does.val (.agg #[.bool s3, .slice A3 n3 c3]) (w' := w) ?_ ⟨fun _ _ _ h => h, rfl, hG.same (by decide) (by decide)⟩
          go_simp
        · intro listed σ w a hin hout hl hc hp hG hF
          refine Guarded.none rfl ?_
          have e9 : a.tmps.getD 9 undef = .pointer (some ⟨w2.heap.size, 0, none⟩) := hout 9 (by kernel_rfl)
          obtain ⟨-, H0, H1, H2, H3, H4, H5, H6, H7, H8, H9, H10, H11⟩ := SOF.out w hG.old
          refine Does.val (.agg #[.bool sq, .slice Aq nq cq]) (w' := w) ?_ ⟨fun _ _ _ h => h, rfl, hG.same (by decide) (by decide)⟩
          go_simp
        · intro listed σ w a hin hout hl hc hp hG hF
          refine Guarded.none rfl ?_
          have e8 : a.tmps.getD 8 undef = .pointer (some ⟨gN, 0, none⟩) := hout 8 (by kernel_rfl)
          obtain ⟨-, H0, H1, H2, H3, H4, H5, H6, H7, H8, H9, H10, H11⟩ := SOF.out w hG.old
          refine Does.val (.pointer (some ⟨gN, 4, none⟩)) (w' := w) ?_ ⟨fun _ _ _ h => h, rfl, hG.same (by decide) (by decide)⟩
          go_simp
        · intro listed σ w a hin hout hl hc hp hG hF
          refine Guarded.none rfl ?_
          have e47 : a.tmps.getD 47 undef = .pointer (some ⟨gN, 4, none⟩) := (hin 11 47 rfl (hp ⟨11, .data⟩ (by simp) rfl)).trans (hF 11 (hp ⟨11, .data⟩ (by simp) rfl))
          obtain ⟨-, H0, H1, H2, H3, H4, H5, H6, H7, H8, H9, H10, H11⟩ := SOF.out w hG.old
          refine Does.val (.agg #[.bool s6, .slice A6 n6 c6]) (w' := w) ?_ ⟨fun _ _ _ h => h, rfl, hG.same (by decide) (by decide)⟩
          go_simp
        · intro listed σ w a hin hout hl hc hp hG hF
          refine Guarded.none rfl ?_
          have e46 : a.tmps.getD 46 undef = .agg #[.bool sq, .slice Aq nq cq] := (hin 10 46 rfl (hp ⟨10, .data⟩ (by simp) rfl)).trans (hF 10 (hp ⟨10, .data⟩ (by simp) rfl))
          have e48 : a.tmps.getD 48 undef = .agg #[.bool s6, .slice A6 n6 c6] := (hin 12 48 rfl (hp ⟨12, .data⟩ (by simp) rfl)).trans (hF 12 (hp ⟨12, .data⟩ (by simp) rfl))
          refine Does.call ?_ (HM2.out w hG.old) ?_
          · go_simp
          · rintro e w' ⟨v, rfl, z, hb⟩
            exact ⟨v, rfl, fun _ _ _ h => h.below hb, z, hG.keep (by decide) (by decide) hb (fun g h => h.next hb) (fun g h => h.next hb)⟩
        · intro listed σ w a hin hout hl hc hp hG hF
          refine Guarded.none rfl ?_
          have e45 : a.tmps.getD 45 undef = .agg #[.bool s3, .slice A3 n3 c3] := (hin 9 45 rfl (hp ⟨9, .data⟩ (by simp) rfl)).trans (hF 9 (hp ⟨9, .data⟩ (by simp) rfl))
          have e49 := hin 13 49 rfl (hp ⟨13, .data⟩ (by simp) rfl)
          have z13 : ZRes w (σ 13) _ _ := hF 13 (hp ⟨13, .data⟩ (by simp) rfl)
          generalize σ 13 = vv at *
          refine Does.call ?_ (HS2.out w _ hG.old z13) ?_
          · go_simp
          · rintro e w' ⟨v, rfl, z, hb⟩
            exact ⟨v, rfl, fun _ _ _ h => h.below hb, z.short HY.out, hG.keep (by decide) (by decide) hb (fun g h => h.next hb) (fun g h => h.next hb)⟩
        · intro listed σ w a hin hout hl hc hp hG hF
          refine Guarded.none rfl ?_
          have e36 : a.tmps.getD 36 undef = .agg #[.bool sr, .slice Ar nr cr] := (hin 0 36 rfl (hp ⟨0, .data⟩ (by simp) rfl)).trans (hF 0 (hp ⟨0, .data⟩ (by simp) rfl))
          have e43 := hin 7 43 rfl (hp ⟨7, .data⟩ (by simp) rfl)
          have z7 : ZRes w (σ 7) _ _ := hF 7 (hp ⟨7, .data⟩ (by simp) rfl)
          have e50 := hin 14 50 rfl (hp ⟨14, .data⟩ (by simp) rfl)
          have z14 : ZRes w (σ 14) _ _ := hF 14 (hp ⟨14, .data⟩ (by simp) rfl)
          obtain ⟨s8, A8, n8, c8, ev8⟩ := z7.form
          obtain ⟨s9, A9, n9, c9, ev9⟩ := z14.form
          rw [ev8] at e43 z7
          rw [ev9] at e50 z14
          refine Does.val (.agg #[.bool sr, .slice Ar nr cr, .bool s8, .slice A8 n8 c8, .bool s9, .slice A9 n9 c9]) (w' := w) ?_ ⟨fun _ _ _ h => h, ⟨s8, A8, n8, c8, s9, A9, n9, c9, rfl, z7, z14⟩, hG.same (by decide) (by decide)⟩
          simp only [Array.getD_eq_getD_getElem?] at e36 e43 e50
          go_simp
        · intro listed σ w a hin hout hl hc hp hG hF
          refine Guarded.none rfl ?_
          refine Does.val (.pointer (some ⟨w.heap.size, 0, none⟩)) (w' := w.alloc (.cells #[.bool false, .slice none 0 0, .bool false, .slice none 0 0, .bool false, .slice none 0 0] 72)) ?_ ⟨fun _ _ _ h => h.alloc _, trivial, hG.made (by decide) ?_ (bl_alloc w _) hG.old.size (BT.new _ _ _ _ _ _ _)⟩
          · go_simp
          · exact closed_un (k := 17) hc hl (by kernel_rfl)
        · intro listed σ w a hin hout hl hc hp hG hF
          refine Guarded.none rfl ?_
          obtain ⟨g, eg, hg, hfr, -⟩ := hG.2 (hp ⟨16, .data⟩ (by simp) rfl)
          have e12 := (hin 16 12 rfl (hp ⟨16, .data⟩ (by simp) rfl)).trans eg
          have e51 := hin 15 51 rfl (hp ⟨15, .data⟩ (by simp) rfl)
          obtain ⟨s8, A8, n8, c8, s9, A9, n9, c9, ev, z8, z9⟩ := hF 15 (hp ⟨15, .data⟩ (by simp) rfl)
          rw [ev] at e51
          have hfr1 := hfr (unlisted hl)
          have q0 := hfr1.c0; have q1 := hfr1.c1; have q2 := hfr1.c2; have q3 := hfr1.c3; have q4 := hfr1.c4; have q5 := hfr1.c5; have f0 := hfr1.fr 0; have f1 := hfr1.fr 1; have f2 := hfr1.fr 2; have f3 := hfr1.fr 3; have f4 := hfr1.fr 4; have f5 := hfr1.fr 5
          refine Does.skip (w' := st6 w g (.bool sr) (.slice Ar nr cr) (.bool s8) (.slice A8 n8 c8) (.bool s9) (.slice A9 n9 c9)) ?_ ⟨fun _ _ _ h => h.onlyT hfr1 (only_st6 _ _ _ _ _ _ _ _), trivial, hG.filled (by decide) (lt_unlisted hl) (zback hG.old hg (only_st6 _ _ _ _ _ _ _ _)) (fun g' eg' => ?_)⟩
          · go_simp
            rfl
          · obtain rfl : g = g' := by rw [eg] at eg'; injection eg' with h1; injection h1 with h1; injection h1
            exact ⟨_, _, _, _, _, _, _, _, _, _, _, _, hfr1.set6 _ _ _ _ _ _, (HZR.out.below hG.old).onlyT hfr1 (only_st6 _ _ _ _ _ _ _ _), z8.onlyT hfr1 (only_st6 _ _ _ _ _ _ _ _), z9.onlyT hfr1 (only_st6 _ _ _ _ _ _ _ _)⟩
      · intro listed σ W9 hall hG hF
        rw [show mid _ σ listed _ = (Act.put (Act.put (Act.put (Act.put (Act.put (Act.put (Act.put (Act.put (Act.put (Act.put (Act.put (Act.put (Act.put (Act.put (Act.put (Act.put (Act.put (Act.put _ (some 36) (σ 0)) (some 37) (σ 1)) (some 38) (σ 2)) (some 39) (σ 3)) (some 40) (σ 4)) (some 41) (σ 5)) (some 42) (σ 6)) (some 43) (σ 7)) (some 44) (σ 8)) (some 45) (σ 9)) (some 46) (σ 10)) (some 47) (σ 11)) (some 48) (σ 12)) (some 49) (σ 13)) (some 50) (σ 14)) (some 51) (σ 15)) (some 12) (σ 16)) none (σ 17)) from (mid_all hall).trans rfl]
        obtain ⟨g12, e16, hg12, -, hfull⟩ := hG.2 (hall 16 (by show 16 < 18; omega))
        have hT12 := hfull (hall 17 (by show 17 < 18; omega))
        rw [e16]
        simp only [Act.put, List.setIfInBounds_toArray, List.set_cons_zero, List.set_cons_succ]
        have TG := hG.old
        clear hF hG hfull hall e16
        generalize σ 0 = t36
        generalize σ 1 = t37
        generalize σ 2 = t38
        generalize σ 3 = t39
        generalize σ 4 = t40
        generalize σ 5 = t41
        generalize σ 6 = t42
        generalize σ 7 = t43
        generalize σ 8 = t44
        generalize σ 9 = t45
        generalize σ 10 = t46
        generalize σ 11 = t47
        generalize σ 12 = t48
        generalize σ 13 = t49
        generalize σ 14 = t50
        generalize σ 15 = t51
        generalize σ 16 = t52
        generalize σ 17 = t53
        clear σ
        have KT := HK6.out.call TG
        have bL := HB.out.1.next TG
        have bN := HB.out.2.1.next TG
        have n4 := HL46.out.1.below TG
        have n5 := HL46.out.2.1.below TG
        have n6 := HL46.out.2.2.below TG
        obtain ⟨sa, Aa, na, ca, sb, Ab, nb, cb, sc, Ac, nc, cc, b12, a1, a2, a3⟩ := hT12
        have hgLN := Nat.ne_of_lt hgN.out
        have hNg : gN ≠ g12 := fun e => by have h1 := HB.out.2.1.lt; omega
        have hLg : gL ≠ g12 := fun e => by have h1 := HB.out.1.lt; omega
        have HH := hide (And.intro KT (And.intro bL (And.intro bN (And.intro b12 (And.intro n4 (And.intro n5 (And.intro n6 (And.intro a1 (And.intro a2 a3)))))))))
        have L0 := bL.c0; have L1 := bL.c1; have L2 := bL.c2; have L3 := bL.c3; have L4 := bL.c4; have L5 := bL.c5
        have P0 := bL.fr 0; have P1 := bL.fr 1; have P2 := bL.fr 2; have P3 := bL.fr 3; have P4 := bL.fr 4; have P5 := bL.fr 5
        have M0 := bN.c0; have M1 := bN.c1; have M2 := bN.c2; have M3 := bN.c3; have M4 := bN.c4; have M5 := bN.c5
        have R0 := bN.fr 0; have R1 := bN.fr 1; have R2 := bN.fr 2; have R3 := bN.fr 3; have R4 := bN.fr 4; have R5 := bN.fr 5
        have G0 := b12.c0; have G1 := b12.c1; have G2 := b12.c2; have G3 := b12.c3; have G4 := b12.c4; have G5 := b12.c5
        clear KT bL bN b12 n4 n5 n6 a1 a2 a3 HB HK6 HL46 HM1 HM2 HS1 HS2 SOF HZR TG HD0
        go_wp2_with fail
        go_region
        clear L0 L1 L2 L3 L4 L5 P0 P1 P2 P3 P4 P5 M0 M1 M2 M3 M4 M5 R0 R1 R2 R3 R4 R5 G0 G1 G2 G3 G4 G5
        go_wp2_with fail
        go_roundg (r0 % gk)
        case rel =>
          simp only [st6_def]
          obtain ⟨KT, bL, bN, b12, n4, n5, n6, a1, a2, a3⟩ := HH.out
          have hfar : ∀ p ∈ [(w.heap.size, Value.bool s, Value.slice A n c), (w.heap.size + 1, Value.bool t, Value.slice B m d), (w.heap.size + 1 + 1, Value.bool false, Value.slice none 0 0), (w.heap.size + 1 + 1 + 1, Value.bool false, Value.slice none 0 0), (w.heap.size + 1 + 1 + 1 + 1, Value.bool false, Value.slice none 0 0)], p.1 < gL := by
            have := hgL.out
            intro p hp
            simp only [List.mem_cons, List.not_mem_nil, or_false] at hp
            rcases hp with rfl | rfl | rfl | rfl | rfl <;> (show _ < _) <;> simp only [] <;> omega
          have hsw := bz_swap KT bL bN hgLN (fun p hp => by have := hfar p hp; omega) (fun p hp => by have := hfar p hp; have := hgN.out; omega) (by have := hgL.out; omega) (by have := hgL.out; have := hgN.out; omega) n4 n5 n6 a1 a2 a3
          exact ⟨gk, x1, y1, _, _, hstep.out, hbst.out.symm.trans HBEZ.out, hsw.1, hsw.2.1, hsw.2.2⟩
        case measure => exact hml.out
end Go.Proofs.Ytlihnagfmfpdcaa
