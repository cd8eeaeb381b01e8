/- Texts of one seat, put together: RBezoutZ. -/
import Derived.Test.YtlihnagfmfpdcaaB34
import Derived.Test.YtlihnagfmfpdcaaB35
/- plumblineref02.Bezout. -/
namespace Go.Proofs.Ytlihnagfmfpdcaa
open Go.RowKit

def RbRel (N M K gL gN : Nat) (w : World) (L : List (Nat × Value × Value)) (k : Nat) (wr : World) : Prop :=
  ∃ (r0 : Nat) (x0 y0 x1 y1 : Int), BezInv N M r0 k x0 y0 x1 y1 ∧ bez r0 k x0 y0 x1 y1 = bez N M 1 0 0 1 ∧ ZBox wr gL (r0 : Int) K ∧ ZBox wr (gL + 1) x0 K ∧ ZBox wr (gL + 1 + 1) y0 K ∧ ZBox wr gN (k : Int) K ∧ ZBox wr (gN + 1) x1 K ∧ ZBox wr (gN + 1 + 1) y1 K ∧ Keeps w L wr
theorem ZBox.drew {w : World} {g k : Nat} {Z : Int} (h : ZBox w g Z k) : ZBox w.drew g Z k := h.next (bl_drewN w 1)
theorem ZBox.st {w : World} {g g' k n c : Nat} {Z : Int} {t : Bool} {A : Option Addr} {s : Bool} {B : Option Addr} {m d : Nat} (h : ZBox w g Z k) (hb : Blk w g' #[.bool s, .slice B m d]) (hne : g ≠ g') : ZBox (st2 w g' (.bool t) (.slice A n c)) g Z k := h.other hb (only_set2 w g' _ _) hne
/-- Three boxes are written anew; all others stay. -/
theorem copy3 {w W : World} {L : List (Nat × Value × Value)} {g1 g2 g3 k : Nat} {s1 s2 s3 t1 t2 t3 : Bool} {A1 A2 A3 B1 B2 B3 : Option Addr} {m1 m2 m3 d1 d2 d3 n1 n2 n3 c1 c2 c3 : Nat} {X Y Z : Int} (K : Keeps w L W)
    (b1 : Blk W g1 #[.bool s1, .slice B1 m1 d1]) (b2 : Blk W g2 #[.bool s2, .slice B2 m2 d2]) (b3 : Blk W g3 #[.bool s3, .slice B3 m3 d3]) (h12 : g1 ≠ g2) (h13 : g1 ≠ g3) (h23 : g2 ≠ g3) (hw : w.heap.size ≤ g1 ∧ w.heap.size ≤ g2 ∧ w.heap.size ≤ g3)
    (hL : ∀ p ∈ L, p.1 ≠ g1 ∧ p.1 ≠ g2 ∧ p.1 ≠ g3) (z1 : ZRes W (.agg #[.bool t1, .slice A1 n1 c1]) X k) (z2 : ZRes W (.agg #[.bool t2, .slice A2 n2 c2]) Y k) (z3 : ZRes W (.agg #[.bool t3, .slice A3 n3 c3]) Z k) :
    Keeps w L (st2 (st2 (st2 W g1 (.bool t1) (.slice A1 n1 c1)) g2 (.bool t2) (.slice A2 n2 c2)) g3 (.bool t3) (.slice A3 n3 c3)).drew ∧
    ZBox (st2 (st2 (st2 W g1 (.bool t1) (.slice A1 n1 c1)) g2 (.bool t2) (.slice A2 n2 c2)) g3 (.bool t3) (.slice A3 n3 c3)).drew g1 X k ∧
    ZBox (st2 (st2 (st2 W g1 (.bool t1) (.slice A1 n1 c1)) g2 (.bool t2) (.slice A2 n2 c2)) g3 (.bool t3) (.slice A3 n3 c3)).drew g2 Y k ∧
    ZBox (st2 (st2 (st2 W g1 (.bool t1) (.slice A1 n1 c1)) g2 (.bool t2) (.slice A2 n2 c2)) g3 (.bool t3) (.slice A3 n3 c3)).drew g3 Z k ∧
    ∀ g V j, ZBox W g V j → g ≠ g1 → g ≠ g2 → g ≠ g3 → ZBox (st2 (st2 (st2 W g1 (.bool t1) (.slice A1 n1 c1)) g2 (.bool t2) (.slice A2 n2 c2)) g3 (.bool t3) (.slice A3 n3 c3)).drew g V j := by
  have e2 : Blk (st2 W g1 (.bool t1) (.slice A1 n1 c1)) g2 #[.bool s2, .slice B2 m2 d2] := b2.stOther (Ne.symm h12)
  have e3 : Blk (st2 W g1 (.bool t1) (.slice A1 n1 c1)) g3 #[.bool s3, .slice B3 m3 d3] := b3.stOther (Ne.symm h13)
  have f3 : Blk (st2 (st2 W g1 (.bool t1) (.slice A1 n1 c1)) g2 (.bool t2) (.slice A2 n2 c2)) g3 #[.bool s3, .slice B3 m3 d3] := e3.stOther (Ne.symm h23)
  refine ⟨(((K.far (only_set2 W g1 _ _) hw.1 (fun p hp => (hL p hp).1)).far (only_set2 _ g2 _ _) hw.2.1 (fun p hp => (hL p hp).2.1)).far (only_set2 _ g3 _ _) hw.2.2 (fun p hp => (hL p hp).2.2)).drew, ?_, ?_, ?_, fun g V j h h1 h2 h3 => (((h.st b1 h1).st e2 h2).st f3 h3).drew⟩
  · exact (((ZBox.put b1 z1).st e2 h12).st f3 h13).drew
  · exact ((ZBox.put e2 (z2.st b1)).st f3 h23).drew
  · exact (ZBox.put f3 ((z3.st b1).st e2)).drew
set_option maxRecDepth 100000 in
set_option maxHeartbeats 8000000 in
theorem rbezout_z (v u : Value) (Z Y : Int) (k K : Nat) (w : World) (hv : ZIn w v Z k) (hu : ZIn w u Y k) (hk : k ≤ 6871947) (hK : K = k + 1) : Calls Try.prog 26 #[v, u] w (BzPost (gcdZ Z Y) (bzX Z Y) (bzY Z Y) K w) := by
  have hv0 := hv
  have hu0 := hu
  obtain ⟨s, A, n, c, xs, rfl, -⟩ := hv
  obtain ⟨t, B, m, d, ys, rfl, -⟩ := hu
  obtain ⟨W0, hW, x0, y0, q0, r0, p0, z0, hz⟩ := fold5 w #[.bool s, .slice A n c] #[.bool t, .slice B m d]
  have K0 := (((((Keeps.nil z0).add p0 (by omega)).add r0 (by omega)).add q0 (by omega)).add y0 (by omega)).add x0 (by omega)
  have HAX := hide (rabs_z _ Z k W0 (hv0.below z0) (by omega))
  have HAY := hide (fun W (h : Below w.heap.size w W) => rabs_z _ Y k W (hu0.below h) (by omega))
  clear x0 y0 q0 r0 p0 z0
  subst hW
  have hsz0 := hide hz
  clear hz
  have HSX := hide (fun W (h : Below w.heap.size w W) => rsign_z _ Z k W (hv0.below h) (by omega))
  have HSY := hide (fun W (h : Below w.heap.size w W) => rsign_z _ Y k W (hu0.below h) (by omega))
  unfold RSignPost at HSX HSY
  have hXd := hide (show bzX Z Y = if Z < 0 then -(bez Z.natAbs Y.natAbs 1 0 0 1).2.1 else (bez Z.natAbs Y.natAbs 1 0 0 1).2.1 from rfl)
  have hYd := hide (show bzY Z Y = if Y < 0 then -(bez Z.natAbs Y.natAbs 1 0 0 1).2.2 else (bez Z.natAbs Y.natAbs 1 0 0 1).2.2 from rfl)
  have hGd := hide (show gcdZ Z Y = ((Nat.gcd Z.natAbs Y.natAbs : Nat) : Int) from rfl)
  have hN := hide hv0.lt
  have hM := hide hu0.lt
  generalize Z.natAbs = N at *
  generalize Y.natAbs = M at *
  have hKp := hide (show N + M + 1 < 4294967296 ^ K by
    have h1 := hN.out
    have h2 := hM.out
    rw [hK, Nat.pow_succ]
    omega)
  have hk2 : K ≤ 6871948 := by omega
  have hkK : k ≤ K := by omega
  clear hK
  go_enter Try.func26, Try.ntmps26
  go_wp2_with fail
  refine HAX.out.mono ?_
  rintro e w1 ⟨v1, rfl, r1, b1⟩
  obtain ⟨s1, A1, n1, c1, rfl⟩ := r1.form
  have K1 := K0.call b1
  clear HAX K0
  go_wp2_with fail
  refine (rof_z 1 w1 (by omega) (by omega)).mono ?_
  rintro e w2 ⟨v2, rfl, r2, b2⟩
  obtain ⟨s2, A2, n2, c2, rfl⟩ := r2.form
  replace K1 := K1.call b2
  replace r1 := r1.below b2
  go_wp2_with fail
  refine (rof_z 0 w2 (by omega) (by omega)).mono ?_
  rintro e w3 ⟨v3, rfl, r3, b3⟩
  obtain ⟨s3, A3, n3, c3, rfl⟩ := r3.form
  replace K1 := K1.call b3
  replace r1 := r1.below b3
  replace r2 := r2.below b3
  have hsz1 := b1.size
  have hsz2 := b2.size
  have hsz3 := b3.size
  clear b1 b2 b3
  have tt := ((bl_alloc w3 (.cells #[.bool s1, .slice A1 n1 c1] 38)).next (bl_alloc _ (.cells #[.bool s2, .slice A2 n2 c2] 38))).next (bl_alloc _ (.cells #[.bool s3, .slice A3 n3 c3] 38))
  have K3 := (K1.made3 (a := .bool s1) (b := .slice A1 n1 c1) (c := .bool s2) (d := .slice A2 n2 c2) (e := .bool s3) (f := .slice A3 n3 c3))
  have L1 : ZBox (((w3.alloc (.cells #[.bool s1, .slice A1 n1 c1] 38)).alloc (.cells #[.bool s2, .slice A2 n2 c2] 38)).alloc (.cells #[.bool s3, .slice A3 n3 c3] 38)) w3.heap.size (N : Int) K := ⟨_, _, _, _, K3.blk (List.Mem.tail _ (List.Mem.tail _ (List.Mem.head _))), (r1.below tt).short (by have := hKp.out; omega)⟩
  have L2 : ZBox (((w3.alloc (.cells #[.bool s1, .slice A1 n1 c1] 38)).alloc (.cells #[.bool s2, .slice A2 n2 c2] 38)).alloc (.cells #[.bool s3, .slice A3 n3 c3] 38)) (w3.heap.size + 1) 1 K := ⟨_, _, _, _, K3.blk (List.Mem.tail _ (List.Mem.head _)), (r2.below tt).short (by have := hKp.out; omega)⟩
  have L3 : ZBox (((w3.alloc (.cells #[.bool s1, .slice A1 n1 c1] 38)).alloc (.cells #[.bool s2, .slice A2 n2 c2] 38)).alloc (.cells #[.bool s3, .slice A3 n3 c3] 38)) (w3.heap.size + 1 + 1) 0 K := ⟨_, _, _, _, K3.blk (List.Mem.head _), (r3.below tt).short (by have := hKp.out; omega)⟩
  have K4 := K1.call tt
  have hgL := hide (show w.heap.size + 5 ≤ w3.heap.size by have := hsz0.out; omega)
  have hs4 : (((w3.alloc (.cells #[.bool s1, .slice A1 n1 c1] 38)).alloc (.cells #[.bool s2, .slice A2 n2 c2] 38)).alloc (.cells #[.bool s3, .slice A3 n3 c3] 38)).heap.size = w3.heap.size + 1 + 1 + 1 := by simp only [size_alloc]
  clear r1 r2 r3 K1 K3 hsz1 hsz2 hsz3 tt
  have y4 := K4.blk (List.Mem.tail _ (List.Mem.head _))
  have y4a := y4.c0
  have y4b := y4.c1
  go_wp2_with fail
  refine (HAY.out _ K4.old).mono ?_
  rintro e w5 ⟨v5, rfl, r5, b5⟩
  obtain ⟨s5, A5, n5, c5, rfl⟩ := r5.form
  clear y4 y4a y4b HAY
  replace K4 := K4.call b5
  replace L1 := L1.next b5
  replace L2 := L2.next b5
  replace L3 := L3.next b5
  go_wp2_with fail
  refine (rof_z 0 w5 (by omega) (by omega)).mono ?_
  rintro e w6 ⟨v6, rfl, r6, b6⟩
  obtain ⟨s6, A6, n6, c6, rfl⟩ := r6.form
  replace K4 := K4.call b6
  replace L1 := L1.next b6
  replace L2 := L2.next b6
  replace L3 := L3.next b6
  replace r5 := r5.below b6
  go_wp2_with fail
  refine (rof_z 1 w6 (by omega) (by omega)).mono ?_
  rintro e w7 ⟨v7, rfl, r7, b7⟩
  obtain ⟨s7, A7, n7, c7, rfl⟩ := r7.form
  replace K4 := K4.call b7
  replace L1 := L1.next b7
  replace L2 := L2.next b7
  replace L3 := L3.next b7
  replace r5 := r5.below b7
  replace r6 := r6.below b7
  have tt := ((bl_alloc w7 (.cells #[.bool s5, .slice A5 n5 c5] 38)).next (bl_alloc _ (.cells #[.bool s6, .slice A6 n6 c6] 38))).next (bl_alloc _ (.cells #[.bool s7, .slice A7 n7 c7] 38))
  have K3 := (K4.made3 (a := .bool s5) (b := .slice A5 n5 c5) (c := .bool s6) (d := .slice A6 n6 c6) (e := .bool s7) (f := .slice A7 n7 c7))
  have N1 : ZBox (((w7.alloc (.cells #[.bool s5, .slice A5 n5 c5] 38)).alloc (.cells #[.bool s6, .slice A6 n6 c6] 38)).alloc (.cells #[.bool s7, .slice A7 n7 c7] 38)) w7.heap.size (M : Int) K := ⟨_, _, _, _, K3.blk (List.Mem.tail _ (List.Mem.tail _ (List.Mem.head _))), (r5.below tt).short (by have := hKp.out; omega)⟩
  have N2 : ZBox (((w7.alloc (.cells #[.bool s5, .slice A5 n5 c5] 38)).alloc (.cells #[.bool s6, .slice A6 n6 c6] 38)).alloc (.cells #[.bool s7, .slice A7 n7 c7] 38)) (w7.heap.size + 1) 0 K := ⟨_, _, _, _, K3.blk (List.Mem.tail _ (List.Mem.head _)), (r6.below tt).short (by have := hKp.out; omega)⟩
  have N3 : ZBox (((w7.alloc (.cells #[.bool s5, .slice A5 n5 c5] 38)).alloc (.cells #[.bool s6, .slice A6 n6 c6] 38)).alloc (.cells #[.bool s7, .slice A7 n7 c7] 38)) (w7.heap.size + 1 + 1) 1 K := ⟨_, _, _, _, K3.blk (List.Mem.head _), (r7.below tt).short (by have := hKp.out; omega)⟩
  have hgN := hide (show w3.heap.size + 2 < w7.heap.size by have h1 := b5.size; have h2 := b6.size; have h3 := b7.size; omega)
  have R0 := hide (show RbRel N M K w3.heap.size w7.heap.size w _ M _ from ⟨N, 1, 0, 0, 1, bez_start N M, rfl, L1.next tt, L2.next tt, L3.next tt, N1, N2, N3, K4.call tt⟩)
  clear r5 r6 r7 b5 b6 b7 hs4 L1 L2 L3 N1 N2 N3 K4 K3 tt
  generalize w3.heap.size = gL at *
  go_wp2_with fail
  generalize w7.heap.size = gN at *
  go_loopg [15] M (fun k v wr => Hid (RbRel N M K gL gN w [(w.heap.size, .bool s, .slice A n c), (w.heap.size + 1, .bool t, .slice B m d), (w.heap.size + 1 + 1, .bool false, .slice none 0 0), (w.heap.size + 1 + 1 + 1, .bool false, .slice none 0 0), (w.heap.size + 1 + 1 + 1 + 1, .bool false, .slice none 0 0)] k wr))
  case atStart => exact R0
  case round =>
    clear R0
    obtain ⟨r0, x0, y0, x1, y1, hinv, hbez, ⟨s1, A1, n1, c1, p1, l1⟩, ⟨s2, A2, n2, c2, p2, l2⟩, ⟨s3, A3, n3, c3, p3, l3⟩, ⟨s4, A4, n4, c4, p4, l4⟩, ⟨s5, A5, n5, c5, p5, l5⟩, ⟨s6, A6, n6, c6, p6, l6⟩, KT⟩ := hrel
    have HINV := hide hinv
    have HBEZ := hide hbez
    clear hinv hbez
    have hfar : ∀ p ∈ [(w.heap.size, Value.bool s, Value.slice A n c), (w.heap.size + 1, Value.bool t, Value.slice B m d), (w.heap.size + 1 + 1, Value.bool false, Value.slice none 0 0), (w.heap.size + 1 + 1 + 1, Value.bool false, Value.slice none 0 0), (w.heap.size + 1 + 1 + 1 + 1, Value.bool false, Value.slice none 0 0)], p.1 < gL := by
      have := hgL.out
      intro p hp
      simp only [List.mem_cons, List.not_mem_nil, or_false] at hp
      rcases hp with rfl | rfl | rfl | rfl | rfl <;> (show _ < _) <;> simp only [] <;> omega
    have HFAR := hide hfar
    clear hfar
    by_cases hk0 : gk = 0
    · subst hk0
      have hends := hide (bez_ends N M N M 1 0 0 1 (bez_start N M))
      have hbe := HBEZ.out
      rw [bez_end] at hbe
      rw [← hbe] at hends hXd hYd
      have HEND := hide hends.out.1
      clear hbe HBEZ HINV hends
      have HS0 := hide (show Calls Try.prog 70 #[.agg #[.bool s4, .slice A4 n4 c4]] wr (fun e w' => e = .returned (.int .i64 0) ∧ Below wr.heap.size wr w') from rsign_z _ _ K wr l4.in_ (by omega))
      have N0 := p4.c0
      have N1 := p4.c1
      have hGE : ((r0 : Nat) : Int) = gcdZ Z Y := by rw [hGd.out]; exact congrArg _ HEND.out
      clear l4 l5 l6 p4 p5 p6 HEND hGd
      by_cases hz : Z < 0
      all_goals by_cases hy : Y < 0
      · have hE : ((r0 : Nat) : Int) = gcdZ Z Y ∧ -x0 = bzX Z Y ∧ -y0 = bzY Z Y := ⟨hGE, by rw [hXd.out, if_pos hz], by rw [hYd.out, if_pos hy]⟩
        have hzs : Z.sign < 0 := by rw [Int.sign_eq_neg_one_of_neg hz]; omega
        have hys : Y.sign < 0 := by rw [Int.sign_eq_neg_one_of_neg hy]; omega
        generalize Z.sign = zs at *
        generalize Y.sign = ysn at *
        clear hz hy hXd hYd hGE
        go_wp2_with fail
        refine HS0.out.mono ?_
        rintro e w1 ⟨rfl, b1⟩
        replace KT := KT.call b1; replace p1 := p1.next b1; replace p2 := p2.next b1; replace p3 := p3.next b1; replace l1 := l1.below b1; replace l2 := l2.below b1; replace l3 := l3.below b1
        clear N0 N1
        have c0 := (KT.blk (List.Mem.head _)).c0; have c1 := (KT.blk (List.Mem.head _)).c1
        go_wp2_with fail
        refine (HSX.out w1 KT.old).mono ?_
        rintro e w2 ⟨rfl, b2⟩
        clear c0 c1
        replace KT := KT.call b2; replace p1 := p1.next b2; replace p2 := p2.next b2; replace p3 := p3.next b2; replace l1 := l1.below b2; replace l2 := l2.below b2; replace l3 := l3.below b2
        have d0 := p2.c0; have d1 := p2.c1
        go_wp2_with fail
        refine (rneg_z _ x0 K w2 l2.in_ (by omega)).mono ?_
        rintro e w3 ⟨v3, rfl, r3, b3⟩
        obtain ⟨s3, A3, n3, c3, rfl⟩ := r3.form
        clear d0 d1
        replace KT := KT.call b3; replace p1 := p1.next b3; replace p2 := p2.next b3; replace p3 := p3.next b3; replace l1 := l1.below b3; replace l2 := l2.below b3; replace l3 := l3.below b3
        have HH := hide (And.intro KT (And.intro p1 (And.intro p2 (And.intro p3 (And.intro l1 (And.intro l2 (And.intro l3 r3)))))))
        clear KT p1 p2 p3 l1 l2 l3 r3
        go_wp2_with (with_reducible refine wpList_store_z rfl _ _ rfl (gL + 1) _ _ _ _ rfl rfl _ _ HH.out.2.2.1 ?_; intro w4 kk ho; have c0 := ((HH.out.1.far ho (by have := hgL.out; omega) (fun p hp => by have := HFAR.out p hp; omega)).blk (List.Mem.tail _ (List.Mem.head _))).c0; have c1 := ((HH.out.1.far ho (by have := hgL.out; omega) (fun p hp => by have := HFAR.out p hp; omega)).blk (List.Mem.tail _ (List.Mem.head _))).c1; have HO := hide ho; have HKK := hide kk; clear ho kk)
        have ho := HO.out; have kk := HKK.out; clear HO HKK
        obtain ⟨KT, p1, p2, p3, l1, l2, l3, rr⟩ := HH.out
        replace l1 := l1.only p2 ho; replace l2 := l2.only p2 ho; replace l3 := l3.only p2 ho; replace rr := rr.only p2 ho
        replace KT := KT.far ho (by have := hgL.out; omega) (fun p hp => by have := HFAR.out p hp; omega)
        replace p1 := p1.other ho (by omega)
        replace p3 := p3.other ho (by omega)
        replace p2 := kk
        replace l2 := rr
        clear rr HH
        clear ho kk
        refine (HSY.out w4 KT.old).mono ?_
        rintro e w5 ⟨rfl, b5⟩
        clear c0 c1
        replace KT := KT.call b5; replace p1 := p1.next b5; replace p2 := p2.next b5; replace p3 := p3.next b5; replace l1 := l1.below b5; replace l2 := l2.below b5; replace l3 := l3.below b5
        have d0 := p3.c0; have d1 := p3.c1
        go_wp2_with fail
        refine (rneg_z _ y0 K w5 l3.in_ (by omega)).mono ?_
        rintro e w6 ⟨v6, rfl, r6, b6⟩
        obtain ⟨s6, A6, n6, c6, rfl⟩ := r6.form
        clear d0 d1
        replace KT := KT.call b6; replace p1 := p1.next b6; replace p2 := p2.next b6; replace p3 := p3.next b6; replace l1 := l1.below b6; replace l2 := l2.below b6; replace l3 := l3.below b6
        have HH := hide (And.intro KT (And.intro p1 (And.intro p2 (And.intro p3 (And.intro l1 (And.intro l2 (And.intro l3 r6)))))))
        clear KT p1 p2 p3 l1 l2 l3 r6
        go_wp2_with (with_reducible refine wpList_store_z rfl _ _ rfl (gL + 1 + 1) _ _ _ _ rfl rfl _ _ HH.out.2.2.2.1 ?_; intro w7 kk ho; have HO := hide ho; have HKK := hide kk; clear ho kk)
        have ho := HO.out; have kk := HKK.out; clear HO HKK
        obtain ⟨KT, p1, p2, p3, l1, l2, l3, rr⟩ := HH.out
        replace l1 := l1.only p3 ho; replace l2 := l2.only p3 ho; replace l3 := l3.only p3 ho; replace rr := rr.only p3 ho
        replace KT := KT.far ho (by have := hgL.out; omega) (fun p hp => by have := HFAR.out p hp; omega)
        replace p1 := p1.other ho (by omega)
        replace p2 := p2.other ho (by omega)
        replace p3 := kk
        replace l3 := rr
        clear rr HH
        clear ho kk
        have q := KT.blk (List.Mem.tail _ (List.Mem.tail _ (List.Mem.head _)))
        have r := KT.blk (List.Mem.tail _ (List.Mem.tail _ (List.Mem.tail _ (List.Mem.head _))))
        have p := KT.blk (List.Mem.tail _ (List.Mem.tail _ (List.Mem.tail _ (List.Mem.tail _ (List.Mem.head _)))))
        have L0 := p1.c0; have L1 := p1.c1; have L2 := p2.c0; have L3 := p2.c1; have L4 := p3.c0; have L5 := p3.c1
        have q0 := q.c0; have q1 := q.c1; have q2 := q.fr 0; have q3 := q.fr 1
        have r0a := r.c0; have r1a := r.c1; have r2a := r.fr 0; have r3a := r.fr 1
        have p0a := p.c0; have p1a := p.c1; have p2a := p.fr 0; have p3a := p.fr 1
        have : ¬ gL = w.heap.size + 1 + 1 := by have := hgL.out; omega
        have : ¬ w.heap.size + 1 + 1 = gL := by have := hgL.out; omega
        have : ¬ gL = w.heap.size + 1 + 1 + 1 := by have := hgL.out; omega
        have : ¬ w.heap.size + 1 + 1 + 1 = gL := by have := hgL.out; omega
        have : ¬ gL = w.heap.size + 1 + 1 + 1 + 1 := by have := hgL.out; omega
        have : ¬ w.heap.size + 1 + 1 + 1 + 1 = gL := by have := hgL.out; omega
        have : ¬ gL + 1 = w.heap.size + 1 + 1 := by have := hgL.out; omega
        have : ¬ w.heap.size + 1 + 1 = gL + 1 := by have := hgL.out; omega
        have : ¬ gL + 1 = w.heap.size + 1 + 1 + 1 := by have := hgL.out; omega
        have : ¬ w.heap.size + 1 + 1 + 1 = gL + 1 := by have := hgL.out; omega
        have : ¬ gL + 1 = w.heap.size + 1 + 1 + 1 + 1 := by have := hgL.out; omega
        have : ¬ w.heap.size + 1 + 1 + 1 + 1 = gL + 1 := by have := hgL.out; omega
        have : ¬ gL + 1 + 1 = w.heap.size + 1 + 1 := by have := hgL.out; omega
        have : ¬ w.heap.size + 1 + 1 = gL + 1 + 1 := by have := hgL.out; omega
        have : ¬ gL + 1 + 1 = w.heap.size + 1 + 1 + 1 := by have := hgL.out; omega
        have : ¬ w.heap.size + 1 + 1 + 1 = gL + 1 + 1 := by have := hgL.out; omega
        have : ¬ gL + 1 + 1 = w.heap.size + 1 + 1 + 1 + 1 := by have := hgL.out; omega
        have : ¬ w.heap.size + 1 + 1 + 1 + 1 = gL + 1 + 1 := by have := hgL.out; omega
        have HZ := hide (And.intro KT (And.intro q (And.intro r (And.intro p (And.intro l1 (And.intro l2 l3))))))
        have HE := hide hE
        clear KT q r p l1 l2 l3 p1 p2 p3 hE
        go_region
        all_goals
          clear L0 L1 L2 L3 L4 L5 q0 q1 q2 q3 r0a r1a r2a r3a p0a p1a p2a p3a
          go_wp2_with fail
          simp only [st2_def]
          obtain ⟨KT, q, r, p, l1, l2, l3⟩ := HZ.out
          have h7 := three_out KT q r p l1 l2 l3
          exact bodyPost_zzz rfl rfl rfl rfl h7.1 h7.2.1 h7.2.2.1 rfl ⟨_, _, _, rfl, h7.2.2.2.1.ofEq HE.out.1, h7.2.2.2.2.1.ofEq HE.out.2.1, h7.2.2.2.2.2.1.ofEq HE.out.2.2, h7.2.2.2.2.2.2⟩
      · have hE : ((r0 : Nat) : Int) = gcdZ Z Y ∧ -x0 = bzX Z Y ∧ y0 = bzY Z Y := ⟨hGE, by rw [hXd.out, if_pos hz], by rw [hYd.out, if_neg hy]⟩
        have hzs : Z.sign < 0 := by rw [Int.sign_eq_neg_one_of_neg hz]; omega
        have hys : ¬ Y.sign < 0 := fun h => hy (Int.sign_neg_iff.1 h)
        generalize Z.sign = zs at *
        generalize Y.sign = ysn at *
        clear hz hy hXd hYd hGE
        go_wp2_with fail
        refine HS0.out.mono ?_
        rintro e w1 ⟨rfl, b1⟩
        replace KT := KT.call b1; replace p1 := p1.next b1; replace p2 := p2.next b1; replace p3 := p3.next b1; replace l1 := l1.below b1; replace l2 := l2.below b1; replace l3 := l3.below b1
        clear N0 N1
        have c0 := (KT.blk (List.Mem.head _)).c0; have c1 := (KT.blk (List.Mem.head _)).c1
        go_wp2_with fail
        refine (HSX.out w1 KT.old).mono ?_
        rintro e w2 ⟨rfl, b2⟩
        clear c0 c1
        replace KT := KT.call b2; replace p1 := p1.next b2; replace p2 := p2.next b2; replace p3 := p3.next b2; replace l1 := l1.below b2; replace l2 := l2.below b2; replace l3 := l3.below b2
        have d0 := p2.c0; have d1 := p2.c1
        go_wp2_with fail
        refine (rneg_z _ x0 K w2 l2.in_ (by omega)).mono ?_
        rintro e w3 ⟨v3, rfl, r3, b3⟩
        obtain ⟨s3, A3, n3, c3, rfl⟩ := r3.form
        clear d0 d1
        replace KT := KT.call b3; replace p1 := p1.next b3; replace p2 := p2.next b3; replace p3 := p3.next b3; replace l1 := l1.below b3; replace l2 := l2.below b3; replace l3 := l3.below b3
        have HH := hide (And.intro KT (And.intro p1 (And.intro p2 (And.intro p3 (And.intro l1 (And.intro l2 (And.intro l3 r3)))))))
        clear KT p1 p2 p3 l1 l2 l3 r3
        go_wp2_with (with_reducible refine wpList_store_z rfl _ _ rfl (gL + 1) _ _ _ _ rfl rfl _ _ HH.out.2.2.1 ?_; intro w4 kk ho; have c0 := ((HH.out.1.far ho (by have := hgL.out; omega) (fun p hp => by have := HFAR.out p hp; omega)).blk (List.Mem.tail _ (List.Mem.head _))).c0; have c1 := ((HH.out.1.far ho (by have := hgL.out; omega) (fun p hp => by have := HFAR.out p hp; omega)).blk (List.Mem.tail _ (List.Mem.head _))).c1; have HO := hide ho; have HKK := hide kk; clear ho kk)
        have ho := HO.out; have kk := HKK.out; clear HO HKK
        obtain ⟨KT, p1, p2, p3, l1, l2, l3, rr⟩ := HH.out
        replace l1 := l1.only p2 ho; replace l2 := l2.only p2 ho; replace l3 := l3.only p2 ho; replace rr := rr.only p2 ho
        replace KT := KT.far ho (by have := hgL.out; omega) (fun p hp => by have := HFAR.out p hp; omega)
        replace p1 := p1.other ho (by omega)
        replace p3 := p3.other ho (by omega)
        replace p2 := kk
        replace l2 := rr
        clear rr HH
        clear ho kk
        refine (HSY.out w4 KT.old).mono ?_
        rintro e w5 ⟨rfl, b5⟩
        clear c0 c1
        replace KT := KT.call b5; replace p1 := p1.next b5; replace p2 := p2.next b5; replace p3 := p3.next b5; replace l1 := l1.below b5; replace l2 := l2.below b5; replace l3 := l3.below b5
        go_wp2_with fail
        have q := KT.blk (List.Mem.tail _ (List.Mem.tail _ (List.Mem.head _)))
        have r := KT.blk (List.Mem.tail _ (List.Mem.tail _ (List.Mem.tail _ (List.Mem.head _))))
        have p := KT.blk (List.Mem.tail _ (List.Mem.tail _ (List.Mem.tail _ (List.Mem.tail _ (List.Mem.head _)))))
        have L0 := p1.c0; have L1 := p1.c1; have L2 := p2.c0; have L3 := p2.c1; have L4 := p3.c0; have L5 := p3.c1
        have q0 := q.c0; have q1 := q.c1; have q2 := q.fr 0; have q3 := q.fr 1
        have r0a := r.c0; have r1a := r.c1; have r2a := r.fr 0; have r3a := r.fr 1
        have p0a := p.c0; have p1a := p.c1; have p2a := p.fr 0; have p3a := p.fr 1
        have : ¬ gL = w.heap.size + 1 + 1 := by have := hgL.out; omega
        have : ¬ w.heap.size + 1 + 1 = gL := by have := hgL.out; omega
        have : ¬ gL = w.heap.size + 1 + 1 + 1 := by have := hgL.out; omega
        have : ¬ w.heap.size + 1 + 1 + 1 = gL := by have := hgL.out; omega
        have : ¬ gL = w.heap.size + 1 + 1 + 1 + 1 := by have := hgL.out; omega
        have : ¬ w.heap.size + 1 + 1 + 1 + 1 = gL := by have := hgL.out; omega
        have : ¬ gL + 1 = w.heap.size + 1 + 1 := by have := hgL.out; omega
        have : ¬ w.heap.size + 1 + 1 = gL + 1 := by have := hgL.out; omega
        have : ¬ gL + 1 = w.heap.size + 1 + 1 + 1 := by have := hgL.out; omega
        have : ¬ w.heap.size + 1 + 1 + 1 = gL + 1 := by have := hgL.out; omega
        have : ¬ gL + 1 = w.heap.size + 1 + 1 + 1 + 1 := by have := hgL.out; omega
        have : ¬ w.heap.size + 1 + 1 + 1 + 1 = gL + 1 := by have := hgL.out; omega
        have : ¬ gL + 1 + 1 = w.heap.size + 1 + 1 := by have := hgL.out; omega
        have : ¬ w.heap.size + 1 + 1 = gL + 1 + 1 := by have := hgL.out; omega
        have : ¬ gL + 1 + 1 = w.heap.size + 1 + 1 + 1 := by have := hgL.out; omega
        have : ¬ w.heap.size + 1 + 1 + 1 = gL + 1 + 1 := by have := hgL.out; omega
        have : ¬ gL + 1 + 1 = w.heap.size + 1 + 1 + 1 + 1 := by have := hgL.out; omega
        have : ¬ w.heap.size + 1 + 1 + 1 + 1 = gL + 1 + 1 := by have := hgL.out; omega
        have HZ := hide (And.intro KT (And.intro q (And.intro r (And.intro p (And.intro l1 (And.intro l2 l3))))))
        have HE := hide hE
        clear KT q r p l1 l2 l3 p1 p2 p3 hE
        go_region
        all_goals
          clear L0 L1 L2 L3 L4 L5 q0 q1 q2 q3 r0a r1a r2a r3a p0a p1a p2a p3a
          go_wp2_with fail
          simp only [st2_def]
          obtain ⟨KT, q, r, p, l1, l2, l3⟩ := HZ.out
          have h7 := three_out KT q r p l1 l2 l3
          exact bodyPost_zzz rfl rfl rfl rfl h7.1 h7.2.1 h7.2.2.1 rfl ⟨_, _, _, rfl, h7.2.2.2.1.ofEq HE.out.1, h7.2.2.2.2.1.ofEq HE.out.2.1, h7.2.2.2.2.2.1.ofEq HE.out.2.2, h7.2.2.2.2.2.2⟩
      · have hE : ((r0 : Nat) : Int) = gcdZ Z Y ∧ x0 = bzX Z Y ∧ -y0 = bzY Z Y := ⟨hGE, by rw [hXd.out, if_neg hz], by rw [hYd.out, if_pos hy]⟩
        have hzs : ¬ Z.sign < 0 := fun h => hz (Int.sign_neg_iff.1 h)
        have hys : Y.sign < 0 := by rw [Int.sign_eq_neg_one_of_neg hy]; omega
        generalize Z.sign = zs at *
        generalize Y.sign = ysn at *
        clear hz hy hXd hYd hGE
        go_wp2_with fail
        refine HS0.out.mono ?_
        rintro e w1 ⟨rfl, b1⟩
        replace KT := KT.call b1; replace p1 := p1.next b1; replace p2 := p2.next b1; replace p3 := p3.next b1; replace l1 := l1.below b1; replace l2 := l2.below b1; replace l3 := l3.below b1
        clear N0 N1
        have c0 := (KT.blk (List.Mem.head _)).c0; have c1 := (KT.blk (List.Mem.head _)).c1
        go_wp2_with fail
        refine (HSX.out w1 KT.old).mono ?_
        rintro e w2 ⟨rfl, b2⟩
        clear c0 c1
        replace KT := KT.call b2; replace p1 := p1.next b2; replace p2 := p2.next b2; replace p3 := p3.next b2; replace l1 := l1.below b2; replace l2 := l2.below b2; replace l3 := l3.below b2
        have c0 := (KT.blk (List.Mem.tail _ (List.Mem.head _))).c0; have c1 := (KT.blk (List.Mem.tail _ (List.Mem.head _))).c1
        go_wp2_with fail
        refine (HSY.out w2 KT.old).mono ?_
        rintro e w5 ⟨rfl, b5⟩
        clear c0 c1
        replace KT := KT.call b5; replace p1 := p1.next b5; replace p2 := p2.next b5; replace p3 := p3.next b5; replace l1 := l1.below b5; replace l2 := l2.below b5; replace l3 := l3.below b5
        have d0 := p3.c0; have d1 := p3.c1
        go_wp2_with fail
        refine (rneg_z _ y0 K w5 l3.in_ (by omega)).mono ?_
        rintro e w6 ⟨v6, rfl, r6, b6⟩
        obtain ⟨s6, A6, n6, c6, rfl⟩ := r6.form
        clear d0 d1
        replace KT := KT.call b6; replace p1 := p1.next b6; replace p2 := p2.next b6; replace p3 := p3.next b6; replace l1 := l1.below b6; replace l2 := l2.below b6; replace l3 := l3.below b6
        have HH := hide (And.intro KT (And.intro p1 (And.intro p2 (And.intro p3 (And.intro l1 (And.intro l2 (And.intro l3 r6)))))))
        clear KT p1 p2 p3 l1 l2 l3 r6
        go_wp2_with (with_reducible refine wpList_store_z rfl _ _ rfl (gL + 1 + 1) _ _ _ _ rfl rfl _ _ HH.out.2.2.2.1 ?_; intro w7 kk ho; have HO := hide ho; have HKK := hide kk; clear ho kk)
        have ho := HO.out; have kk := HKK.out; clear HO HKK
        obtain ⟨KT, p1, p2, p3, l1, l2, l3, rr⟩ := HH.out
        replace l1 := l1.only p3 ho; replace l2 := l2.only p3 ho; replace l3 := l3.only p3 ho; replace rr := rr.only p3 ho
        replace KT := KT.far ho (by have := hgL.out; omega) (fun p hp => by have := HFAR.out p hp; omega)
        replace p1 := p1.other ho (by omega)
        replace p2 := p2.other ho (by omega)
        replace p3 := kk
        replace l3 := rr
        clear rr HH
        clear ho kk
        have q := KT.blk (List.Mem.tail _ (List.Mem.tail _ (List.Mem.head _)))
        have r := KT.blk (List.Mem.tail _ (List.Mem.tail _ (List.Mem.tail _ (List.Mem.head _))))
        have p := KT.blk (List.Mem.tail _ (List.Mem.tail _ (List.Mem.tail _ (List.Mem.tail _ (List.Mem.head _)))))
        have L0 := p1.c0; have L1 := p1.c1; have L2 := p2.c0; have L3 := p2.c1; have L4 := p3.c0; have L5 := p3.c1
        have q0 := q.c0; have q1 := q.c1; have q2 := q.fr 0; have q3 := q.fr 1
        have r0a := r.c0; have r1a := r.c1; have r2a := r.fr 0; have r3a := r.fr 1
        have p0a := p.c0; have p1a := p.c1; have p2a := p.fr 0; have p3a := p.fr 1
        have : ¬ gL = w.heap.size + 1 + 1 := by have := hgL.out; omega
        have : ¬ w.heap.size + 1 + 1 = gL := by have := hgL.out; omega
        have : ¬ gL = w.heap.size + 1 + 1 + 1 := by have := hgL.out; omega
        have : ¬ w.heap.size + 1 + 1 + 1 = gL := by have := hgL.out; omega
        have : ¬ gL = w.heap.size + 1 + 1 + 1 + 1 := by have := hgL.out; omega
        have : ¬ w.heap.size + 1 + 1 + 1 + 1 = gL := by have := hgL.out; omega
        have : ¬ gL + 1 = w.heap.size + 1 + 1 := by have := hgL.out; omega
        have : ¬ w.heap.size + 1 + 1 = gL + 1 := by have := hgL.out; omega
        have : ¬ gL + 1 = w.heap.size + 1 + 1 + 1 := by have := hgL.out; omega
        have : ¬ w.heap.size + 1 + 1 + 1 = gL + 1 := by have := hgL.out; omega
        have : ¬ gL + 1 = w.heap.size + 1 + 1 + 1 + 1 := by have := hgL.out; omega
        have : ¬ w.heap.size + 1 + 1 + 1 + 1 = gL + 1 := by have := hgL.out; omega
        have : ¬ gL + 1 + 1 = w.heap.size + 1 + 1 := by have := hgL.out; omega
        have : ¬ w.heap.size + 1 + 1 = gL + 1 + 1 := by have := hgL.out; omega
        have : ¬ gL + 1 + 1 = w.heap.size + 1 + 1 + 1 := by have := hgL.out; omega
        have : ¬ w.heap.size + 1 + 1 + 1 = gL + 1 + 1 := by have := hgL.out; omega
        have : ¬ gL + 1 + 1 = w.heap.size + 1 + 1 + 1 + 1 := by have := hgL.out; omega
        have : ¬ w.heap.size + 1 + 1 + 1 + 1 = gL + 1 + 1 := by have := hgL.out; omega
        have HZ := hide (And.intro KT (And.intro q (And.intro r (And.intro p (And.intro l1 (And.intro l2 l3))))))
        have HE := hide hE
        clear KT q r p l1 l2 l3 p1 p2 p3 hE
        go_region
        all_goals
          clear L0 L1 L2 L3 L4 L5 q0 q1 q2 q3 r0a r1a r2a r3a p0a p1a p2a p3a
          go_wp2_with fail
          simp only [st2_def]
          obtain ⟨KT, q, r, p, l1, l2, l3⟩ := HZ.out
          have h7 := three_out KT q r p l1 l2 l3
          exact bodyPost_zzz rfl rfl rfl rfl h7.1 h7.2.1 h7.2.2.1 rfl ⟨_, _, _, rfl, h7.2.2.2.1.ofEq HE.out.1, h7.2.2.2.2.1.ofEq HE.out.2.1, h7.2.2.2.2.2.1.ofEq HE.out.2.2, h7.2.2.2.2.2.2⟩
      · have hE : ((r0 : Nat) : Int) = gcdZ Z Y ∧ x0 = bzX Z Y ∧ y0 = bzY Z Y := ⟨hGE, by rw [hXd.out, if_neg hz], by rw [hYd.out, if_neg hy]⟩
        have hzs : ¬ Z.sign < 0 := fun h => hz (Int.sign_neg_iff.1 h)
        have hys : ¬ Y.sign < 0 := fun h => hy (Int.sign_neg_iff.1 h)
        generalize Z.sign = zs at *
        generalize Y.sign = ysn at *
        clear hz hy hXd hYd hGE
        go_wp2_with fail
        refine HS0.out.mono ?_
        rintro e w1 ⟨rfl, b1⟩
        replace KT := KT.call b1; replace p1 := p1.next b1; replace p2 := p2.next b1; replace p3 := p3.next b1; replace l1 := l1.below b1; replace l2 := l2.below b1; replace l3 := l3.below b1
        clear N0 N1
        have c0 := (KT.blk (List.Mem.head _)).c0; have c1 := (KT.blk (List.Mem.head _)).c1
        go_wp2_with fail
        refine (HSX.out w1 KT.old).mono ?_
        rintro e w2 ⟨rfl, b2⟩
        clear c0 c1
        replace KT := KT.call b2; replace p1 := p1.next b2; replace p2 := p2.next b2; replace p3 := p3.next b2; replace l1 := l1.below b2; replace l2 := l2.below b2; replace l3 := l3.below b2
        have c0 := (KT.blk (List.Mem.tail _ (List.Mem.head _))).c0; have c1 := (KT.blk (List.Mem.tail _ (List.Mem.head _))).c1
        go_wp2_with fail
        refine (HSY.out w2 KT.old).mono ?_
        rintro e w5 ⟨rfl, b5⟩
        clear c0 c1
        replace KT := KT.call b5; replace p1 := p1.next b5; replace p2 := p2.next b5; replace p3 := p3.next b5; replace l1 := l1.below b5; replace l2 := l2.below b5; replace l3 := l3.below b5
        go_wp2_with fail
        have q := KT.blk (List.Mem.tail _ (List.Mem.tail _ (List.Mem.head _)))
        have r := KT.blk (List.Mem.tail _ (List.Mem.tail _ (List.Mem.tail _ (List.Mem.head _))))
        have p := KT.blk (List.Mem.tail _ (List.Mem.tail _ (List.Mem.tail _ (List.Mem.tail _ (List.Mem.head _)))))
        have L0 := p1.c0; have L1 := p1.c1; have L2 := p2.c0; have L3 := p2.c1; have L4 := p3.c0; have L5 := p3.c1
        have q0 := q.c0; have q1 := q.c1; have q2 := q.fr 0; have q3 := q.fr 1
        have r0a := r.c0; have r1a := r.c1; have r2a := r.fr 0; have r3a := r.fr 1
        have p0a := p.c0; have p1a := p.c1; have p2a := p.fr 0; have p3a := p.fr 1
        have : ¬ gL = w.heap.size + 1 + 1 := by have := hgL.out; omega
        have : ¬ w.heap.size + 1 + 1 = gL := by have := hgL.out; omega
        have : ¬ gL = w.heap.size + 1 + 1 + 1 := by have := hgL.out; omega
        have : ¬ w.heap.size + 1 + 1 + 1 = gL := by have := hgL.out; omega
        have : ¬ gL = w.heap.size + 1 + 1 + 1 + 1 := by have := hgL.out; omega
        have : ¬ w.heap.size + 1 + 1 + 1 + 1 = gL := by have := hgL.out; omega
        have : ¬ gL + 1 = w.heap.size + 1 + 1 := by have := hgL.out; omega
        have : ¬ w.heap.size + 1 + 1 = gL + 1 := by have := hgL.out; omega
        have : ¬ gL + 1 = w.heap.size + 1 + 1 + 1 := by have := hgL.out; omega
        have : ¬ w.heap.size + 1 + 1 + 1 = gL + 1 := by have := hgL.out; omega
        have : ¬ gL + 1 = w.heap.size + 1 + 1 + 1 + 1 := by have := hgL.out; omega
        have : ¬ w.heap.size + 1 + 1 + 1 + 1 = gL + 1 := by have := hgL.out; omega
        have : ¬ gL + 1 + 1 = w.heap.size + 1 + 1 := by have := hgL.out; omega
        have : ¬ w.heap.size + 1 + 1 = gL + 1 + 1 := by have := hgL.out; omega
        have : ¬ gL + 1 + 1 = w.heap.size + 1 + 1 + 1 := by have := hgL.out; omega
        have : ¬ w.heap.size + 1 + 1 + 1 = gL + 1 + 1 := by have := hgL.out; omega
        have : ¬ gL + 1 + 1 = w.heap.size + 1 + 1 + 1 + 1 := by have := hgL.out; omega
        have : ¬ w.heap.size + 1 + 1 + 1 + 1 = gL + 1 + 1 := by have := hgL.out; omega
        have HZ := hide (And.intro KT (And.intro q (And.intro r (And.intro p (And.intro l1 (And.intro l2 l3))))))
        have HE := hide hE
        clear KT q r p l1 l2 l3 p1 p2 p3 hE
        go_region
        all_goals
          clear L0 L1 L2 L3 L4 L5 q0 q1 q2 q3 r0a r1a r2a r3a p0a p1a p2a p3a
          go_wp2_with fail
          simp only [st2_def]
          obtain ⟨KT, q, r, p, l1, l2, l3⟩ := HZ.out
          have h7 := three_out KT q r p l1 l2 l3
          exact bodyPost_zzz rfl rfl rfl rfl h7.1 h7.2.1 h7.2.2.1 rfl ⟨_, _, _, rfl, h7.2.2.2.1.ofEq HE.out.1, h7.2.2.2.2.1.ofEq HE.out.2.1, h7.2.2.2.2.2.1.ofEq HE.out.2.2, h7.2.2.2.2.2.2⟩
    · have hstep := hide (bez_next HINV.out hk0)
      have hbst := hide (bez_step r0 gk x0 y0 x1 y1 hk0)
      have hml := hide (Nat.mod_lt r0 (Nat.pos_of_ne_zero hk0))
      have hdv := nat_fdiv r0 gk hk0
      have hdm := hide (show (r0 : Int) - ((r0 / gk : Nat) : Int) * (gk : Int) = ((r0 % gk : Nat) : Int) by
        have := Nat.div_add_mod r0 gk
        have h2 : ((gk * (r0 / gk) + r0 % gk : Nat) : Int) = (r0 : Int) := by rw [this]
        rw [Int.natCast_add, Int.natCast_mul, Int.mul_comm] at h2
        omega)
      have hmk := hide (show (((r0 % gk : Nat) : Int)).natAbs < 4294967296 ^ K from Nat.lt_of_le_of_lt (show (((r0 % gk : Nat) : Int)).natAbs ≤ N + M + 1 by have := hstep.out.2.2.2.2.2.1; omega) hKp.out)
      have hne : ((gk : Int) ≠ 0) := by omega
      have hsg : (gk : Int).sign = 1 := Int.sign_eq_one_of_pos (by omega)
      have HSG := hide (show Calls Try.prog 70 #[.agg #[.bool s4, .slice A4 n4 c4]] wr (fun e w' => e = .returned (.int .i64 1) ∧ Below wr.heap.size wr w') by
        have := rsign_z _ _ K wr l4.in_ (by omega)
        unfold RSignPost at this
        rw [hsg] at this
        exact this)
      have HDV := hide (fun W (h : Below wr.heap.size wr W) => rzdiv_yes _ _ (r0 : Int) (gk : Int) K K W (l1.below h).in_ (l4.below h).in_ hne (by omega) (by omega))
      unfold DivZYes at HDV
      rw [hdv.1, hdv.2] at HDV
      clear hsg hdv hne hk0
      have i0 := p4.c0
      have i1 := p4.c1
      go_wp2_with fail
      refine HSG.out.mono ?_
      rintro e w1 ⟨rfl, b1⟩
      clear i0 i1 HSG
      have i0 := (p4.next b1).c0
      have i1 := (p4.next b1).c1
      have i2 := (p1.next b1).c0
      have i3 := (p1.next b1).c1
      go_wp2_with fail
      refine (HDV.out w1 b1).mono ?_
      rintro e w2 ⟨u2, v2, rfl, zq, zr, b2⟩
      obtain ⟨sq, Aq, nq, cq, rfl⟩ := zq.form
      obtain ⟨sr, Ar, nr, cr, rfl⟩ := zr.form
      clear i0 i1 i2 i3 HDV
      go_upto_region 5 with fail
      have tt := (bl_alloc w2 (.cells #[.bool sq, .slice Aq nq cq] 38)).next (bl_alloc _ (.cells #[.bool sr, .slice Ar nr cr] 38))
      have qB := (Blk.new w2 #[.bool sq, .slice Aq nq cq]).alloc (.cells #[.bool sr, .slice Ar nr cr] 38)
      have T6 := ((b1.next b2).next tt)
      replace KT := KT.call T6
      replace zq := zq.below tt
      replace p1 := p1.next T6
      replace l1 := l1.below T6
      replace p2 := p2.next T6
      replace l2 := l2.below T6
      replace p3 := p3.next T6
      replace l3 := l3.below T6
      replace p4 := p4.next T6
      replace l4 := l4.below T6
      replace p5 := p5.next T6
      replace l5 := l5.below T6
      replace p6 := p6.next T6
      replace l6 := l6.below T6
      clear tt T6 zr b1 b2
      generalize hW6 : (w2.alloc (.cells #[.bool sq, .slice Aq nq cq] 38)).alloc (.cells #[.bool sr, .slice Ar nr cr] 38) = W6 at *
      clear hW6
      have HM0 := hide (fun W (h : Below W6.heap.size W6 W) => rzmul_z _ _ _ _ K K W (zq.below h).in_ (l4.below h).in_ (by omega) (by omega))
      have HM1 := hide (fun W (h : Below W6.heap.size W6 W) => rzmul_z _ _ _ _ K K W (zq.below h).in_ (l5.below h).in_ (by omega) (by omega))
      have HM2 := hide (fun W (h : Below W6.heap.size W6 W) => rzmul_z _ _ _ _ K K W (zq.below h).in_ (l6.below h).in_ (by omega) (by omega))
      have HS0 := hide (fun W v6 (h : Below W6.heap.size W6 W) (h1 : ZRes W v6 (((r0 / gk : Nat) : Int) * (gk : Int)) (K + K)) => rzsub_z _ v6 _ _ (K + K) W ((l1.below h).in_.mono (by omega)) h1.in_ (by omega))
      have HS1 := hide (fun W v6 (h : Below W6.heap.size W6 W) (h1 : ZRes W v6 (((r0 / gk : Nat) : Int) * x1) (K + K)) => rzsub_z _ v6 _ _ (K + K) W ((l2.below h).in_.mono (by omega)) h1.in_ (by omega))
      have HS2 := hide (fun W v6 (h : Below W6.heap.size W6 W) (h1 : ZRes W v6 (((r0 / gk : Nat) : Int) * y1) (K + K)) => rzsub_z _ v6 _ _ (K + K) W ((l3.below h).in_.mono (by omega)) h1.in_ (by omega))
      have SOF := hide (show ∀ W, Below W6.heap.size W6 W → (Below W6.heap.size W6 W ∧ W.cell? ⟨w2.heap.size, 0, none⟩ = some (.bool sq) ∧ W.cell? ⟨w2.heap.size, 1, none⟩ = some (.slice Aq nq cq) ∧ W.cell? ⟨gL, 0, none⟩ = some (.bool s1) ∧ W.cell? ⟨gL, 1, none⟩ = some (.slice A1 n1 c1) ∧ W.cell? ⟨gL + 1, 0, none⟩ = some (.bool s2) ∧ W.cell? ⟨gL + 1, 1, none⟩ = some (.slice A2 n2 c2) ∧ W.cell? ⟨gL + 1 + 1, 0, none⟩ = some (.bool s3) ∧ W.cell? ⟨gL + 1 + 1, 1, none⟩ = some (.slice A3 n3 c3) ∧ W.cell? ⟨gN, 0, none⟩ = some (.bool s4) ∧ W.cell? ⟨gN, 1, none⟩ = some (.slice A4 n4 c4) ∧ W.cell? ⟨gN + 1, 0, none⟩ = some (.bool s5) ∧ W.cell? ⟨gN + 1, 1, none⟩ = some (.slice A5 n5 c5) ∧ W.cell? ⟨gN + 1 + 1, 0, none⟩ = some (.bool s6) ∧ W.cell? ⟨gN + 1 + 1, 1, none⟩ = some (.slice A6 n6 c6)) from fun W h => ⟨h, (qB.next h).c0, (qB.next h).c1, (p1.next h).c0, (p1.next h).c1, (p2.next h).c0, (p2.next h).c1, (p3.next h).c0, (p3.next h).c1, (p4.next h).c0, (p4.next h).c1, (p5.next h).c0, (p5.next h).c1, (p6.next h).c0, (p6.next h).c1⟩)
      have HX := hide (show (x0 - ((r0 / gk : Nat) : Int) * x1).natAbs < 4294967296 ^ K from Nat.lt_of_le_of_lt hstep.out.2.2.2.2.2.2.2.1 hKp.out)
      have HY := hide (show (y0 - ((r0 / gk : Nat) : Int) * y1).natAbs < 4294967296 ^ K from Nat.lt_of_le_of_lt hstep.out.2.2.2.2.2.2.2.2.2 hKp.out)
      have HP := hide (show Keeps w _ W6 ∧ Blk W6 gL #[.bool s1, .slice A1 n1 c1] ∧ Blk W6 (gL + 1) #[.bool s2, .slice A2 n2 c2] ∧ Blk W6 (gL + 1 + 1) #[.bool s3, .slice A3 n3 c3] ∧ Blk W6 gN #[.bool s4, .slice A4 n4 c4] ∧ Blk W6 (gN + 1) #[.bool s5, .slice A5 n5 c5] ∧ Blk W6 (gN + 1 + 1) #[.bool s6, .slice A6 n6 c6] ∧ ZRes W6 (.agg #[.bool s4, .slice A4 n4 c4]) _ _ ∧ ZRes W6 (.agg #[.bool s5, .slice A5 n5 c5]) _ _ ∧ ZRes W6 (.agg #[.bool s6, .slice A6 n6 c6]) _ _ from ⟨KT, p1, p2, p3, p4, p5, p6, l4, l5, l6⟩)
      clear KT p1 p2 p3 p4 p5 p6 l1 l2 l3 l4 l5 l6 qB zq
      refine wp_region_facts (by kernel_rfl) (by kernel_rfl) (by kernel_rfl) (fun w w' => ∀ v Z k, ZRes w v Z k → ZRes w' v Z k) (fun j v w => match j with | 0 => v = .agg #[.bool s1, .slice A1 n1 c1] | 1 => v = .agg #[.bool sq, .slice Aq nq cq] | 2 => v = .agg #[.bool s4, .slice A4 n4 c4] | 3 => ZRes w v (((r0 / gk : Nat) : Int) * (gk : Int)) (K + K) | 4 => ZRes w v ((r0 % gk : Nat) : Int) K | 5 => v = .agg #[.bool s2, .slice A2 n2 c2] | 6 => v = .agg #[.bool sq, .slice Aq nq cq] | 7 => v = .agg #[.bool s5, .slice A5 n5 c5] | 8 => ZRes w v (((r0 / gk : Nat) : Int) * x1) (K + K) | 9 => ZRes w v (x0 - ((r0 / gk : Nat) : Int) * x1) K | 10 => v = .agg #[.bool s3, .slice A3 n3 c3] | 11 => v = .agg #[.bool sq, .slice Aq nq cq] | 12 => v = .agg #[.bool s6, .slice A6 n6 c6] | 13 => ZRes w v (((r0 / gk : Nat) : Int) * y1) (K + K) | 14 => ZRes w v (y0 - ((r0 / gk : Nat) : Int) * y1) K | _ => True) (GZ W6 [⟨15, 18, ((r0 % gk : Nat) : Int), K⟩, ⟨16, 19, (x0 - ((r0 / gk : Nat) : Int) * x1), K⟩, ⟨17, 20, (y0 - ((r0 / gk : Nat) : Int) * y1), K⟩]) ?_ (fun σ => GZ.start) ?_ ?_
      · intro j v w w' hT h
        match j, h with
        | 0, h => exact h
        | 1, h => exact h
        | 2, h => exact h
        | 3, h => exact hT _ _ _ h
        | 4, h => exact hT _ _ _ h
        | 5, h => exact h
        | 6, h => exact h
        | 7, h => exact h
        | 8, h => exact hT _ _ _ h
        | 9, h => exact hT _ _ _ h
        | 10, h => exact h
        | 11, h => exact h
        | 12, h => exact h
        | 13, h => exact hT _ _ _ h
        | 14, h => exact hT _ _ _ h
        | 15, h => trivial
        | 16, h => trivial
        | 17, h => trivial
        | 18, h => trivial
        | 19, h => trivial
        | 20, h => trivial
        | j + 21, h => trivial
      · refine ⟨?_, ?_, ?_, ?_, ?_, ?_, ?_, ?_, ?_, ?_, ?_, ?_, ?_, ?_, ?_, ?_, ?_, ?_, ?_, ?_, ?_, trivial⟩
        · intro listed σ w a hin hout hl hc hp hG hF
          refine Guarded.none rfl ?_
          have e7 : a.tmps.getD 7 undef = .pointer (some ⟨gL, 0, none⟩) := hout 7 (by kernel_rfl)
          obtain ⟨-, H0, H1, H2, H3, H4, H5, H6, H7, H8, H9, H10, H11, H12, H13⟩ := SOF.out w hG.old
          refine Does.val (.agg #[.bool s1, .slice A1 n1 c1]) (w' := w) ?_ ⟨fun _ _ _ h => h, rfl, hG.same (by rfl)⟩
          go_simp
        · intro listed σ w a hin hout hl hc hp hG hF
          refine Guarded.none rfl ?_
          have e13 : a.tmps.getD 13 undef = .pointer (some ⟨w2.heap.size, 0, none⟩) := hout 13 (by kernel_rfl)
          obtain ⟨-, H0, H1, H2, H3, H4, H5, H6, H7, H8, H9, H10, H11, H12, H13⟩ := SOF.out w hG.old
          refine Does.val (.agg #[.bool sq, .slice Aq nq cq]) (w' := w) ?_ ⟨fun _ _ _ h => h, rfl, hG.same (by rfl)⟩
          go_simp
        · intro listed σ w a hin hout hl hc hp hG hF
          refine Guarded.none rfl ?_
          have e10 : a.tmps.getD 10 undef = .pointer (some ⟨gN, 0, none⟩) := hout 10 (by kernel_rfl)
          obtain ⟨-, H0, H1, H2, H3, H4, H5, H6, H7, H8, H9, H10, H11, H12, H13⟩ := SOF.out w hG.old
          refine Does.val (.agg #[.bool s4, .slice A4 n4 c4]) (w' := w) ?_ ⟨fun _ _ _ h => h, rfl, hG.same (by rfl)⟩
          go_simp
        · intro listed σ w a hin hout hl hc hp hG hF
          refine Guarded.none rfl ?_
          have e38 : a.tmps.getD 38 undef = .agg #[.bool sq, .slice Aq nq cq] := (hin 1 38 rfl (hp ⟨1, .data⟩ (by simp) rfl)).trans (hF 1 (hp ⟨1, .data⟩ (by simp) rfl))
          have e39 : a.tmps.getD 39 undef = .agg #[.bool s4, .slice A4 n4 c4] := (hin 2 39 rfl (hp ⟨2, .data⟩ (by simp) rfl)).trans (hF 2 (hp ⟨2, .data⟩ (by simp) rfl))
          refine Does.call ?_ (HM0.out w hG.old) ?_
          · go_simp
          · rintro e w' ⟨v, rfl, z, hb⟩
            exact ⟨v, rfl, fun _ _ _ h => h.below hb, z, hG.keep (by rfl) hb⟩
        · intro listed σ w a hin hout hl hc hp hG hF
          refine Guarded.none rfl ?_
          have e37 : a.tmps.getD 37 undef = .agg #[.bool s1, .slice A1 n1 c1] := (hin 0 37 rfl (hp ⟨0, .data⟩ (by simp) rfl)).trans (hF 0 (hp ⟨0, .data⟩ (by simp) rfl))
          have e40 := hin 3 40 rfl (hp ⟨3, .data⟩ (by simp) rfl)
          have z3 : ZRes w (σ 3) _ _ := hF 3 (hp ⟨3, .data⟩ (by simp) rfl)
          generalize σ 3 = vv3 at *
          refine Does.call ?_ (HS0.out w vv3 hG.old z3) ?_
          · go_simp
          · rintro e w' ⟨v, rfl, z, hb⟩
            exact ⟨v, rfl, fun _ _ _ h => h.below hb, (z.ofEq hdm.out).short hmk.out, hG.keep (by rfl) hb⟩
        · intro listed σ w a hin hout hl hc hp hG hF
          refine Guarded.none rfl ?_
          have e8 : a.tmps.getD 8 undef = .pointer (some ⟨gL + 1, 0, none⟩) := hout 8 (by kernel_rfl)
          obtain ⟨-, H0, H1, H2, H3, H4, H5, H6, H7, H8, H9, H10, H11, H12, H13⟩ := SOF.out w hG.old
          refine Does.val (.agg #[.bool s2, .slice A2 n2 c2]) (w' := w) ?_ ⟨fun _ _ _ h => h, rfl, hG.same (by rfl)⟩
          go_simp
        · intro listed σ w a hin hout hl hc hp hG hF
          refine Guarded.none rfl ?_
          have e13 : a.tmps.getD 13 undef = .pointer (some ⟨w2.heap.size, 0, none⟩) := hout 13 (by kernel_rfl)
          obtain ⟨-, H0, H1, H2, H3, H4, H5, H6, H7, H8, H9, H10, H11, H12, H13⟩ := SOF.out w hG.old
          refine Does.val (.agg #[.bool sq, .slice Aq nq cq]) (w' := w) ?_ ⟨fun _ _ _ h => h, rfl, hG.same (by rfl)⟩
          go_simp
        · intro listed σ w a hin hout hl hc hp hG hF
          refine Guarded.none rfl ?_
          have e11 : a.tmps.getD 11 undef = .pointer (some ⟨gN + 1, 0, none⟩) := hout 11 (by kernel_rfl)
          obtain ⟨-, H0, H1, H2, H3, H4, H5, H6, H7, H8, H9, H10, H11, H12, H13⟩ := SOF.out w hG.old
          refine Does.val (.agg #[.bool s5, .slice A5 n5 c5]) (w' := w) ?_ ⟨fun _ _ _ h => h, rfl, hG.same (by rfl)⟩
          go_simp
        · intro listed σ w a hin hout hl hc hp hG hF
          refine Guarded.none rfl ?_
          have e43 : a.tmps.getD 43 undef = .agg #[.bool sq, .slice Aq nq cq] := (hin 6 43 rfl (hp ⟨6, .data⟩ (by simp) rfl)).trans (hF 6 (hp ⟨6, .data⟩ (by simp) rfl))
          have e44 : a.tmps.getD 44 undef = .agg #[.bool s5, .slice A5 n5 c5] := (hin 7 44 rfl (hp ⟨7, .data⟩ (by simp) rfl)).trans (hF 7 (hp ⟨7, .data⟩ (by simp) rfl))
          refine Does.call ?_ (HM1.out w hG.old) ?_
          · go_simp
          · rintro e w' ⟨v, rfl, z, hb⟩
            exact ⟨v, rfl, fun _ _ _ h => h.below hb, z, hG.keep (by rfl) hb⟩
        · intro listed σ w a hin hout hl hc hp hG hF
          refine Guarded.none rfl ?_
          have e42 : a.tmps.getD 42 undef = .agg #[.bool s2, .slice A2 n2 c2] := (hin 5 42 rfl (hp ⟨5, .data⟩ (by simp) rfl)).trans (hF 5 (hp ⟨5, .data⟩ (by simp) rfl))
          have e45 := hin 8 45 rfl (hp ⟨8, .data⟩ (by simp) rfl)
          have z8 : ZRes w (σ 8) _ _ := hF 8 (hp ⟨8, .data⟩ (by simp) rfl)
          generalize σ 8 = vv8 at *
          refine Does.call ?_ (HS1.out w vv8 hG.old z8) ?_
          · go_simp
          · rintro e w' ⟨v, rfl, z, hb⟩
            exact ⟨v, rfl, fun _ _ _ h => h.below hb, z.short HX.out, hG.keep (by rfl) hb⟩
        · intro listed σ w a hin hout hl hc hp hG hF
          refine Guarded.none rfl ?_
          have e9 : a.tmps.getD 9 undef = .pointer (some ⟨gL + 1 + 1, 0, none⟩) := hout 9 (by kernel_rfl)
          obtain ⟨-, H0, H1, H2, H3, H4, H5, H6, H7, H8, H9, H10, H11, H12, H13⟩ := SOF.out w hG.old
          refine Does.val (.agg #[.bool s3, .slice A3 n3 c3]) (w' := w) ?_ ⟨fun _ _ _ h => h, rfl, hG.same (by rfl)⟩
          go_simp
        · intro listed σ w a hin hout hl hc hp hG hF
          refine Guarded.none rfl ?_
          have e13 : a.tmps.getD 13 undef = .pointer (some ⟨w2.heap.size, 0, none⟩) := hout 13 (by kernel_rfl)
          obtain ⟨-, H0, H1, H2, H3, H4, H5, H6, H7, H8, H9, H10, H11, H12, H13⟩ := SOF.out w hG.old
          refine Does.val (.agg #[.bool sq, .slice Aq nq cq]) (w' := w) ?_ ⟨fun _ _ _ h => h, rfl, hG.same (by rfl)⟩
          go_simp
        · intro listed σ w a hin hout hl hc hp hG hF
          refine Guarded.none rfl ?_
          have e12 : a.tmps.getD 12 undef = .pointer (some ⟨gN + 1 + 1, 0, none⟩) := hout 12 (by kernel_rfl)
          obtain ⟨-, H0, H1, H2, H3, H4, H5, H6, H7, H8, H9, H10, H11, H12, H13⟩ := SOF.out w hG.old
          refine Does.val (.agg #[.bool s6, .slice A6 n6 c6]) (w' := w) ?_ ⟨fun _ _ _ h => h, rfl, hG.same (by rfl)⟩
          go_simp
        · intro listed σ w a hin hout hl hc hp hG hF
          refine Guarded.none rfl ?_
          have e48 : a.tmps.getD 48 undef = .agg #[.bool sq, .slice Aq nq cq] := (hin 11 48 rfl (hp ⟨11, .data⟩ (by simp) rfl)).trans (hF 11 (hp ⟨11, .data⟩ (by simp) rfl))
          have e49 : a.tmps.getD 49 undef = .agg #[.bool s6, .slice A6 n6 c6] := (hin 12 49 rfl (hp ⟨12, .data⟩ (by simp) rfl)).trans (hF 12 (hp ⟨12, .data⟩ (by simp) rfl))
          refine Does.call ?_ (HM2.out w hG.old) ?_
          · go_simp
          · rintro e w' ⟨v, rfl, z, hb⟩
            exact ⟨v, rfl, fun _ _ _ h => h.below hb, z, hG.keep (by rfl) hb⟩
        · intro listed σ w a hin hout hl hc hp hG hF
          refine Guarded.none rfl ?_
          have e47 : a.tmps.getD 47 undef = .agg #[.bool s3, .slice A3 n3 c3] := (hin 10 47 rfl (hp ⟨10, .data⟩ (by simp) rfl)).trans (hF 10 (hp ⟨10, .data⟩ (by simp) rfl))
          have e50 := hin 13 50 rfl (hp ⟨13, .data⟩ (by simp) rfl)
          have z13 : ZRes w (σ 13) _ _ := hF 13 (hp ⟨13, .data⟩ (by simp) rfl)
          generalize σ 13 = vv13 at *
          refine Does.call ?_ (HS2.out w vv13 hG.old z13) ?_
          · go_simp
          · rintro e w' ⟨v, rfl, z, hb⟩
            exact ⟨v, rfl, fun _ _ _ h => h.below hb, z.short HY.out, hG.keep (by rfl) hb⟩
        · intro listed σ w a hin hout hl hc hp hG hF
          refine Guarded.none rfl ?_
          refine Does.val (.pointer (some ⟨w.heap.size, 0, none⟩)) (w' := w.alloc (.cells #[.bool false, .slice none 0 0] 38)) ?_ ⟨fun _ _ _ h => h.alloc _, trivial, hG.made (by rfl) (List.Mem.head _) rfl ?_⟩
          · go_simp
          · intro q hq hqe
            have hun : listed.getD 18 false = false := closed_un (k := 18) hc hl (by kernel_rfl)
            simp only [List.mem_cons, List.not_mem_nil, or_false] at hq
            rcases hq with rfl | rfl | rfl <;> first | exact hun | (simp at hqe)
        · intro listed σ w a hin hout hl hc hp hG hF
          refine Guarded.none rfl ?_
          refine Does.val (.pointer (some ⟨w.heap.size, 0, none⟩)) (w' := w.alloc (.cells #[.bool false, .slice none 0 0] 38)) ?_ ⟨fun _ _ _ h => h.alloc _, trivial, hG.made (by rfl) (List.Mem.tail _ (List.Mem.head _)) rfl ?_⟩
          · go_simp
          · intro q hq hqe
            have hun : listed.getD 19 false = false := closed_un (k := 19) hc hl (by kernel_rfl)
            simp only [List.mem_cons, List.not_mem_nil, or_false] at hq
            rcases hq with rfl | rfl | rfl <;> first | exact hun | (simp at hqe)
        · intro listed σ w a hin hout hl hc hp hG hF
          refine Guarded.none rfl ?_
          refine Does.val (.pointer (some ⟨w.heap.size, 0, none⟩)) (w' := w.alloc (.cells #[.bool false, .slice none 0 0] 38)) ?_ ⟨fun _ _ _ h => h.alloc _, trivial, hG.made (by rfl) (List.Mem.tail _ (List.Mem.tail _ (List.Mem.head _))) rfl ?_⟩
          · go_simp
          · intro q hq hqe
            have hun : listed.getD 20 false = false := closed_un (k := 20) hc hl (by kernel_rfl)
            simp only [List.mem_cons, List.not_mem_nil, or_false] at hq
            rcases hq with rfl | rfl | rfl <;> first | exact hun | (simp at hqe)
        · intro listed σ w a hin hout hl hc hp hG hF
          refine Guarded.none rfl ?_
          obtain ⟨g, eg, -, -, -, -⟩ := hG.at_ (List.Mem.head _) (hp ⟨15, .data⟩ (by simp) rfl)
          have e16 := (hin 15 16 rfl (hp ⟨15, .data⟩ (by simp) rfl)).trans eg
          have e41 := hin 4 41 rfl (hp ⟨4, .data⟩ (by simp) rfl)
          have z4 : ZRes w (σ 4) _ _ := hF 4 (hp ⟨4, .data⟩ (by simp) rfl)
          obtain ⟨s8, A8, n8, c8, ev8⟩ := z4.form
          rw [ev8] at e41 z4
          obtain ⟨hB, hG2⟩ := hG.filled (v := undef) (by rfl) (List.Mem.head _) rfl (hp ⟨15, .data⟩ (by simp) rfl) hl eg z4 (fun q hq hqe => by
            simp only [List.mem_cons, List.not_mem_nil, or_false] at hq
            rcases hq with rfl | rfl | rfl <;> first | rfl | (simp at hqe))
          have q0 := hB.c0; have q1 := hB.c1; have f0 := hB.fr 0; have f1 := hB.fr 1
          refine Does.skip (w' := st2 w g (.bool s8) (.slice A8 n8 c8)) ?_ ⟨fun _ _ _ h => h.st hB, trivial, hG2⟩
          go_simp
          rfl
        · intro listed σ w a hin hout hl hc hp hG hF
          refine Guarded.none rfl ?_
          obtain ⟨g, eg, -, -, -, -⟩ := hG.at_ (List.Mem.tail _ (List.Mem.head _)) (hp ⟨16, .data⟩ (by simp) rfl)
          have e17 := (hin 16 17 rfl (hp ⟨16, .data⟩ (by simp) rfl)).trans eg
          have e46 := hin 9 46 rfl (hp ⟨9, .data⟩ (by simp) rfl)
          have z9 : ZRes w (σ 9) _ _ := hF 9 (hp ⟨9, .data⟩ (by simp) rfl)
          obtain ⟨s8, A8, n8, c8, ev8⟩ := z9.form
          rw [ev8] at e46 z9
          obtain ⟨hB, hG2⟩ := hG.filled (v := undef) (by rfl) (List.Mem.tail _ (List.Mem.head _)) rfl (hp ⟨16, .data⟩ (by simp) rfl) hl eg z9 (fun q hq hqe => by
            simp only [List.mem_cons, List.not_mem_nil, or_false] at hq
            rcases hq with rfl | rfl | rfl <;> first | rfl | (simp at hqe))
          have q0 := hB.c0; have q1 := hB.c1; have f0 := hB.fr 0; have f1 := hB.fr 1
          refine Does.skip (w' := st2 w g (.bool s8) (.slice A8 n8 c8)) ?_ ⟨fun _ _ _ h => h.st hB, trivial, hG2⟩
          go_simp
          rfl
        · intro listed σ w a hin hout hl hc hp hG hF
          refine Guarded.none rfl ?_
          obtain ⟨g, eg, -, -, -, -⟩ := hG.at_ (List.Mem.tail _ (List.Mem.tail _ (List.Mem.head _))) (hp ⟨17, .data⟩ (by simp) rfl)
          have e18 := (hin 17 18 rfl (hp ⟨17, .data⟩ (by simp) rfl)).trans eg
          have e51 := hin 14 51 rfl (hp ⟨14, .data⟩ (by simp) rfl)
          have z14 : ZRes w (σ 14) _ _ := hF 14 (hp ⟨14, .data⟩ (by simp) rfl)
          obtain ⟨s8, A8, n8, c8, ev8⟩ := z14.form
          rw [ev8] at e51 z14
          obtain ⟨hB, hG2⟩ := hG.filled (v := undef) (by rfl) (List.Mem.tail _ (List.Mem.tail _ (List.Mem.head _))) rfl (hp ⟨17, .data⟩ (by simp) rfl) hl eg z14 (fun q hq hqe => by
            simp only [List.mem_cons, List.not_mem_nil, or_false] at hq
            rcases hq with rfl | rfl | rfl <;> first | rfl | (simp at hqe))
          have q0 := hB.c0; have q1 := hB.c1; have f0 := hB.fr 0; have f1 := hB.fr 1
          refine Does.skip (w' := st2 w g (.bool s8) (.slice A8 n8 c8)) ?_ ⟨fun _ _ _ h => h.st hB, trivial, hG2⟩
          go_simp
          rfl
      · intro listed σ W9 hall hG hF
        rw [show mid _ σ listed _ = (Act.put (Act.put (Act.put (Act.put (Act.put (Act.put (Act.put (Act.put (Act.put (Act.put (Act.put (Act.put (Act.put (Act.put (Act.put (Act.put (Act.put (Act.put (Act.put (Act.put (Act.put _ (some 37) (σ 0)) (some 38) (σ 1)) (some 39) (σ 2)) (some 40) (σ 3)) (some 41) (σ 4)) (some 42) (σ 5)) (some 43) (σ 6)) (some 44) (σ 7)) (some 45) (σ 8)) (some 46) (σ 9)) (some 47) (σ 10)) (some 48) (σ 11)) (some 49) (σ 12)) (some 50) (σ 13)) (some 51) (σ 14)) (some 16) (σ 15)) (some 17) (σ 16)) (some 18) (σ 17)) none (σ 18)) none (σ 19)) none (σ 20)) from (mid_all hall).trans rfl]
        obtain ⟨gB0, eB0, hB0, -, -, hfull0⟩ := hG.at_ (List.Mem.head _) (hall 15 (by show 15 < 21; omega))
        have hZ0 := hfull0 (hall 18 (by show 18 < 21; omega))
        obtain ⟨gB1, eB1, hB1, -, -, hfull1⟩ := hG.at_ (List.Mem.tail _ (List.Mem.head _)) (hall 16 (by show 16 < 21; omega))
        have hZ1 := hfull1 (hall 19 (by show 19 < 21; omega))
        obtain ⟨gB2, eB2, hB2, -, -, hfull2⟩ := hG.at_ (List.Mem.tail _ (List.Mem.tail _ (List.Mem.head _))) (hall 17 (by show 17 < 21; omega))
        have hZ2 := hfull2 (hall 20 (by show 20 < 21; omega))
        have hN01 : gB0 ≠ gB1 := fun e => hG.2.2 _ (List.Mem.head _) _ (List.Mem.tail _ (List.Mem.head _)) (by simp) (hall 15 (by show 15 < 21; omega)) (hall 16 (by show 16 < 21; omega)) (by show σ 15 = σ 16; rw [eB0, eB1, e])
        have hN02 : gB0 ≠ gB2 := fun e => hG.2.2 _ (List.Mem.head _) _ (List.Mem.tail _ (List.Mem.tail _ (List.Mem.head _))) (by simp) (hall 15 (by show 15 < 21; omega)) (hall 17 (by show 17 < 21; omega)) (by show σ 15 = σ 17; rw [eB0, eB2, e])
        have hN12 : gB1 ≠ gB2 := fun e => hG.2.2 _ (List.Mem.tail _ (List.Mem.head _)) _ (List.Mem.tail _ (List.Mem.tail _ (List.Mem.head _))) (by simp) (hall 16 (by show 16 < 21; omega)) (hall 17 (by show 17 < 21; omega)) (by show σ 16 = σ 17; rw [eB1, eB2, e])
        rw [eB0]
        rw [eB1]
        rw [eB2]
        simp only [Act.put, List.setIfInBounds_toArray, List.set_cons_zero, List.set_cons_succ]
        have TG := hG.old
        clear hF hG hall hfull0 eB0 hfull1 eB1 hfull2 eB2
        generalize σ 0 = tt0
        generalize σ 1 = tt1
        generalize σ 2 = tt2
        generalize σ 3 = tt3
        generalize σ 4 = tt4
        generalize σ 5 = tt5
        generalize σ 6 = tt6
        generalize σ 7 = tt7
        generalize σ 8 = tt8
        generalize σ 9 = tt9
        generalize σ 10 = tt10
        generalize σ 11 = tt11
        generalize σ 12 = tt12
        generalize σ 13 = tt13
        generalize σ 14 = tt14
        clear σ
        obtain ⟨KT, p1, p2, p3, p4, p5, p6, l4, l5, l6⟩ := HP.out
        replace KT := KT.call TG
        replace p1 := p1.next TG
        replace p2 := p2.next TG
        replace p3 := p3.next TG
        replace p4 := p4.next TG
        replace p5 := p5.next TG
        replace p6 := p6.next TG
        replace l4 := l4.below TG
        replace l5 := l5.below TG
        replace l6 := l6.below TG
        have hWs := HP.out.2.2.2.2.2.2.1.lt
        have HGL := hgL.out
        have HGN := hgN.out
        clear HP TG SOF HM0 HM1 HM2 HS0 HS1 HS2
        have a0 := p1.c0; have a1 := p1.c1; have a2 := p1.fr 0; have a3 := p1.fr 1
        have b0 := p2.c0; have b1 := p2.c1; have b2 := p2.fr 0; have b3 := p2.fr 1
        have c0 := p3.c0; have c1 := p3.c1; have c2 := p3.fr 0; have c3 := p3.fr 1
        have d0 := p4.c0; have d1 := p4.c1
        have e0 := p5.c0; have e1 := p5.c1
        have f0 := p6.c0; have f1 := p6.c1
        have : ¬ gL = gN := by omega
        have : ¬ gN = gL := by omega
        have : ¬ gL = gN + 1 := by omega
        have : ¬ gN + 1 = gL := by omega
        have : ¬ gL = gN + 1 + 1 := by omega
        have : ¬ gN + 1 + 1 = gL := by omega
        have : ¬ gL + 1 = gN := by omega
        have : ¬ gN = gL + 1 := by omega
        have : ¬ gL + 1 = gN + 1 := by omega
        have : ¬ gN + 1 = gL + 1 := by omega
        have : ¬ gL + 1 = gN + 1 + 1 := by omega
        have : ¬ gN + 1 + 1 = gL + 1 := by omega
        have : ¬ gL + 1 + 1 = gN := by omega
        have : ¬ gN = gL + 1 + 1 := by omega
        have : ¬ gL + 1 + 1 = gN + 1 := by omega
        have : ¬ gN + 1 = gL + 1 + 1 := by omega
        have : ¬ gL + 1 + 1 = gN + 1 + 1 := by omega
        have : ¬ gN + 1 + 1 = gL + 1 + 1 := by omega
        have HH := hide (And.intro KT (And.intro p1 (And.intro p2 (And.intro p3 (And.intro p4 (And.intro p5 (And.intro p6 (And.intro l4 (And.intro l5 (And.intro l6 (And.intro hZ0 (And.intro hZ1 hZ2))))))))))))
        clear KT p1 p2 p3 p4 p5 p6 l4 l5 l6 hZ0 hZ1 hZ2
        go_wp2_with fail
        go_region
        simp only [st2_def]
        clear a0 a1 a2 a3 b0 b1 b2 b3 c0 c1 c2 c3 d0 d1 e0 e1 f0 f1
        obtain ⟨KT, p1, p2, p3, p4, p5, p6, l4, l5, l6, hZ0, hZ1, hZ2⟩ := HH.out
        clear HH
        have h3 := copy3 KT p1 p2 p3 (by omega) (by omega) (by omega) ⟨by omega, by omega, by omega⟩ (fun p hp => by have := HFAR.out p hp; omega) l4 l5 l6
        replace hZ0 := h3.2.2.2.2 _ _ _ hZ0 (by omega) (by omega) (by omega)
        replace hZ1 := h3.2.2.2.2 _ _ _ hZ1 (by omega) (by omega) (by omega)
        replace hZ2 := h3.2.2.2.2 _ _ _ hZ2 (by omega) (by omega) (by omega)
        have z4 := h3.2.2.2.2 _ _ _ ⟨_, _, _, _, p4, l4⟩ (by omega) (by omega) (by omega)
        have z5 := h3.2.2.2.2 _ _ _ ⟨_, _, _, _, p5, l5⟩ (by omega) (by omega) (by omega)
        have z6 := h3.2.2.2.2 _ _ _ ⟨_, _, _, _, p6, l6⟩ (by omega) (by omega) (by omega)
        obtain ⟨KT2, z1, z2, z3, -⟩ := h3
        clear KT p1 p2 p3 p4 p5 p6 l4 l5 l6
        obtain ⟨Wa, hWa⟩ : ∃ Wa, Wa = (st2 (st2 (st2 W9 gL (.bool s4) (.slice A4 n4 c4)) (gL + 1) (.bool s5) (.slice A5 n5 c5)) (gL + 1 + 1) (.bool s6) (.slice A6 n6 c6)).drew := ⟨_, rfl⟩
        rw [← hWa] at KT2 z1 z2 z3 z4 z5 z6 hZ0 hZ1 hZ2 ⊢
        clear hWa
        obtain ⟨sa, Aa, na, ca, pa, la⟩ := hZ0
        obtain ⟨sb, Ab, nb, cb, pb, lb⟩ := hZ1
        obtain ⟨sc, Ac, nc, cc, pc, lc⟩ := hZ2
        obtain ⟨s7, A7, n7, c7, p7, -⟩ := z4
        obtain ⟨s8, A8, n8, c8, p8, -⟩ := z5
        obtain ⟨s9, A9, n9, c9, p9, -⟩ := z6
        have a0 := pa.c0; have a1 := pa.c1
        have b0 := pb.c0; have b1 := pb.c1
        have c0 := pc.c0; have c1 := pc.c1
        have d0 := p7.c0; have d1 := p7.c1; have d2 := p7.fr 0; have d3 := p7.fr 1
        have e0 := p8.c0; have e1 := p8.c1; have e2 := p8.fr 0; have e3 := p8.fr 1
        have f0 := p9.c0; have f1 := p9.c1; have f2 := p9.fr 0; have f3 := p9.fr 1
        have : ¬ gB0 = gN := by omega
        have : ¬ gN = gB0 := by omega
        have : ¬ gB0 = gN + 1 := by omega
        have : ¬ gN + 1 = gB0 := by omega
        have : ¬ gB0 = gN + 1 + 1 := by omega
        have : ¬ gN + 1 + 1 = gB0 := by omega
        have : ¬ gB1 = gN := by omega
        have : ¬ gN = gB1 := by omega
        have : ¬ gB1 = gN + 1 := by omega
        have : ¬ gN + 1 = gB1 := by omega
        have : ¬ gB1 = gN + 1 + 1 := by omega
        have : ¬ gN + 1 + 1 = gB1 := by omega
        have : ¬ gB2 = gN := by omega
        have : ¬ gN = gB2 := by omega
        have : ¬ gB2 = gN + 1 := by omega
        have : ¬ gN + 1 = gB2 := by omega
        have : ¬ gB2 = gN + 1 + 1 := by omega
        have : ¬ gN + 1 + 1 = gB2 := by omega
        have HH := hide (And.intro KT2 (And.intro p7 (And.intro p8 (And.intro p9 (And.intro la (And.intro lb (And.intro lc (And.intro z1 (And.intro z2 z3)))))))))
        clear KT2 p7 p8 p9 la lb lc z1 z2 z3 pa pb pc
        go_wp2_with fail
        go_region
        simp only [st2_def]
        clear a0 a1 b0 b1 c0 c1 d0 d1 d2 d3 e0 e1 e2 e3 f0 f1 f2 f3
        obtain ⟨KT, p7, p8, p9, la, lb, lc, z1, z2, z3⟩ := HH.out
        have h3 := copy3 KT p7 p8 p9 (by omega) (by omega) (by omega) ⟨by omega, by omega, by omega⟩ (fun p hp => by have := HFAR.out p hp; omega) la lb lc
        replace z1 := h3.2.2.2.2 _ _ _ z1 (by omega) (by omega) (by omega)
        replace z2 := h3.2.2.2.2 _ _ _ z2 (by omega) (by omega) (by omega)
        replace z3 := h3.2.2.2.2 _ _ _ z3 (by omega) (by omega) (by omega)
        have HR := hide (show RbRel N M K gL gN w _ (r0 % gk) _ from ⟨gk, x1, y1, _, _, hstep.out, hbst.out.symm.trans HBEZ.out, z1, z2, z3, h3.2.1, h3.2.2.1, h3.2.2.2.1, h3.1⟩)
        clear h3 KT p7 p8 p9 la lb lc z1 z2 z3 HH
        generalize (st2 (st2 (st2 Wa gN (.bool sa) (.slice Aa na ca)) (gN + 1) (.bool sb) (.slice Ab nb cb)) (gN + 1 + 1) (.bool sc) (.slice Ac nc cc)).drew = Wb at *
        go_wp2_with fail
        go_roundg (r0 % gk)
        case rel => exact HR
        case measure => exact hml.out
end Go.Proofs.Ytlihnagfmfpdcaa
