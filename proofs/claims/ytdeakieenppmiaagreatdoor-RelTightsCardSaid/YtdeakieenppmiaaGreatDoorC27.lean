/- Texts of one seat, put together: DivZ CeilZ ExactZ HatZ. -/
import Derived.Test.YtdeakieenppmiaaGreatDoorC17
import Derived.Test.YtdeakieenppmiaaGreatDoorC11
import Derived.Test.YtdeakieenppmiaaGreatDoorC12
import Derived.Test.YtdeakieenppmiaaGreatDoorC26
import Derived.Test.YtdeakieenppmiaaGreatDoorC10
set_option linter.unusedVariables false
set_option linter.unusedSimpArgs false
set_option maxRecDepth 100000
set_option maxHeartbeats 16000000
/- zint: Div, Ceil, Exact, Hat. -/
namespace Go.Proofs.YtdeakieenppmiaaGreatDoor
open Go.RowKit
open Limb (limb limb_lt upto upto_succ upto_all upto_zero)

theorem zstart4 (w : World) (X Y Z U : Array Value) : Blk ((((w.alloc (.cells X 26)).alloc (.cells Y 26)).alloc (.cells Z 26)).alloc (.cells U 26)) w.heap.size X ∧ Blk ((((w.alloc (.cells X 26)).alloc (.cells Y 26)).alloc (.cells Z 26)).alloc (.cells U 26)) (w.heap.size + 1) Y ∧
  Blk ((((w.alloc (.cells X 26)).alloc (.cells Y 26)).alloc (.cells Z 26)).alloc (.cells U 26)) (w.heap.size + 1 + 1) Z ∧ Blk ((((w.alloc (.cells X 26)).alloc (.cells Y 26)).alloc (.cells Z 26)).alloc (.cells U 26)) (w.heap.size + 1 + 1 + 1) U ∧
  Below w.heap.size w ((((w.alloc (.cells X 26)).alloc (.cells Y 26)).alloc (.cells Z 26)).alloc (.cells U 26)) ∧ ((((w.alloc (.cells X 26)).alloc (.cells Y 26)).alloc (.cells Z 26)).alloc (.cells U 26)).heap.size = w.heap.size + 4 := by
 obtain ⟨h1, h2, h3, h4, h5⟩ := zstart3 w X Y Z
 obtain ⟨k1, k2, k3⟩ := zstart1 (((w.alloc (.cells X 26)).alloc (.cells Y 26)).alloc (.cells Z 26)) U
 rw [h5] at k1 k3
 have e2 : w.heap.size + 3 = w.heap.size + 1 + 1 + 1 := rfl
 rw [e2] at k1
 exact ⟨h1.alloc _, h2.alloc _, h3.alloc _, k1, h4.next (bl_alloc _ _), by omega⟩

theorem results_zze {fn : Func} {p q t : Tmp} (h : fn.results = #[.cell p 26, .cell q 26, .tmp t]) (tmps : Array Value) (w : World) (g k : Nat) (x y x' y' : Value)
  (hp : tmps.getD p undef = .pointer (some ⟨g, 0, none⟩)) (hq : tmps.getD q undef = .pointer (some ⟨k, 0, none⟩)) (hg : Blk w g #[x, y]) (hk : Blk w k #[x', y']) :
  (results fn tmps).run Tryz.prog w = .ok (.tuple #[.agg #[x, y], .agg #[x', y'], tmps.getD t undef]) w := by
 have hp' : tmps[p]?.getD undef = .pointer (some ⟨g, 0, none⟩) := by simpa using hp
 have hq' : tmps[q]?.getD undef = .pointer (some ⟨k, 0, none⟩) := by simpa using hq
 simp [results, h, hp', hq', asAddr, run_loadVar_row w g 26 26 #[x, y] (0, 0) _ hg Tryz.underlying26 rfl (by kernel_rfl), run_loadVar_row w k 26 26 #[x', y'] (0, 0) _ hk Tryz.underlying26 rfl (by kernel_rfl)]
theorem bodyPost_zze {fn : Func} {R : Ending → World → Prop} {a : Act} {w : World} {g k p q t : Nat} {x y x' y' v : Value} (hres : fn.results = #[.cell p 26, .cell q 26, .tmp t]) (hp : a.tmps.getD p undef = .pointer (some ⟨g, 0, none⟩)) (hq : a.tmps.getD q undef = .pointer (some ⟨k, 0, none⟩))
  (hv : a.tmps.getD t undef = v) (hb : Blk w g #[x, y]) (hk : Blk w k #[x', y']) (hd : a.defers = []) (hR : R (.returned (.tuple #[.agg #[x, y], .agg #[x', y'], v])) w) : bodyPost Tryz.prog fn R .ret a w :=
 bodyPost_ret (by rw [results_zze hres _ _ g k x y x' y' hp hq hb hk, hv]) hd hR
def DivZNo (w : World) (e : Ending) (w' : World) : Prop := e = .returned (.tuple #[.agg #[.bool false, .slice none 0 0], .agg #[.bool false, .slice none 0 0], .int .i64 10]) ∧ Below w.heap.size w w'
def DivZYes (Z Y : Int) (k j : Nat) (w : World) (e : Ending) (w' : World) : Prop := ∃ u v, e = .returned (.tuple #[u, v, .int .i64 0]) ∧ ZRes w' u (Z.fdiv Y) k ∧ ZRes w' v (Z.fmod Y) j ∧ Below w.heap.size w w'

theorem st_two {W : World} {g k : Nat} {u v u' v' x y x' y' : Value} (hg : Blk W g #[u, v]) (hk : Blk W k #[u', v']) (hne : g ≠ k) : Blk (st2 (st2 W g x y) k x' y') g #[x, y] ∧ Blk (st2 (st2 W g x y) k x' y') k #[x', y'] :=
 ⟨(hg.set2 x y).stOther hne, (hk.stOther (Ne.symm hne)).set2 x' y'⟩
theorem zres_two {W : World} {v : Value} {Z : Int} {j g k n m c d : Nat} {s t : Bool} {A B : Option Addr} {x y x' y' : Value} (h : ZRes W v Z j) (hg : Blk W g #[.bool s, .slice A n c]) (hk : Blk W k #[.bool t, .slice B m d]) (hne : g ≠ k) : ZRes (st2 (st2 W g x y) k x' y') v Z j :=
 (h.st hg).st (hk.stOther (Ne.symm hne))
theorem divz_even' (s t : Bool) (N M : Nat) (hM : 0 < M) (h0 : N % M = 0) : (sg s N).fdiv (sg t M) = sg (!(s == t)) (N / M) ∧ (sg s N).fmod (sg t M) = sg s (N % M) := by
 rw [h0, sg_zero]
 by_cases h : s = t
 · subst h
   have := divz_same s N M hM
   rw [h0, sg_zero] at this
   simpa using this
 · have := divz_even s t N M h hM h0
   have e : (!(s == t)) = true := by simpa using h
   rw [e]; exact this
theorem sg_pos_natAbs {t : Bool} {M : Nat} (h : sg t M ≠ 0) : M ≠ 0 := fun h0 => h (by rw [h0, sg_zero])
theorem zdiv_yes (v u : Value) (Z Y : Int) (k j : Nat) (w : World) (hv : ZIn w v Z k) (hu : ZIn w u Y j) (hY : Y ≠ 0) (hk : k ≤ 68719476736) (hj : j ≤ 68719476736) : Calls Tryz.prog 35 #[v, u] w (DivZYes Z Y k j w) := by
 have hqs := hide (fdiv_small Z Y k hv.lt)
 have hrs := hide (fmod_small Z Y j hY hu.lt)
 have hlv := hide hv.lt
 have hlu := hide hu.lt
 have hu0 := hu
 obtain ⟨s, A, n, c, xs, rfl, hx, hc, hm, hn, rfl⟩ := hv
 obtain ⟨t, B, m, d, ys, rfl, hy, hd, hmd, hmk, rfl⟩ := hu
 have hM0 := hide (sg_pos_natAbs hY)
 rw [sg_natAbs] at hlv hlu
 obtain ⟨x0, y0, q0, r0, z2, z4⟩ := zstart4 w #[.bool s, .slice A n c] #[.bool t, .slice B m d] #[.bool false, .slice none 0 0] #[.bool false, .slice none 0 0]
 have hdy := div_yes A B n c m d xs ys _ (hx.below z2) hc hm (by omega) (hy.below z2) hd hmd (by omega) hM0.out
 have hq1 := hide (Nat.lt_of_le_of_lt (Nat.div_le_self (Limb.val xs) (Limb.val ys)) hlv.out)
 have hr1 := hide (Nat.lt_trans (Nat.mod_lt (Limb.val xs) (Nat.pos_of_ne_zero hM0.out)) hlu.out)
 have same := hide (divz_same s (Limb.val xs) (Limb.val ys) (Nat.pos_of_ne_zero hM0.out))
 have even := hide (fun hst h0 => divz_even s t (Limb.val xs) (Limb.val ys) hst (Nat.pos_of_ne_zero hM0.out) h0)
 have odd := hide (fun hst h0 => divz_odd s t (Limb.val xs) (Limb.val ys) hst (Nat.pos_of_ne_zero hM0.out) h0)
 clear hY
 by_cases h0 : Limb.val xs % Limb.val ys = 0
 · have HE := hide (divz_even' s t (Limb.val xs) (Limb.val ys) (Nat.pos_of_ne_zero hM0.out) h0)
   have H0 := hide h0
   clear same even odd h0
   have K0 := KeepsB.mk2 (B := w.heap.size + 2) (((Keeps.nil z2).add y0 (by omega)).add x0 (by omega)) (by rw [z4]; omega) (by omega) (by omega) (by omega)
   go_enter Tryz.func35, Tryz.ntmps35
   go_wp2_with fail
   refine hdy.mono ?_
   rintro e wa ⟨Aa, na, ca, Ba, ma, da, rfl, oa, pa, ba⟩
   have K1 := K0.call ba
   have HK := hide K1
   have SOF := hide (show ∀ W, KeepsB w (w.heap.size + 2) [(w.heap.size, .bool s, .slice A n c), (w.heap.size + 1, .bool t, .slice B m d)] W → (fun W => KeepsB w (w.heap.size + 2) [(w.heap.size, .bool s, .slice A n c), (w.heap.size + 1, .bool t, .slice B m d)] W ∧ W.cell? ⟨w.heap.size, 0, none⟩ = some (.bool s) ∧ W.cell? ⟨w.heap.size, 1, none⟩ = some (.slice A n c) ∧ W.cell? ⟨w.heap.size + 1, 0, none⟩ = some (.bool t) ∧ W.cell? ⟨w.heap.size + 1, 1, none⟩ = some (.slice B m d)) W from fun W k => ⟨k, (k.keeps.blk (List.Mem.head _)).c0, (k.keeps.blk (List.Mem.head _)).c1, (k.keeps.blk (List.Mem.tail _ (List.Mem.head _))).c0, (k.keeps.blk (List.Mem.tail _ (List.Mem.head _))).c1⟩)
   go_wp2_with fail
   go_region_held3 (fun W => KeepsB w (w.heap.size + 2) [(w.heap.size, .bool s, .slice A n c), (w.heap.size + 1, .bool t, .slice B m d)] W ∧ W.cell? ⟨w.heap.size, 0, none⟩ = some (.bool s) ∧ W.cell? ⟨w.heap.size, 1, none⟩ = some (.slice A n c) ∧ W.cell? ⟨w.heap.size + 1, 0, none⟩ = some (.bool t) ∧ W.cell? ⟨w.heap.size + 1, 1, none⟩ = some (.slice B m d))
     (with_reducible first | (simp only [st2_def]; refine SOF.out _ ?_; (repeat (first | refine KeepsB.alloc ?_ _ | refine KeepsB.st ?_ _ _ (by omega))); exact K3.out) | exact SOF.out _ HK.out.drew | exact SOF.out _ (KeepsB.call (And.left (a := KeepsB w (w.heap.size + 2) _ _) (by assumption)) (by assumption)))
     (first
       | (go_at_call 74; (have kk := (And.left (a := KeepsB w (w.heap.size + 2) _ _) (by assumption))); (with_reducible refine (signed_any (!(s == t)) Aa na ca _ _ oa.len (by have := own_c oa; omega)).mono ?_); rintro e w2 ⟨rfl, b2⟩; have hz2 := hide (kk.call b2).size; have K2 := hide (kk.call b2); clear kk)
       | (go_at_call 74; (have kk := (And.left (a := KeepsB w (w.heap.size + 2) _ _) (by assumption))); (with_reducible refine (signed_any s Ba ma da _ _ pa.len (by have := own_c pa; omega)).mono ?_); rintro e w3 ⟨rfl, b3⟩; have hz3 := hide (kk.call b3).size; have K3 := hide (kk.call b3); clear kk; have q3 := ((q0.next ba).drew.next b2).next b3; have r3 := ((r0.next ba).drew.next b2).next b3; have q3a := q3.c0; have q3b := q3.c1; have q3c := q3.fr 0; have q3d := q3.fr 1; have r3a := r3.c0; have r3b := r3.c1; have r3c := r3.fr 0; have r3d := r3.fr 1))
   clear HK SOF q3a q3b q3c q3d r3a r3b r3c r3d
   simp only [st2_def]
   have zq := (((zres_own (s := (!(s == t))) oa hq1.out).below (bl_drewN wa 1)).below b2).below b3
   have zr := (((zres_own (s := s) pa hr1.out).below (bl_drewN wa 1)).below b2).below b3
   obtain ⟨W5, hW5⟩ : ∃ W5, W5 = st2 (st2 w3 (w.heap.size + 1 + 1) (.bool (decide (sg (!(s == t)) (Limb.val xs / Limb.val ys) < 0))) (.slice Aa na ca)) (w.heap.size + 1 + 1 + 1) (.bool (decide (sg s (Limb.val xs % Limb.val ys) < 0))) (.slice Ba ma da) := ⟨_, rfl⟩
   rw [← hW5]
   have q5 := (st_two (x := .bool (decide (sg (!(s == t)) (Limb.val xs / Limb.val ys) < 0))) (y := .slice Aa na ca) (x' := .bool (decide (sg s (Limb.val xs % Limb.val ys) < 0))) (y' := .slice Ba ma da) q3 r3 (by omega)).1
   have r5 := (st_two (x := .bool (decide (sg (!(s == t)) (Limb.val xs / Limb.val ys) < 0))) (y := .slice Aa na ca) (x' := .bool (decide (sg s (Limb.val xs % Limb.val ys) < 0))) (y' := .slice Ba ma da) q3 r3 (by omega)).2
   have zq := zres_two (x := .bool (decide (sg (!(s == t)) (Limb.val xs / Limb.val ys) < 0))) (y := .slice Aa na ca) (x' := .bool (decide (sg s (Limb.val xs % Limb.val ys) < 0))) (y' := .slice Ba ma da) zq q3 r3 (by omega)
   have zr := zres_two (x := .bool (decide (sg (!(s == t)) (Limb.val xs / Limb.val ys) < 0))) (y := .slice Aa na ca) (x' := .bool (decide (sg s (Limb.val xs % Limb.val ys) < 0))) (y' := .slice Ba ma da) zr q3 r3 (by omega)
   have K5 := (K3.out.st (g := w.heap.size + 1 + 1) (.bool (decide (sg (!(s == t)) (Limb.val xs / Limb.val ys) < 0))) (.slice Aa na ca) (by omega)).st (g := w.heap.size + 1 + 1 + 1) (.bool (decide (sg s (Limb.val xs % Limb.val ys) < 0))) (.slice Ba ma da) (by omega)
   rw [← hW5] at q5 r5 zq zr K5
   have T5 := K5.old
   clear hW5 q3 r3 K3 K1 K2 hz2 hz3 x0 y0 q0 r0 K0 hdy oa b2 b3 ba z2 z4
   generalize hu1 : decide (sg (!(s == t)) (Limb.val xs / Limb.val ys) < 0) = u1 at *
   generalize hu2 : decide (sg s (Limb.val xs % Limb.val ys) < 0) = u2 at *
   clear hu1 hu2
   have x5a := (K5.keeps.blk (List.Mem.head _)).c0
   have y5a := (K5.keeps.blk (List.Mem.tail _ (List.Mem.head _))).c0
   have q5a := q5.c0
   have q5b := q5.c1
   have q5c := q5.fr 0
   have q5d := q5.fr 1
   have r5a := r5.c0
   have r5b := r5.c1
   have r5c := r5.fr 0
   have r5d := r5.fr 1
   have hma : ma = 0 := by rw [pa.len, H0.out]; rfl
   subst hma
   clear pa
   go_wp2_with fail
   go_region
   go_wp2_with fail
   simp only [st2_def]
   have q7 := st_two (x := .bool u1) (y := .slice Aa na ca) (x' := .bool u2) (y' := .slice Ba 0 da) q5 r5 (by omega)
   have z7 := (zres_two (x := .bool u1) (y := .slice Aa na ca) (x' := .bool u2) (y' := .slice Ba 0 da) zq q5 r5 (by omega)).below (bl_drewN _ 1)
   have z8 := (zres_two (x := .bool u1) (y := .slice Aa na ca) (x' := .bool u2) (y' := .slice Ba 0 da) zr q5 r5 (by omega)).below (bl_drewN _ 1)
   exact bodyPost_zze rfl rfl rfl rfl q7.1.drew q7.2.drew rfl ⟨_, _, rfl, z7.ofEq HE.out.1.symm, z8.ofEq HE.out.2.symm, ((K5.st (g := w.heap.size + 1 + 1) (.bool u1) (.slice Aa na ca) (by omega)).st (g := w.heap.size + 1 + 1 + 1) (.bool u2) (.slice Ba 0 da) (by omega)).old.drew⟩
 · have H0 := hide h0
   have hpos : Hid (0 < (Limb.val xs % Limb.val ys)) := Nat.pos_of_ne_zero h0
   clear h0
   by_cases hst : s = t
   · subst hst
     have heq : (s == s) = true := by simp
     clear even odd
     have K0 := KeepsB.mk2 (B := w.heap.size + 2) (((Keeps.nil z2).add y0 (by omega)).add x0 (by omega)) (by rw [z4]; omega) (by omega) (by omega) (by omega)
     go_enter Tryz.func35, Tryz.ntmps35
     go_wp2_with fail
     refine hdy.mono ?_
     rintro e wa ⟨Aa, na, ca, Ba, ma, da, rfl, oa, pa, ba⟩
     have K1 := K0.call ba
     have HK := hide K1
     have SOF := hide (show ∀ W, KeepsB w (w.heap.size + 2) [(w.heap.size, .bool s, .slice A n c), (w.heap.size + 1, .bool s, .slice B m d)] W → (fun W => KeepsB w (w.heap.size + 2) [(w.heap.size, .bool s, .slice A n c), (w.heap.size + 1, .bool s, .slice B m d)] W ∧ W.cell? ⟨w.heap.size, 0, none⟩ = some (.bool s) ∧ W.cell? ⟨w.heap.size, 1, none⟩ = some (.slice A n c) ∧ W.cell? ⟨w.heap.size + 1, 0, none⟩ = some (.bool s) ∧ W.cell? ⟨w.heap.size + 1, 1, none⟩ = some (.slice B m d)) W from fun W k => ⟨k, (k.keeps.blk (List.Mem.head _)).c0, (k.keeps.blk (List.Mem.head _)).c1, (k.keeps.blk (List.Mem.tail _ (List.Mem.head _))).c0, (k.keeps.blk (List.Mem.tail _ (List.Mem.head _))).c1⟩)
     go_wp2_with fail
     go_region_held3 (fun W => KeepsB w (w.heap.size + 2) [(w.heap.size, .bool s, .slice A n c), (w.heap.size + 1, .bool s, .slice B m d)] W ∧ W.cell? ⟨w.heap.size, 0, none⟩ = some (.bool s) ∧ W.cell? ⟨w.heap.size, 1, none⟩ = some (.slice A n c) ∧ W.cell? ⟨w.heap.size + 1, 0, none⟩ = some (.bool s) ∧ W.cell? ⟨w.heap.size + 1, 1, none⟩ = some (.slice B m d))
       (with_reducible first | (simp only [st2_def]; refine SOF.out _ ?_; (repeat (first | refine KeepsB.alloc ?_ _ | refine KeepsB.st ?_ _ _ (by omega))); exact K3.out) | exact SOF.out _ HK.out.drew | exact SOF.out _ (KeepsB.call (And.left (a := KeepsB w (w.heap.size + 2) _ _) (by assumption)) (by assumption)))
       (first
        | (go_at_call 74; (have kk := (And.left (a := KeepsB w (w.heap.size + 2) _ _) (by assumption))); (with_reducible refine (signed_any false Aa na ca _ _ oa.len (by have := own_c oa; omega)).mono ?_); rintro e w2 ⟨rfl, b2⟩; have hz2 := hide (kk.call b2).size; have K2 := hide (kk.call b2); clear kk)
        | (go_at_call 74; (have kk := (And.left (a := KeepsB w (w.heap.size + 2) _ _) (by assumption))); (with_reducible refine (signed_any s Ba ma da _ _ pa.len (by have := own_c pa; omega)).mono ?_); rintro e w3 ⟨rfl, b3⟩; have hz3 := hide (kk.call b3).size; have K3 := hide (kk.call b3); clear kk; have q3 := ((q0.next ba).drew.next b2).next b3; have r3 := ((r0.next ba).drew.next b2).next b3; have q3a := q3.c0; have q3b := q3.c1; have q3c := q3.fr 0; have q3d := q3.fr 1; have r3a := r3.c0; have r3b := r3.c1; have r3c := r3.fr 0; have r3d := r3.fr 1))
     clear HK SOF q3a q3b q3c q3d r3a r3b r3c r3d
     simp only [st2_def]
     have zq := (((zres_own (s := false) oa hq1.out).below (bl_drewN wa 1)).below b2).below b3
     have zr := (((zres_own (s := s) pa hr1.out).below (bl_drewN wa 1)).below b2).below b3
     obtain ⟨W5, hW5⟩ : ∃ W5, W5 = st2 (st2 w3 (w.heap.size + 1 + 1) (.bool (decide (sg false (Limb.val xs / Limb.val ys) < 0))) (.slice Aa na ca)) (w.heap.size + 1 + 1 + 1) (.bool (decide (sg s (Limb.val xs % Limb.val ys) < 0))) (.slice Ba ma da) := ⟨_, rfl⟩
     rw [← hW5]
     have q5 := (st_two (x := .bool (decide (sg false (Limb.val xs / Limb.val ys) < 0))) (y := .slice Aa na ca) (x' := .bool (decide (sg s (Limb.val xs % Limb.val ys) < 0))) (y' := .slice Ba ma da) q3 r3 (by omega)).1
     have r5 := (st_two (x := .bool (decide (sg false (Limb.val xs / Limb.val ys) < 0))) (y := .slice Aa na ca) (x' := .bool (decide (sg s (Limb.val xs % Limb.val ys) < 0))) (y' := .slice Ba ma da) q3 r3 (by omega)).2
     have zq := zres_two (x := .bool (decide (sg false (Limb.val xs / Limb.val ys) < 0))) (y := .slice Aa na ca) (x' := .bool (decide (sg s (Limb.val xs % Limb.val ys) < 0))) (y' := .slice Ba ma da) zq q3 r3 (by omega)
     have zr := zres_two (x := .bool (decide (sg false (Limb.val xs / Limb.val ys) < 0))) (y := .slice Aa na ca) (x' := .bool (decide (sg s (Limb.val xs % Limb.val ys) < 0))) (y' := .slice Ba ma da) zr q3 r3 (by omega)
     have K5 := (K3.out.st (g := w.heap.size + 1 + 1) (.bool (decide (sg false (Limb.val xs / Limb.val ys) < 0))) (.slice Aa na ca) (by omega)).st (g := w.heap.size + 1 + 1 + 1) (.bool (decide (sg s (Limb.val xs % Limb.val ys) < 0))) (.slice Ba ma da) (by omega)
     rw [← hW5] at q5 r5 zq zr K5
     have T5 := K5.old
     clear hW5 q3 r3 K3 K1 K2 hz2 hz3 x0 y0 q0 r0 K0 hdy oa b2 b3 ba z2 z4
     generalize hu1 : decide (sg false (Limb.val xs / Limb.val ys) < 0) = u1 at *
     generalize hu2 : decide (sg s (Limb.val xs % Limb.val ys) < 0) = u2 at *
     clear hu1 hu2
     have x5a := (K5.keeps.blk (List.Mem.head _)).c0
     have y5a := (K5.keeps.blk (List.Mem.tail _ (List.Mem.head _))).c0
     have q5a := q5.c0
     have q5b := q5.c1
     have q5c := q5.fr 0
     have q5d := q5.fr 1
     have r5a := r5.c0
     have r5b := r5.c1
     have r5c := r5.fr 0
     have r5d := r5.fr 1
     have hma : 0 < ma := by rcases Nat.eq_zero_or_pos ma with h | h; exact absurd ((Limb.canon_len_zero _).1 (by rw [← pa.len]; exact h)) H0.out; exact h
     clear pa
     go_wp2_with fail
     go_region
     go_wp2_with fail
     simp only [st2_def]
     have q7 := st_two (x := .bool u1) (y := .slice Aa na ca) (x' := .bool u2) (y' := .slice Ba ma da) q5 r5 (by omega)
     have z7 := (zres_two (x := .bool u1) (y := .slice Aa na ca) (x' := .bool u2) (y' := .slice Ba ma da) zq q5 r5 (by omega)).below (bl_drewN _ 1)
     have z8 := (zres_two (x := .bool u1) (y := .slice Aa na ca) (x' := .bool u2) (y' := .slice Ba ma da) zr q5 r5 (by omega)).below (bl_drewN _ 1)
     exact bodyPost_zze rfl rfl rfl rfl q7.1.drew q7.2.drew rfl ⟨_, _, rfl, z7.ofEq same.out.1.symm, z8.ofEq same.out.2.symm, ((K5.st (g := w.heap.size + 1 + 1) (.bool u1) (.slice Aa na ca) (by omega)).st (g := w.heap.size + 1 + 1 + 1) (.bool u2) (.slice Ba ma da) (by omega)).old.drew⟩
   · have hne : (s == t) = false := by simpa using hst
     replace odd := hide (odd.out hst hpos.out)
     clear same even hst
     have K0 := KeepsB.mk2 (B := w.heap.size + 2) (((Keeps.nil z2).add y0 (by omega)).add x0 (by omega)) (by rw [z4]; omega) (by omega) (by omega) (by omega)
     go_enter Tryz.func35, Tryz.ntmps35
     go_wp2_with fail
     refine hdy.mono ?_
     rintro e wa ⟨Aa, na, ca, Ba, ma, da, rfl, oa, pa, ba⟩
     have K1 := K0.call ba
     have HK := hide K1
     have SOF := hide (show ∀ W, KeepsB w (w.heap.size + 2) [(w.heap.size, .bool s, .slice A n c), (w.heap.size + 1, .bool t, .slice B m d)] W → (fun W => KeepsB w (w.heap.size + 2) [(w.heap.size, .bool s, .slice A n c), (w.heap.size + 1, .bool t, .slice B m d)] W ∧ W.cell? ⟨w.heap.size, 0, none⟩ = some (.bool s) ∧ W.cell? ⟨w.heap.size, 1, none⟩ = some (.slice A n c) ∧ W.cell? ⟨w.heap.size + 1, 0, none⟩ = some (.bool t) ∧ W.cell? ⟨w.heap.size + 1, 1, none⟩ = some (.slice B m d)) W from fun W k => ⟨k, (k.keeps.blk (List.Mem.head _)).c0, (k.keeps.blk (List.Mem.head _)).c1, (k.keeps.blk (List.Mem.tail _ (List.Mem.head _))).c0, (k.keeps.blk (List.Mem.tail _ (List.Mem.head _))).c1⟩)
     go_wp2_with fail
     go_region_held3 (fun W => KeepsB w (w.heap.size + 2) [(w.heap.size, .bool s, .slice A n c), (w.heap.size + 1, .bool t, .slice B m d)] W ∧ W.cell? ⟨w.heap.size, 0, none⟩ = some (.bool s) ∧ W.cell? ⟨w.heap.size, 1, none⟩ = some (.slice A n c) ∧ W.cell? ⟨w.heap.size + 1, 0, none⟩ = some (.bool t) ∧ W.cell? ⟨w.heap.size + 1, 1, none⟩ = some (.slice B m d))
       (with_reducible first | (simp only [st2_def]; refine SOF.out _ ?_; (repeat (first | refine KeepsB.alloc ?_ _ | refine KeepsB.st ?_ _ _ (by omega))); exact K3.out) | exact SOF.out _ HK.out.drew | exact SOF.out _ (KeepsB.call (And.left (a := KeepsB w (w.heap.size + 2) _ _) (by assumption)) (by assumption)))
       (first
        | (go_at_call 74; (have kk := (And.left (a := KeepsB w (w.heap.size + 2) _ _) (by assumption))); (with_reducible refine (signed_any true Aa na ca _ _ oa.len (by have := own_c oa; omega)).mono ?_); rintro e w2 ⟨rfl, b2⟩; have hz2 := hide (kk.call b2).size; have K2 := hide (kk.call b2); clear kk)
        | (go_at_call 74; (have kk := (And.left (a := KeepsB w (w.heap.size + 2) _ _) (by assumption))); (with_reducible refine (signed_any s Ba ma da _ _ pa.len (by have := own_c pa; omega)).mono ?_); rintro e w3 ⟨rfl, b3⟩; have hz3 := hide (kk.call b3).size; have K3 := hide (kk.call b3); clear kk; have q3 := ((q0.next ba).drew.next b2).next b3; have r3 := ((r0.next ba).drew.next b2).next b3; have q3a := q3.c0; have q3b := q3.c1; have q3c := q3.fr 0; have q3d := q3.fr 1; have r3a := r3.c0; have r3b := r3.c1; have r3c := r3.fr 0; have r3d := r3.fr 1))
     clear HK SOF q3a q3b q3c q3d r3a r3b r3c r3d
     simp only [st2_def]
     have zq := (((zres_own (s := true) oa hq1.out).below (bl_drewN wa 1)).below b2).below b3
     have zr := (((zres_own (s := s) pa hr1.out).below (bl_drewN wa 1)).below b2).below b3
     obtain ⟨W5, hW5⟩ : ∃ W5, W5 = st2 (st2 w3 (w.heap.size + 1 + 1) (.bool (decide (sg true (Limb.val xs / Limb.val ys) < 0))) (.slice Aa na ca)) (w.heap.size + 1 + 1 + 1) (.bool (decide (sg s (Limb.val xs % Limb.val ys) < 0))) (.slice Ba ma da) := ⟨_, rfl⟩
     rw [← hW5]
     have q5 := (st_two (x := .bool (decide (sg true (Limb.val xs / Limb.val ys) < 0))) (y := .slice Aa na ca) (x' := .bool (decide (sg s (Limb.val xs % Limb.val ys) < 0))) (y' := .slice Ba ma da) q3 r3 (by omega)).1
     have r5 := (st_two (x := .bool (decide (sg true (Limb.val xs / Limb.val ys) < 0))) (y := .slice Aa na ca) (x' := .bool (decide (sg s (Limb.val xs % Limb.val ys) < 0))) (y' := .slice Ba ma da) q3 r3 (by omega)).2
     have zq := zres_two (x := .bool (decide (sg true (Limb.val xs / Limb.val ys) < 0))) (y := .slice Aa na ca) (x' := .bool (decide (sg s (Limb.val xs % Limb.val ys) < 0))) (y' := .slice Ba ma da) zq q3 r3 (by omega)
     have zr := zres_two (x := .bool (decide (sg true (Limb.val xs / Limb.val ys) < 0))) (y := .slice Aa na ca) (x' := .bool (decide (sg s (Limb.val xs % Limb.val ys) < 0))) (y' := .slice Ba ma da) zr q3 r3 (by omega)
     have K5 := (K3.out.st (g := w.heap.size + 1 + 1) (.bool (decide (sg true (Limb.val xs / Limb.val ys) < 0))) (.slice Aa na ca) (by omega)).st (g := w.heap.size + 1 + 1 + 1) (.bool (decide (sg s (Limb.val xs % Limb.val ys) < 0))) (.slice Ba ma da) (by omega)
     rw [← hW5] at q5 r5 zq zr K5
     have T5 := K5.old
     clear hW5 q3 r3 K3 K1 K2 hz2 hz3 x0 y0 q0 r0 K0 hdy oa b2 b3 ba z2 z4
     generalize hu1 : decide (sg true (Limb.val xs / Limb.val ys) < 0) = u1 at *
     generalize hu2 : decide (sg s (Limb.val xs % Limb.val ys) < 0) = u2 at *
     clear hu1 hu2
     have x5a := (K5.keeps.blk (List.Mem.head _)).c0
     have y5a := (K5.keeps.blk (List.Mem.tail _ (List.Mem.head _))).c0
     have q5a := q5.c0
     have q5b := q5.c1
     have q5c := q5.fr 0
     have q5d := q5.fr 1
     have r5a := r5.c0
     have r5b := r5.c1
     have r5c := r5.fr 0
     have r5d := r5.fr 1
     have hma : 0 < ma := by rcases Nat.eq_zero_or_pos ma with h | h; exact absurd ((Limb.canon_len_zero _).1 (by rw [← pa.len]; exact h)) H0.out; exact h
     clear pa
     have K5 : KeepsB w (w.heap.size + 2) [(w.heap.size + 1, .bool t, .slice B m d)] W5 := ⟨(Keeps.nil T5).add (K5.keeps.blk (List.Mem.tail _ (List.Mem.head _))) (by omega), K5.size, K5.2.2.1, fun p hp => K5.2.2.2 p (List.Mem.tail _ hp)⟩
     have y5 := K5.keeps.blk (List.Mem.head _)
     have k6 := hide (K5.drew)
     have q6 := hide q5.drew
     have r6 := hide r5.drew
     have y6 := hide y5.drew
     have zq6 := hide (zq.below (bl_drewN _ 1))
     have zr6 := hide (zr.below (bl_drewN _ 1))
     clear K5 zq zr T5 r5 q5
     have y5b := y5.c0
     clear y5
     go_wp2_with fail
     clear x5a y5a q5a q5b q5c q5d r5a r5b r5c r5d y5b
     refine wp_region_late (by kernel_rfl) [6, 7] (fun W => W.cell? ⟨w.heap.size + 1 + 1, 0, none⟩ = some (.bool u1) ∧ W.cell? ⟨w.heap.size + 1 + 1, 1, none⟩ = some (.slice Aa na ca) ∧ W.cell? ⟨w.heap.size + 1 + 1 + 1, 0, none⟩ = some (.bool u2) ∧ W.cell? ⟨w.heap.size + 1 + 1 + 1, 1, none⟩ = some (.slice Ba ma da) ∧ W.cell? ⟨w.heap.size + 1, 0, none⟩ = some (.bool t) ∧ W.cell? ⟨w.heap.size + 1, 1, none⟩ = some (.slice B m d)) (fun hc => ?_)
     refine AnyL.take (i := 0) (oi := { dst := some 44, op := Op.load 26 (Operand.tmp 4), type := 26, pos := "div.go:17", after := #[], guard := none }) (v := ?_) rfl (by kernel_rfl) (by kernel_rfl) (by kernel_rfl) (by kernel_rfl) (fun _ _ _ h => h) hc (Or.inl ⟨by rfl, ?_⟩) ⟨q6.out.c0, q6.out.c1, r6.out.c0, r6.out.c1, y6.out.c0, y6.out.c1⟩ (fun hc => ?_)
     rotate_left
     · intro W hSw
       (try dsimp only at hSw)
       go_simp
       (try with_reducible rfl)
     (try simp only [Act.put, List.setIfInBounds_toArray, List.set_cons_zero, List.set_cons_succ])
     refine AnyL.take (i := 3) (oi := { dst := some 47, op := Op.load 26 (Operand.tmp 5), type := 26, pos := "div.go:17", after := #[], guard := none }) (v := ?_) rfl (by kernel_rfl) (by kernel_rfl) (by kernel_rfl) (by kernel_rfl) (fun _ _ _ h => h) hc (Or.inl ⟨by rfl, ?_⟩) ⟨q6.out.c0, q6.out.c1, r6.out.c0, r6.out.c1, y6.out.c0, y6.out.c1⟩ (fun hc => ?_)
     rotate_left
     · intro W hSw
       (try dsimp only at hSw)
       go_simp
       (try with_reducible rfl)
     (try simp only [Act.put, List.setIfInBounds_toArray, List.set_cons_zero, List.set_cons_succ])
     refine AnyL.take (i := 4) (oi := { dst := some 48, op := Op.load 26 (Operand.tmp 3), type := 26, pos := "div.go:17", after := #[], guard := none }) (v := ?_) rfl (by kernel_rfl) (by kernel_rfl) (by kernel_rfl) (by kernel_rfl) (fun _ _ _ h => h) hc (Or.inl ⟨by rfl, ?_⟩) ⟨q6.out.c0, q6.out.c1, r6.out.c0, r6.out.c1, y6.out.c0, y6.out.c1⟩ (fun hc => ?_)
     rotate_left
     · intro W hSw
       (try dsimp only at hSw)
       go_simp
       (try with_reducible rfl)
     (try simp only [Act.put, List.setIfInBounds_toArray, List.set_cons_zero, List.set_cons_succ])
     clear hc
     refine AnyL.one (i := 1) (oi := { dst := some 45, op := Op.call { callee := Callee.value (Operand.func 49), args := #[Operand.const (Value.int IntKind.i64 1)], argTypes := #[2] }, type := 26, pos := "div.go:17", after := #[], guard := none }) (by kernel_rfl) rfl (by rfl) (fun KK hK => ?_)
     go_simp
     refine (of_z 1 _ (by omega) (by omega)).mono ?_
     rintro e w7 ⟨v7, rfl, z7, b7⟩
     have q7 := q6.out.next b7
     have r7 := r6.out.next b7
     have y7 := y6.out.next b7
     have zq7 := zq6.out.below b7
     have zr7 := zr6.out.below b7
     have k7 := hide (k6.out.call b7)
     go_wp2_with fail
     refine hK.out _ _ (fun _ => ⟨q7.c0, q7.c1, r7.c0, r7.c1, y7.c0, y7.c1⟩) ?_
     clear hK
     (try simp only [Act.put, List.setIfInBounds_toArray, List.set_cons_zero, List.set_cons_succ])
     refine AnyL.one (i := 2) (oi := { dst := some 46, op := Op.call { callee := Callee.value (Operand.func 75), args := #[Operand.tmp 44, Operand.tmp 45], argTypes := #[26, 26] }, type := 26, pos := "div.go:17", after := #[{ on := 0, ground := Ground.data }, { on := 1, ground := Ground.data }, { on := 1, ground := Ground.chain }], guard := none }) (by kernel_rfl) rfl (by rfl) (fun KK hK => ?_)
     go_simp
     refine (sub_z _ _ _ 1 (k + 2) _ (zq7.in_.mono (by omega)) (z7.in_.mono (by omega)) (by omega)).mono ?_
     rintro e w8 ⟨v8, rfl, z8, b8⟩
     have q8 := q7.next b8
     have r8 := r7.next b8
     have y8 := y7.next b8
     have zr8 := zr7.below b8
     have k8 := hide (k7.out.call b8)
     replace z8 := (z8.ofEq odd.out.1.symm).short hqs.out
     go_wp2_with fail
     refine hK.out _ _ (fun _ => ⟨q8.c0, q8.c1, r8.c0, r8.c1, y8.c0, y8.c1⟩) ?_
     clear hK
     (try simp only [Act.put, List.setIfInBounds_toArray, List.set_cons_zero, List.set_cons_succ])
     refine AnyL.one (i := 5) (oi := { dst := some 49, op := Op.call { callee := Callee.value (Operand.func 76), args := #[Operand.tmp 47, Operand.tmp 48], argTypes := #[26, 26] }, type := 26, pos := "div.go:17", after := #[{ on := 3, ground := Ground.data }, { on := 4, ground := Ground.data }, { on := 2, ground := Ground.chain }], guard := none }) (by kernel_rfl) rfl (by rfl) (fun KK hK => ?_)
     go_simp
     refine (add_z _ _ _ _ j _ zr8.in_ (hu0.below k8.out.old) (by omega)).mono ?_
     rintro e w9 ⟨v9, rfl, z9, b9⟩
     replace z8 := z8.below b9
     replace z9 := (z9.ofEq odd.out.2.symm).short hrs.out
     obtain ⟨s8, A8, n8, c8, rfl⟩ := z8.form
     obtain ⟨s9, A9, n9, c9, rfl⟩ := z9.form
     have k9 := hide (k8.out.call b9)
     have q9 := q8.next b9
     have r9 := r8.next b9
     have y9 := y8.next b9
     go_wp2_with fail
     refine hK.out _ _ (fun _ => ⟨q9.c0, q9.c1, r9.c0, r9.c1, y9.c0, y9.c1⟩) ?_
     clear hK
     (try simp only [Act.put, List.setIfInBounds_toArray, List.set_cons_zero, List.set_cons_succ])
     have q9a := q9.c0
     have q9b := q9.c1
     have q9c := q9.fr 0
     have q9d := q9.fr 1
     have r9a := r9.c0
     have r9b := r9.c1
     have r9c := r9.fr 0
     have r9d := r9.fr 1
     refine AnyL.one (i := 6) (oi := { dst := none, op := Op.store 26 (Operand.tmp 4) (Operand.tmp 46), type := 0, pos := "div.go:17", after := #[{ on := 2, ground := Ground.data }, { on := 5, ground := Ground.chain }, { on := 0, ground := Ground.phase }, { on := 1, ground := Ground.phase }, { on := 2, ground := Ground.phase }, { on := 3, ground := Ground.textOnly Departure.lateStores }, { on := 4, ground := Ground.textOnly Departure.lateStores }, { on := 5, ground := Ground.textOnly Departure.lateStoresUnsure }], guard := none }) (by kernel_rfl) rfl (by rfl) (fun KK hK => ?_)
     go_simp
     refine hK.out _ _ (fun h => absurd (by simp) h) ?_
     clear hK
     (try simp only [Act.put, List.setIfInBounds_toArray, List.set_cons_zero, List.set_cons_succ])
     refine AnyL.one (i := 7) (oi := { dst := none, op := Op.store 26 (Operand.tmp 5) (Operand.tmp 49), type := 0, pos := "div.go:17", after := #[{ on := 5, ground := Ground.data }, { on := 6, ground := Ground.chain }, { on := 0, ground := Ground.phase }, { on := 1, ground := Ground.phase }, { on := 2, ground := Ground.phase }, { on := 3, ground := Ground.phase }, { on := 4, ground := Ground.phase }, { on := 5, ground := Ground.phase }, { on := 6, ground := Ground.phase }], guard := none }) (by kernel_rfl) rfl (by rfl) (fun KK hK => ?_)
     go_simp
     refine hK.out _ _ (fun h => absurd (by simp) h) ?_
     clear hK
     (try simp only [Act.put, List.setIfInBounds_toArray, List.set_cons_zero, List.set_cons_succ])
     refine AnyL.done (by kernel_rfl) ?_
     simp only [st2_def]
     have q10 := (st_two (x := .bool s8) (y := .slice A8 n8 c8) (x' := .bool s9) (y' := .slice A9 n9 c9) q9 r9 (by omega)).1
     have r10 := (st_two (x := .bool s8) (y := .slice A8 n8 c8) (x' := .bool s9) (y' := .slice A9 n9 c9) q9 r9 (by omega)).2
     have z8 := zres_two (x := .bool s8) (y := .slice A8 n8 c8) (x' := .bool s9) (y' := .slice A9 n9 c9) z8 q9 r9 (by omega)
     have z9 := zres_two (x := .bool s8) (y := .slice A8 n8 c8) (x' := .bool s9) (y' := .slice A9 n9 c9) z9 q9 r9 (by omega)
     have K10 := (k9.out.st (g := w.heap.size + 1 + 1) (.bool s8) (.slice A8 n8 c8) (by omega)).st (g := w.heap.size + 1 + 1 + 1) (.bool s9) (.slice A9 n9 c9) (by omega)
     generalize st2 (st2 w9 (w.heap.size + 1 + 1) (.bool s8) (.slice A8 n8 c8)) (w.heap.size + 1 + 1 + 1) (.bool s9) (.slice A9 n9 c9) = W10 at *
     clear q9 r9 q8 r8 k7 k8 k9 k6 b7 b8 b9 zq7 zr7 zr8 q7 r7 q6 r6 z7 y7 y8 y9 y6 zq6 zr6 q9a q9b q9c q9d r9a r9b r9c r9d
     have q10a := q10.c0
     have q10b := q10.c1
     have q10c := q10.fr 0
     have q10d := q10.fr 1
     have r10a := r10.c0
     have r10b := r10.c1
     have r10c := r10.fr 0
     have r10d := r10.fr 1
     go_wp2_with fail
     go_region
     go_wp2_with fail
     simp only [st2_def]
     have q7 := st_two (x := .bool s8) (y := .slice A8 n8 c8) (x' := .bool s9) (y' := .slice A9 n9 c9) q10 r10 (by omega)
     have z7 := (zres_two (x := .bool s8) (y := .slice A8 n8 c8) (x' := .bool s9) (y' := .slice A9 n9 c9) z8 q10 r10 (by omega)).below (bl_drewN _ 1)
     have z8 := (zres_two (x := .bool s8) (y := .slice A8 n8 c8) (x' := .bool s9) (y' := .slice A9 n9 c9) z9 q10 r10 (by omega)).below (bl_drewN _ 1)
     exact bodyPost_zze rfl rfl rfl rfl q7.1.drew q7.2.drew rfl ⟨_, _, rfl, z7.ofEq rfl, z8.ofEq rfl, ((K10.st (g := w.heap.size + 1 + 1) (.bool s8) (.slice A8 n8 c8) (by omega)).st (g := w.heap.size + 1 + 1 + 1) (.bool s9) (.slice A9 n9 c9) (by omega)).old.drew⟩
end Go.Proofs.YtdeakieenppmiaaGreatDoor
/- zint: Ceil, Exact, Hat. -/
namespace Go.Proofs.YtdeakieenppmiaaGreatDoor
open Go.RowKit

def ZErr (k : Int) (w : World) (e : Ending) (w' : World) : Prop := e = .returned (.tuple #[.agg #[.bool false, .slice none 0 0], .int .i64 k]) ∧ Below w.heap.size w w'
def ZOk (Z : Int) (k : Nat) (w : World) (e : Ending) (w' : World) : Prop := ∃ v, e = .returned (.tuple #[v, .int .i64 0]) ∧ ZRes w' v Z k ∧ Below w.heap.size w w'

end Go.Proofs.YtdeakieenppmiaaGreatDoor
/- zint: Exact, Hat. -/
namespace Go.Proofs.YtdeakieenppmiaaGreatDoor
open Go.RowKit

end Go.Proofs.YtdeakieenppmiaaGreatDoor
/- zint: Hat. -/
namespace Go.Proofs.YtdeakieenppmiaaGreatDoor
open Go.RowKit

theorem ZRes.drew {w : World} {v : Value} {Z : Int} {k : Nat} (h : ZRes w v Z k) : ZRes w.drew v Z k := h.below (bl_drewN w 1)
end Go.Proofs.YtdeakieenppmiaaGreatDoor
