/- Texts of one seat, put together: Looking. -/
import Derived.Test.YtakcgkohnomgjaaGreatDoorE27
import Derived.Test.YtakcgkohnomgjaaGreatDoorE28
import Derived.Test.YtakcgkohnomgjaaGreatDoorE29
import Derived.Test.YtakcgkohnomgjaaGreatDoorE30
import Derived.Test.YtakcgkohnomgjaaGreatDoorE36
import Derived.Test.YtakcgkohnomgjaaGreatDoorE38
import Derived.Test.YtakcgkohnomgjaaGreatDoorE40
set_option linter.unusedVariables false
set_option linter.unusedSimpArgs false
/- plumblinelaw03.looking: the calls that look are alive. -/
namespace Go.Proofs.YtakcgkohnomgjaaGreatDoor
open Go.RowKit
open Tm

theorem ValsIn.two {w : World} {g m1 d1 m2 d2 k : Nat} {s1 s2 : Bool} {B1 B2 : Option Addr} {Z Y : Int} (x : Box 26 w g #[.bool s1, .slice B1 m1 d1, .bool s2, .slice B2 m2 d2]) (h1 : ZRes w (.agg #[.bool s1, .slice B1 m1 d1]) Z k) (h2 : ZRes w (.agg #[.bool s2, .slice B2 m2 d2]) Y k) :
    ValsIn w (some ⟨g, 0, none⟩) 2 [⟨s1, B1, m1, d1, Z⟩, ⟨s2, B2, m2, d2, Y⟩] k :=
  ⟨rfl, fun _ => ⟨g, 0, rfl, fun j u hu => by rw [Nat.zero_add]; exact x.cell j u (by simpa [flatI, IV.cells] using hu)⟩, fun p hp => by
    simp only [List.mem_cons, List.not_mem_nil, or_false] at hp
    rcases hp with rfl | rfl
    · exact h1.in_
    · exact h2.in_⟩
theorem cmp_lit {f : Nat} {args : Array Value} {w : World} {z : Int} (r : Int) (h : Calls Tryz.prog f args w (fun e w' => e = .returned (.int .i64 z) ∧ Below w.heap.size w w')) (hz : z = r) : Calls Tryz.prog f args w (fun e w' => e = .returned (.int .i64 r) ∧ Below w.heap.size w w') := hz ▸ h
theorem same_lit {f : Nat} {args : Array Value} {w : World} {z : Bool} (r : Bool) (h : Calls Tryz.prog f args w (BoolIs z w)) (hz : z = r) : Calls Tryz.prog f args w (fun e w' => e = .returned (.bool r) ∧ Below w.heap.size w w') := by subst hz; exact h
theorem text_example (v : Value) (g : Nat) (w : World) (hv : TIn w v (ofs [(-1)]) 2 2) (hx : Box 9 w g #[.string ⟨#[120]⟩]) : Calls Tryz.prog 46 #[v, .slice (some ⟨g, 0, none⟩) 1 1] w (fun e w' => e = .returned (.string ⟨#[45, 120, 32, 43, 32, 50]⟩) ∧ Below w.heap.size w w') := by
  have hE : textL (fun _ => [120]) (norm (ofs [(-1)])) 2 = [45, 120, 32, 43, 32, 50] := by decide +kernel
  have hN : norm (ofs [(-1)]) = [(0, -1)] := by decide
  have h := ttext_any v (ofs [(-1)]) 2 2 (some ⟨g, 0, none⟩) 1 1 (fun _ => [120]) w hv (by decide) (by decide) (fun p hp W hb => by
    rw [hN] at hp
    simp only [List.mem_cons, List.not_mem_nil, or_false] at hp
    subst hp
    exact name_in (some ⟨g, 0, none⟩) 1 1 0 [⟨#[120]⟩] ⟨#[120]⟩ W ⟨rfl, fun _ => ⟨g, 0, rfl, fun j s hs => by
      cases j with
      | zero => simp at hs; subst hs; exact (hx.below hb hx.lt).cell 0 _ rfl
      | succ j => simp at hs⟩⟩ (by decide) rfl) (by rw [hE]; decide)
  rw [hE] at h
  exact h
set_option maxRecDepth 100000 in
set_option maxHeartbeats 16000000 in
theorem looking_yes (w0 : World) : Calls Tryz.prog 8 #[] w0 (YesPost w0) := by
  have y1 := bl_alloc w0 (.cells #[.int .i64 4, .int .i64 (-6)] 2)
  have hx0 : IIn (w0.alloc (.cells #[.int .i64 4, .int .i64 (-6)] 2)) (some ⟨w0.heap.size, 0, none⟩) 2 [4, (-6)] := (Box.new 2 w0 (ints [4, (-6)]).toArray).ints
  have hof := lof_any 7 (some ⟨w0.heap.size, 0, none⟩) 2 2 [4, (-6)] _ hx0 (by decide) (by decide) (by decide) (by decide)
  have HB0 := hide y1
  clear hx0 y1
  go_enter Tryz.func8, Tryz.ntmps8
  go_wp2_with fail
  refine hof.mono ?_
  rintro e w1 ⟨v1, rfl, r1, b1⟩
  obtain ⟨At, nt, ct, st, Bt, mt, dt, rfl⟩ := r1.form
  obtain ⟨q0, a1, -⟩ := bstart1 28 w1 #[.slice At nt ct, .bool st, .slice Bt mt dt]
  have hsh := tshrink_any _ (ofs [4, (-6)]) 7 2 _ (r1.below a1).in_ (by decide) (by decide)
  have HR1 := hide (r1.below a1)
  have HB1 := hide ((HB0.out.next b1).next a1)
  have HQ0 := hide q0
  clear hof b1 r1 q0 a1
  go_wp2_with fail
  refine hsh.mono ?_
  rintro e w2 ⟨v2, u2, rfl, r2, z2, b2⟩
  obtain ⟨As, ns, cs, ss, Bs, ms, ds, rfl⟩ := r2.form
  obtain ⟨sg, Bg, mg, dg, rfl⟩ := z2.form
  obtain ⟨p0, p1, a2, -⟩ := bstart2 28 26 w2 #[.slice As ns cs, .bool ss, .slice Bs ms ds] #[.bool sg, .slice Bg mg dg]
  have HS2 := hide ((TRes.ofEq r2 (show quot (content (ofs [4, (-6)])) (norm (ofs [4, (-6)])) = ofs [2, (-3)] by decide +kernel) (show shrK (ofs [4, (-6)]) 7 = 3 by decide +kernel)).below a2)
  have HG2 := hide ((z2.ofEq (show content (ofs [4, (-6)]) = 2 by decide +kernel)).below a2)
  have HR2 := hide ((HR1.out.below b2).below a2)
  have HQ2 := hide ((HQ0.out.next b2).next a2)
  have HP0 := hide p0
  have HP1 := hide p1
  have HB2 := hide ((HB1.out.next b2).next a2)
  have hvr := tvars_any _ (ofs [4, (-6)]) 7 2 _ HR2.out.in_ (by decide) (by decide)
  rw [show vars (ofs [4, (-6)]) = [0, 1] by decide] at hvr
  have m0 := HQ2.out.c0
  have m1 := HQ2.out.c1
  have m2 := HQ2.out.c2
  clear hsh b2 r2 z2 p0 p1 a2
  go_wp2_with fail
  refine hvr.mono ?_
  rintro e w3 ⟨Av, cv, rfl, iv, -, -, b3⟩
  obtain ⟨bv, ov, rfl, hv⟩ := iv.2 (by decide)
  have hv1 : w3.cell? ⟨bv, ov + 1, none⟩ = some (.int .i64 1) := hv 1 _ rfl
  have hbv := World.block_lt_of_cell? _ _ hv1
  have HV1 := hide hv1
  have HT := hide (HR2.out.below b3)
  have HS3 := hide (HS2.out.below b3)
  have HG3 := hide (HG2.out.below b3)
  have X0 := hide (HQ2.out.next b3)
  have Y0 := hide (HP0.out.next b3)
  have Y1 := hide (HP1.out.next b3)
  have HB3 := hide (HB2.out.next b3)
  have SOF := hide (show ∀ W, Below w3.heap.size w3 W → (W.cell? ⟨w1.heap.size, 0, none⟩ = some (.slice At nt ct) ∧ W.cell? ⟨w1.heap.size, 1, none⟩ = some (.bool st) ∧ W.cell? ⟨w1.heap.size, 2, none⟩ = some (.slice Bt mt dt)) from fun W h => ⟨(X0.out.next h).c0, (X0.out.next h).c1, (X0.out.next h).c2⟩)
  clear hvr iv hv hv1 m0 m1 m2 b3
  simp only [List.length_cons, List.length_nil, Nat.zero_add, Nat.reduceAdd]
  go_wp2_with fail
  refine wp_drawnL (by kernel_rfl) (by kernel_rfl) (by kernel_rfl) (by kernel_rfl) (fun w w' => Below w.heap.size w w') (fun j v w => match j with | 0 => v = .agg #[.slice At nt ct, .bool st, .slice Bt mt dt] | 1 => ZRes w v 1 2 | 2 => ZRes w v 2 2 | 3 => ∃ g s1 B1 m1 d1 s2 B2 m2 d2, v = .slice (some ⟨g, 0, none⟩) 2 2 ∧ Box 26 w g #[.bool s1, .slice B1 m1 d1, .bool s2, .slice B2 m2 d2] ∧ ZRes w (.agg #[.bool s1, .slice B1 m1 d1]) 1 2 ∧ ZRes w (.agg #[.bool s2, .slice B2 m2 d2]) 2 2 | 4 => ZRes w v (-1) 6 | 5 => ∃ g, v = .pointer (some ⟨g, 0, none⟩) ∧ w3.heap.size ≤ g ∧ Box 26 w g #[.bool false, .slice none 0 0] | _ => True) (fun _ _ w => Below w3.heap.size w3 w) ?_ (fun _ => bl_drewN w3 1) ?_ ?_
  · intro j v w w' hT h
    match j, h with
    | 0, h => exact h
    | 1, h => exact h.below hT
    | 2, h => exact h.below hT
    | 3, h => exact (by obtain ⟨g, s1, B1, m1, d1, s2, B2, m2, d2, e, h1, h2, h3⟩ := h; exact ⟨g, s1, B1, m1, d1, s2, B2, m2, d2, e, h1.next hT, h2.below hT, h3.below hT⟩)
    | 4, h => exact h.below hT
    | 5, h => exact (by obtain ⟨g, e, h1, h2⟩ := h; exact ⟨g, e, h1, h2.next hT⟩)
    | j + 6, h => trivial
  · refine ⟨?_, ?_, ?_, ?_, ?_, ?_, trivial⟩
    · intro listed σ w a hin hout hl hla hs hc hp hG hF
      refine Guarded.none rfl ?_
      have e1 : a.tmps.getD 1 undef = .pointer (some ⟨w1.heap.size, 0, none⟩) := hout 1 (outB_spec (by kernel_rfl))
      have CC := SOF.out w hG; obtain ⟨C0, C1, C2⟩ := CC
      refine Does.val (.agg #[.slice At nt ct, .bool st, .slice Bt mt dt]) (w' := w) ?_ ⟨Below.refl _ _, rfl, hG⟩
      go_simp
    · intro listed σ w a hin hout hl hla hs hc hp hG hF
      refine Guarded.none rfl ?_
      refine Does.call ?_ (rof_z 1 w (by decide) (by decide)) ?_
      · go_simp
      · rintro e w' ⟨v, rfl, z, hb⟩
        exact ⟨_, rfl, hb, z, hG.next hb⟩
    · intro listed σ w a hin hout hl hla hs hc hp hG hF
      refine Guarded.none rfl ?_
      refine Does.call ?_ (rof_z 2 w (by decide) (by decide)) ?_
      · go_simp
      · rintro e w' ⟨v, rfl, z, hb⟩
        exact ⟨_, rfl, hb, z, hG.next hb⟩
    · intro listed σ w a hin hout hl hla hs hc hp hG hF
      refine Guarded.none rfl ?_
      have e16 := hin 1 16 rfl (hp ⟨1, .data⟩ (by simp) rfl)
      have z1 := hF 1 (hp ⟨1, .data⟩ (by simp) rfl)
      have e17 := hin 2 17 rfl (hp ⟨2, .data⟩ (by simp) rfl)
      have z2 := hF 2 (hp ⟨2, .data⟩ (by simp) rfl)
      obtain ⟨s1, B1, m1, d1, ev1⟩ := ZRes.form z1
      obtain ⟨s2, B2, m2, d2, ev2⟩ := ZRes.form z2
      rw [ev1] at e16 z1
      rw [ev2] at e17 z2
      refine Does.val (.slice (some ⟨w.heap.size, 0, none⟩) 2 2) (w' := w.alloc (.cells #[.bool s1, .slice B1 m1 d1, .bool s2, .slice B2 m2 d2] 26)) ?_ ⟨bl_alloc w _, ⟨w.heap.size, s1, B1, m1, d1, s2, B2, m2, d2, rfl, Box.new _ _ _, z1.below (bl_alloc w _), z2.below (bl_alloc w _)⟩, hG.next (bl_alloc w _)⟩
      simp only [Array.getD_eq_getD_getElem?] at e16 e17
      go_simp
    · intro listed σ w a hin hout hl hla hs hc hp hG hF
      refine Guarded.none rfl ?_
      have e15 : a.tmps.getD 15 undef = .agg #[.slice At nt ct, .bool st, .slice Bt mt dt] := (hin 0 15 rfl (hp ⟨0, .data⟩ (by simp) rfl)).trans (hF 0 (hp ⟨0, .data⟩ (by simp) rfl))
      have e18 := hin 3 18 rfl (hp ⟨3, .data⟩ (by simp) rfl)
      obtain ⟨g3, s1, B1, m1, d1, s2, B2, m2, d2, ev3, x3, z31, z32⟩ := hF 3 (hp ⟨3, .data⟩ (by simp) rfl)
      rw [ev3] at e18
      refine Does.call ?_ (tvalue_any _ (ofs [4, (-6)]) 7 2 2 (some ⟨g3, 0, none⟩) 2 2 [⟨s1, B1, m1, d1, 1⟩, ⟨s2, B2, m2, d2, 2⟩] w (HT.out.below hG).in_ (ValsIn.two x3 z31 z32) (by decide) (by decide) (by decide) (by decide)) ?_
      · go_simp
      · rintro e w' ⟨v, rfl, z, hb⟩
        exact ⟨_, rfl, hb, ((show ZRes _ _ (7 + val [1, 2] (ofs [4, (-6)])) 6 from z).ofEq (by decide)), hG.next hb⟩
    · intro listed σ w a hin hout hl hla hs hc hp hG hF
      refine Guarded.none rfl ?_
      refine Does.val (.pointer (some ⟨w.heap.size, 0, none⟩)) (w' := w.alloc (.cells #[.bool false, .slice none 0 0] 26)) ?_ ⟨bl_alloc w _, ⟨w.heap.size, rfl, hG.size, Box.new _ _ _⟩, hG.next (bl_alloc w _)⟩
      go_simp
  · intro o ho
    injection ho with ho; subst ho
    intro listed σ w a hall hin hout hG hF
    refine Guarded.none rfl ?_
    have e5 := hin 5 5 rfl (by decide)
    obtain ⟨g5, ev5, hg5, x5⟩ := hF 5 (by decide)
    rw [ev5] at e5
    have e19 := hin 4 19 rfl (by decide)
    have z4 := hF 4 (by decide)
    have z4 := hF 4 (by decide)
    obtain ⟨s5, B5, m5, d5, ev4⟩ := ZRes.form z4
    rw [ev4] at e19 z4
    refine Does.store_box (T := 26) (cells := #[.bool s5, .slice B5 m5 d5]) rfl e5 e19 x5 (by kernel_rfl) rfl (by simp [Value.oneCell']) (fun w5 x9 o9 => ?_)
    rw [show fin _ σ undef _ = (Act.put (Act.put (Act.put (Act.put (Act.put (Act.put (Act.put _ (some 15) (σ 0)) (some 16) (σ 1)) (some 17) (σ 2)) (some 18) (σ 3)) (some 19) (σ 4)) (some 5) (σ 5)) none undef) from (fin_all hall).trans rfl]
    simp only [Act.put, List.setIfInBounds_toArray, List.set_cons_zero, List.set_cons_succ]
    rw [ev5]
    have b5 : Below w3.heap.size w3 w5 := hG.trans (o9.below hG.size hg5)
    have H5 := hide (z4.only (show Blk _ g5 #[.bool false, .slice none 0 0] from x5) o9)
    generalize σ 0 = tt0; generalize σ 1 = tt1; generalize σ 2 = tt2; generalize σ 3 = tt3; generalize σ 4 = tt4
    have HT := hide (HT.out.below b5)
    have HS := hide (HS3.out.below b5)
    have HGG := hide (HG3.out.below b5)
    have HB5 := hide (HB3.out.next b5)
    have X9 := hide x9
    have HX := hide (X0.out.next b5)
    have HY := hide (Y0.out.next b5)
    have HZ := hide (Y1.out.next b5)
    have hbv5 := Nat.lt_of_lt_of_le hbv b5.size
    have HV5 := hide ((b5.cell (p := ⟨bv, ov + 1, none⟩) hbv).trans HV1.out)
    clear hF hG hall hin hout SOF e5 e19 z4 x5 x9 o9 ev4 ev5 b5 HS3 HG3 HB3 X0 Y0 Y1
    have SOF := hide (show ∀ W, Below w5.heap.size w5 W → (W.cell? ⟨w1.heap.size, 0, none⟩ = some (.slice At nt ct) ∧ W.cell? ⟨w1.heap.size, 1, none⟩ = some (.bool st) ∧ W.cell? ⟨w1.heap.size, 2, none⟩ = some (.slice Bt mt dt) ∧ W.cell? ⟨w2.heap.size, 0, none⟩ = some (.slice As ns cs) ∧ W.cell? ⟨w2.heap.size, 1, none⟩ = some (.bool ss) ∧ W.cell? ⟨w2.heap.size, 2, none⟩ = some (.slice Bs ms ds) ∧ W.cell? ⟨w2.heap.size + 1, 0, none⟩ = some (.bool sg) ∧ W.cell? ⟨w2.heap.size + 1, 1, none⟩ = some (.slice Bg mg dg) ∧ W.cell? ⟨g5, 0, none⟩ = some (.bool s5) ∧ W.cell? ⟨g5, 1, none⟩ = some (.slice B5 m5 d5) ∧ W.cell? ⟨bv, ov + 1, none⟩ = some (.int .i64 1)) from fun W h => ⟨(HX.out.next h).c0, (HX.out.next h).c1, (HX.out.next h).c2, (HY.out.next h).c0, (HY.out.next h).c1, (HY.out.next h).c2, Blk.c0 (HZ.out.next h), Blk.c1 (HZ.out.next h), Blk.c0 (X9.out.next h), Blk.c1 (X9.out.next h), (h.cell (p := ⟨bv, ov + 1, none⟩) hbv5).trans HV5.out⟩)
    go_wp2_with fail
    (try simp only [List.append_eq, List.cons_append, List.nil_append])
    refine wp_drawn (by kernel_rfl) (by kernel_rfl) (by kernel_rfl) (fun w w' => Below w.heap.size w w') (fun j v w => match j with | 0 => v = .agg #[.slice As ns cs, .bool ss, .slice Bs ms ds] | 1 => ∃ g, v = .slice (some ⟨g, 0, none⟩) 2 2 ∧ Box 2 w g (ints [2, (-3)]).toArray | 2 => TRes w v (ofs [2, (-3)]) 3 2 | 3 => v = .bool true | 4 => v = .bool true | 5 => v = .agg #[.bool sg, .slice Bg mg dg] | 6 => ZRes w v 2 2 | 7 => v = .bool true | 8 => v = .bool true | 9 => v = .bool true | 10 => v = .slice (some ⟨bv, ov, none⟩) 2 cv | 11 => v = .int .i64 2 | 12 => v = .bool true | 13 => v = .bool true | 14 => v = .bool true | 15 => v = .slice (some ⟨bv, ov, none⟩) 2 cv | 16 => v = .pointer (some ⟨bv, ov + 1, none⟩) | 17 => v = .int .i64 1 | 18 => v = .bool true | 19 => v = .bool true | 20 => v = .bool true | 21 => v = .agg #[.slice At nt ct, .bool st, .slice Bt mt dt] | 22 => v = .bool true | 23 => v = .bool true | 24 => v = .bool true | 25 => v = .agg #[.slice At nt ct, .bool st, .slice Bt mt dt] | 26 => v = .bool false | 27 => v = .bool true | 28 => v = .bool true | 29 => v = .bool true | 30 => v = .agg #[.slice At nt ct, .bool st, .slice Bt mt dt] | 31 => ZRes w v (-6) 4 | 32 => ZRes w v (-6) 2 | 33 => v = .bool true | 34 => v = .bool true | 35 => v = .bool true | 36 => v = .agg #[.slice At nt ct, .bool st, .slice Bt mt dt] | 37 => TRes w v (ofs [4]) 7 1010002 | 38 => ∃ g, v = .slice (some ⟨g, 0, none⟩) 1 1 ∧ Box 2 w g (ints [4]).toArray | 39 => TRes w v (ofs [4]) 7 2 | 40 => v = .bool true | 41 => v = .bool true | 42 => v = .bool true | 43 => v = .agg #[.bool s5, .slice B5 m5 d5] | 44 => ZRes w v (-1) 2 | 45 => v = .bool true | 46 => v = .bool true | 47 => v = .bool true | 48 => v = .agg #[.slice At nt ct, .bool st, .slice Bt mt dt] | 49 => ZRes w v 2 4 | 50 => ZRes w v 2 2 | 51 => v = .bool true | 52 => v = .bool true | 53 => v = .bool true | 54 => v = .agg #[.slice At nt ct, .bool st, .slice Bt mt dt] | 55 => v = .agg #[.slice At nt ct, .bool st, .slice Bt mt dt] | 56 => v = .int .i64 0 | 57 => v = .bool true | 58 => v = .bool true | 59 => v = .bool true | 60 => v = .agg #[.slice At nt ct, .bool st, .slice Bt mt dt] | 61 => v = .agg #[.slice At nt ct, .bool st, .slice Bt mt dt] | 62 => v = .bool true | 63 => v = .bool true | 64 => v = .bool true | 65 => TRes w v (ofs []) 1 2 | 66 => TRes w v (ofs []) 2 2 | 67 => v = .int .i64 (-1) | 68 => v = .bool true | 69 => v = .bool true | 70 => v = .bool true | 71 => ∃ g, v = .slice (some ⟨g, 0, none⟩) 1 1 ∧ Box 2 w g (ints [(-1)]).toArray | 72 => TRes w v (ofs [(-1)]) 2 2 | 73 => ∃ g, v = .slice (some ⟨g, 0, none⟩) 1 1 ∧ Box 9 w g #[.string ⟨#[120]⟩] | 74 => v = .string ⟨#[45, 120, 32, 43, 32, 50]⟩ | 75 => v = .bool true | 76 => v = .bool true | 77 => v = .bool true | 78 => v = .string ⟨#[118, 51]⟩ | 79 => v = .bool true | 80 => v = .bool true | 81 => v = .bool true | _ => True) (fun _ _ w => Below w5.heap.size w5 w) ?_ (fun _ => bl_drewN w5 1) ?_ ?_
    · intro j v w w' hT h
      match j, h with
      | 0, h => exact h
      | 1, h => exact (by obtain ⟨g, e, h1⟩ := h; exact ⟨g, e, h1.next hT⟩)
      | 2, h => exact h.below hT
      | 3, h => exact h
      | 4, h => exact h
      | 5, h => exact h
      | 6, h => exact h.below hT
      | 7, h => exact h
      | 8, h => exact h
      | 9, h => exact h
      | 10, h => exact h
      | 11, h => exact h
      | 12, h => exact h
      | 13, h => exact h
      | 14, h => exact h
      | 15, h => exact h
      | 16, h => exact h
      | 17, h => exact h
      | 18, h => exact h
      | 19, h => exact h
      | 20, h => exact h
      | 21, h => exact h
      | 22, h => exact h
      | 23, h => exact h
      | 24, h => exact h
      | 25, h => exact h
      | 26, h => exact h
      | 27, h => exact h
      | 28, h => exact h
      | 29, h => exact h
      | 30, h => exact h
      | 31, h => exact h.below hT
      | 32, h => exact h.below hT
      | 33, h => exact h
      | 34, h => exact h
      | 35, h => exact h
      | 36, h => exact h
      | 37, h => exact h.below hT
      | 38, h => exact (by obtain ⟨g, e, h1⟩ := h; exact ⟨g, e, h1.next hT⟩)
      | 39, h => exact h.below hT
      | 40, h => exact h
      | 41, h => exact h
      | 42, h => exact h
      | 43, h => exact h
      | 44, h => exact h.below hT
      | 45, h => exact h
      | 46, h => exact h
      | 47, h => exact h
      | 48, h => exact h
      | 49, h => exact h.below hT
      | 50, h => exact h.below hT
      | 51, h => exact h
      | 52, h => exact h
      | 53, h => exact h
      | 54, h => exact h
      | 55, h => exact h
      | 56, h => exact h
      | 57, h => exact h
      | 58, h => exact h
      | 59, h => exact h
      | 60, h => exact h
      | 61, h => exact h
      | 62, h => exact h
      | 63, h => exact h
      | 64, h => exact h
      | 65, h => exact h.below hT
      | 66, h => exact h.below hT
      | 67, h => exact h
      | 68, h => exact h
      | 69, h => exact h
      | 70, h => exact h
      | 71, h => exact (by obtain ⟨g, e, h1⟩ := h; exact ⟨g, e, h1.next hT⟩)
      | 72, h => exact h.below hT
      | 73, h => exact (by obtain ⟨g, e, h1⟩ := h; exact ⟨g, e, h1.next hT⟩)
      | 74, h => exact h
      | 75, h => exact h
      | 76, h => exact h
      | 77, h => exact h
      | 78, h => exact h
      | 79, h => exact h
      | 80, h => exact h
      | 81, h => exact h
      | j + 82, h => trivial
    · refine ⟨?_, ?_, ?_, ?_, ?_, ?_, ?_, ?_, ?_, ?_, ?_, ?_, ?_, ?_, ?_, ?_, ?_, ?_, ?_, ?_, ?_, ?_, ?_, ?_, ?_, ?_, ?_, ?_, ?_, ?_, ?_, ?_, ?_, ?_, ?_, ?_, ?_, ?_, ?_, ?_, ?_, ?_, ?_, ?_, ?_, ?_, ?_, ?_, ?_, ?_, ?_, ?_, ?_, ?_, ?_, ?_, ?_, ?_, ?_, ?_, ?_, ?_, ?_, ?_, ?_, ?_, ?_, ?_, ?_, ?_, ?_, ?_, ?_, ?_, ?_, ?_, ?_, ?_, ?_, ?_, ?_, ?_, trivial⟩
      · intro listed σ w a hin hout hl hc hp hG hF
        refine Guarded.none rfl ?_
        have e2 : a.tmps.getD 2 undef = .pointer (some ⟨w2.heap.size, 0, none⟩) := hout 2 (outB_spec (by kernel_rfl))
        have CC := SOF.out w hG; obtain ⟨C0, C1, C2, D0, D1, D2, E0, E1, F0, F1, V1⟩ := CC
        refine Does.val (.agg #[.slice As ns cs, .bool ss, .slice Bs ms ds]) (w' := w) ?_ ⟨Below.refl _ _, rfl, hG⟩
        go_simp
      · intro listed σ w a hin hout hl hc hp hG hF
        refine Guarded.none rfl ?_
        refine Does.val (.slice (some ⟨w.heap.size, 0, none⟩) 2 2) (w' := w.alloc (.cells #[.int .i64 2, .int .i64 (-3)] 2)) ?_ ⟨bl_alloc w _, ⟨w.heap.size, rfl, Box.new _ _ _⟩, hG.next (bl_alloc w _)⟩
        go_simp
      · intro listed σ w a hin hout hl hc hp hG hF
        refine Guarded.none rfl ?_
        have e21 := hin 1 21 rfl (hp ⟨1, .data⟩ (by simp) rfl)
        obtain ⟨g1, ev1, x1⟩ := hF 1 (hp ⟨1, .data⟩ (by simp) rfl)
        rw [ev1] at e21
        refine Does.call ?_ (lof_any 3 (some ⟨g1, 0, none⟩) 2 2 [2, (-3)] w x1.ints (by decide) (by decide) (by decide) (by decide)) ?_
        · go_simp
        · rintro e w' ⟨v, rfl, z, hb⟩
          exact ⟨_, rfl, hb, z, hG.next hb⟩
      · intro listed σ w a hin hout hl hc hp hG hF
        refine Guarded.none rfl ?_
        have e20 : a.tmps.getD 20 undef = .agg #[.slice As ns cs, .bool ss, .slice Bs ms ds] := (hin 0 20 rfl (hp ⟨0, .data⟩ (by simp) rfl)).trans (hF 0 (hp ⟨0, .data⟩ (by simp) rfl))
        have e22 := hin 2 22 rfl (hp ⟨2, .data⟩ (by simp) rfl)
        have z2 := hF 2 (hp ⟨2, .data⟩ (by simp) rfl)
        refine Does.call ?_ (lsame_yes _ _ (ofs [2, (-3)]) (3) 4 2 w (HS.out.below hG) (z2) (by decide +kernel) (by decide +kernel) (by decide)) ?_
        · go_simp
        · rintro e w' ⟨rfl, hb⟩
          exact ⟨_, rfl, hb, rfl, hG.next hb⟩
      · intro listed σ w a hin hout hl hc hp hG hF
        refine Guarded.none rfl ?_
        have e23 : a.tmps.getD 23 undef = .bool true := (hin 3 23 rfl (hp ⟨3, .data⟩ (by simp) rfl)).trans (hF 3 (hp ⟨3, .data⟩ (by simp) rfl))
        refine Does.val (.bool true) (w' := w) ?_ ⟨Below.refl _ _, rfl, hG⟩
        simp only [Array.getD_eq_getD_getElem?] at e23
        go_simp
      · intro listed σ w a hin hout hl hc hp hG hF
        refine Guarded.some (d := 24) (b := true) rfl rfl ((hin 4 24 rfl (hp ⟨4, .guard⟩ (by simp) rfl)).trans (hF 4 (hp ⟨4, .guard⟩ (by simp) rfl))) ?_
        refine Or.inl ⟨rfl, ?_⟩
        have e3 : a.tmps.getD 3 undef = .pointer (some ⟨w2.heap.size + 1, 0, none⟩) := hout 3 (outB_spec (by kernel_rfl))
        have CC := SOF.out w hG; obtain ⟨C0, C1, C2, D0, D1, D2, E0, E1, F0, F1, V1⟩ := CC
        refine Does.val (.agg #[.bool sg, .slice Bg mg dg]) (w' := w) ?_ ⟨Below.refl _ _, rfl, hG⟩
        go_simp
      · intro listed σ w a hin hout hl hc hp hG hF
        refine Guarded.some (d := 24) (b := true) rfl rfl ((hin 4 24 rfl (hp ⟨4, .guard⟩ (by simp) rfl)).trans (hF 4 (hp ⟨4, .guard⟩ (by simp) rfl))) ?_
        refine Or.inl ⟨rfl, ?_⟩
        refine Does.call ?_ (rof_z 2 w (by decide) (by decide)) ?_
        · go_simp
        · rintro e w' ⟨v, rfl, z, hb⟩
          exact ⟨_, rfl, hb, z, hG.next hb⟩
      · intro listed σ w a hin hout hl hc hp hG hF
        refine Guarded.some (d := 24) (b := true) rfl rfl ((hin 4 24 rfl (hp ⟨4, .guard⟩ (by simp) rfl)).trans (hF 4 (hp ⟨4, .guard⟩ (by simp) rfl))) ?_
        refine Or.inl ⟨rfl, ?_⟩
        have e25 : a.tmps.getD 25 undef = .agg #[.bool sg, .slice Bg mg dg] := (hin 5 25 rfl (hp ⟨5, .data⟩ (by simp) rfl)).trans (hF 5 (hp ⟨5, .data⟩ (by simp) rfl))
        have e26 := hin 6 26 rfl (hp ⟨6, .data⟩ (by simp) rfl)
        have z6 := hF 6 (hp ⟨6, .data⟩ (by simp) rfl)
        refine Does.call ?_ (zsame_yes _ _ 2 4 2 w (HGG.out.below hG) z6) ?_
        · go_simp
        · rintro e w' ⟨rfl, hb⟩
          exact ⟨_, rfl, hb, rfl, hG.next hb⟩
      · intro listed σ w a hin hout hl hc hp hG hF
        refine Guarded.none rfl ?_
        have e24 : a.tmps.getD 24 undef = .bool true := (hin 4 24 rfl (hp ⟨4, .data⟩ (by simp) rfl)).trans (hF 4 (hp ⟨4, .data⟩ (by simp) rfl))
        have e27 : a.tmps.getD 27 undef = .bool true := (hin 7 27 rfl (hp ⟨7, .data⟩ (by simp) rfl)).trans (hF 7 (hp ⟨7, .data⟩ (by simp) rfl))
        refine Does.val (.bool true) (w' := w) ?_ ⟨Below.refl _ _, rfl, hG⟩
        simp only [Array.getD_eq_getD_getElem?] at e24 e27
        go_simp
      · intro listed σ w a hin hout hl hc hp hG hF
        refine Guarded.none rfl ?_
        have e28 : a.tmps.getD 28 undef = .bool true := (hin 8 28 rfl (hp ⟨8, .data⟩ (by simp) rfl)).trans (hF 8 (hp ⟨8, .data⟩ (by simp) rfl))
        refine Does.val (.bool true) (w' := w) ?_ ⟨Below.refl _ _, rfl, hG⟩
        simp only [Array.getD_eq_getD_getElem?] at e28
        go_simp
      · intro listed σ w a hin hout hl hc hp hG hF
        refine Guarded.some (d := 29) (b := true) rfl rfl ((hin 9 29 rfl (hp ⟨9, .guard⟩ (by simp) rfl)).trans (hF 9 (hp ⟨9, .guard⟩ (by simp) rfl))) ?_
        refine Or.inl ⟨rfl, ?_⟩
        have e4 : a.tmps.getD 4 undef = .slice (some ⟨bv, ov, none⟩) 2 cv := hout 4 (outB_spec (by kernel_rfl))
        refine Does.val (.slice (some ⟨bv, ov, none⟩) 2 cv) (w' := w) ?_ ⟨Below.refl _ _, rfl, hG⟩
        simp only [Array.getD_eq_getD_getElem?] at e4
        go_simp
      · intro listed σ w a hin hout hl hc hp hG hF
        refine Guarded.some (d := 29) (b := true) rfl rfl ((hin 9 29 rfl (hp ⟨9, .guard⟩ (by simp) rfl)).trans (hF 9 (hp ⟨9, .guard⟩ (by simp) rfl))) ?_
        refine Or.inl ⟨rfl, ?_⟩
        have e30 : a.tmps.getD 30 undef = .slice (some ⟨bv, ov, none⟩) 2 cv := (hin 10 30 rfl (hp ⟨10, .data⟩ (by simp) rfl)).trans (hF 10 (hp ⟨10, .data⟩ (by simp) rfl))
        refine Does.val (.int .i64 2) (w' := w) ?_ ⟨Below.refl _ _, rfl, hG⟩
        simp only [Array.getD_eq_getD_getElem?] at e30
        go_simp
      · intro listed σ w a hin hout hl hc hp hG hF
        refine Guarded.some (d := 29) (b := true) rfl rfl ((hin 9 29 rfl (hp ⟨9, .guard⟩ (by simp) rfl)).trans (hF 9 (hp ⟨9, .guard⟩ (by simp) rfl))) ?_
        refine Or.inl ⟨rfl, ?_⟩
        have e31 : a.tmps.getD 31 undef = .int .i64 2 := (hin 11 31 rfl (hp ⟨11, .data⟩ (by simp) rfl)).trans (hF 11 (hp ⟨11, .data⟩ (by simp) rfl))
        refine Does.val (.bool true) (w' := w) ?_ ⟨Below.refl _ _, rfl, hG⟩
        simp only [Array.getD_eq_getD_getElem?] at e31
        go_simp
      · intro listed σ w a hin hout hl hc hp hG hF
        refine Guarded.none rfl ?_
        have e29 : a.tmps.getD 29 undef = .bool true := (hin 9 29 rfl (hp ⟨9, .data⟩ (by simp) rfl)).trans (hF 9 (hp ⟨9, .data⟩ (by simp) rfl))
        have e32 : a.tmps.getD 32 undef = .bool true := (hin 12 32 rfl (hp ⟨12, .data⟩ (by simp) rfl)).trans (hF 12 (hp ⟨12, .data⟩ (by simp) rfl))
        refine Does.val (.bool true) (w' := w) ?_ ⟨Below.refl _ _, rfl, hG⟩
        simp only [Array.getD_eq_getD_getElem?] at e29 e32
        go_simp
      · intro listed σ w a hin hout hl hc hp hG hF
        refine Guarded.none rfl ?_
        have e33 : a.tmps.getD 33 undef = .bool true := (hin 13 33 rfl (hp ⟨13, .data⟩ (by simp) rfl)).trans (hF 13 (hp ⟨13, .data⟩ (by simp) rfl))
        refine Does.val (.bool true) (w' := w) ?_ ⟨Below.refl _ _, rfl, hG⟩
        simp only [Array.getD_eq_getD_getElem?] at e33
        go_simp
      · intro listed σ w a hin hout hl hc hp hG hF
        refine Guarded.some (d := 34) (b := true) rfl rfl ((hin 14 34 rfl (hp ⟨14, .guard⟩ (by simp) rfl)).trans (hF 14 (hp ⟨14, .guard⟩ (by simp) rfl))) ?_
        refine Or.inl ⟨rfl, ?_⟩
        have e4 : a.tmps.getD 4 undef = .slice (some ⟨bv, ov, none⟩) 2 cv := hout 4 (outB_spec (by kernel_rfl))
        refine Does.val (.slice (some ⟨bv, ov, none⟩) 2 cv) (w' := w) ?_ ⟨Below.refl _ _, rfl, hG⟩
        simp only [Array.getD_eq_getD_getElem?] at e4
        go_simp
      · intro listed σ w a hin hout hl hc hp hG hF
        refine Guarded.some (d := 34) (b := true) rfl rfl ((hin 14 34 rfl (hp ⟨14, .guard⟩ (by simp) rfl)).trans (hF 14 (hp ⟨14, .guard⟩ (by simp) rfl))) ?_
        refine Or.inl ⟨rfl, ?_⟩
        have e35 : a.tmps.getD 35 undef = .slice (some ⟨bv, ov, none⟩) 2 cv := (hin 15 35 rfl (hp ⟨15, .data⟩ (by simp) rfl)).trans (hF 15 (hp ⟨15, .data⟩ (by simp) rfl))
        refine Does.val (.pointer (some ⟨bv, ov + 1, none⟩)) (w' := w) ?_ ⟨Below.refl _ _, rfl, hG⟩
        simp only [Array.getD_eq_getD_getElem?] at e35
        go_simp
        (try (intro hh; exfalso; omega))
      · intro listed σ w a hin hout hl hc hp hG hF
        refine Guarded.some (d := 34) (b := true) rfl rfl ((hin 14 34 rfl (hp ⟨14, .guard⟩ (by simp) rfl)).trans (hF 14 (hp ⟨14, .guard⟩ (by simp) rfl))) ?_
        refine Or.inl ⟨rfl, ?_⟩
        have e36 : a.tmps.getD 36 undef = .pointer (some ⟨bv, ov + 1, none⟩) := (hin 16 36 rfl (hp ⟨16, .data⟩ (by simp) rfl)).trans (hF 16 (hp ⟨16, .data⟩ (by simp) rfl))
        have CC := SOF.out w hG; obtain ⟨C0, C1, C2, D0, D1, D2, E0, E1, F0, F1, V1⟩ := CC
        refine Does.val (.int .i64 1) (w' := w) ?_ ⟨Below.refl _ _, rfl, hG⟩
        go_simp
      · intro listed σ w a hin hout hl hc hp hG hF
        refine Guarded.some (d := 34) (b := true) rfl rfl ((hin 14 34 rfl (hp ⟨14, .guard⟩ (by simp) rfl)).trans (hF 14 (hp ⟨14, .guard⟩ (by simp) rfl))) ?_
        refine Or.inl ⟨rfl, ?_⟩
        have e37 : a.tmps.getD 37 undef = .int .i64 1 := (hin 17 37 rfl (hp ⟨17, .data⟩ (by simp) rfl)).trans (hF 17 (hp ⟨17, .data⟩ (by simp) rfl))
        refine Does.val (.bool true) (w' := w) ?_ ⟨Below.refl _ _, rfl, hG⟩
        simp only [Array.getD_eq_getD_getElem?] at e37
        go_simp
      · intro listed σ w a hin hout hl hc hp hG hF
        refine Guarded.none rfl ?_
        have e34 : a.tmps.getD 34 undef = .bool true := (hin 14 34 rfl (hp ⟨14, .data⟩ (by simp) rfl)).trans (hF 14 (hp ⟨14, .data⟩ (by simp) rfl))
        have e38 : a.tmps.getD 38 undef = .bool true := (hin 18 38 rfl (hp ⟨18, .data⟩ (by simp) rfl)).trans (hF 18 (hp ⟨18, .data⟩ (by simp) rfl))
        refine Does.val (.bool true) (w' := w) ?_ ⟨Below.refl _ _, rfl, hG⟩
        simp only [Array.getD_eq_getD_getElem?] at e34 e38
        go_simp
      · intro listed σ w a hin hout hl hc hp hG hF
        refine Guarded.none rfl ?_
        have e39 : a.tmps.getD 39 undef = .bool true := (hin 19 39 rfl (hp ⟨19, .data⟩ (by simp) rfl)).trans (hF 19 (hp ⟨19, .data⟩ (by simp) rfl))
        refine Does.val (.bool true) (w' := w) ?_ ⟨Below.refl _ _, rfl, hG⟩
        simp only [Array.getD_eq_getD_getElem?] at e39
        go_simp
      · intro listed σ w a hin hout hl hc hp hG hF
        refine Guarded.some (d := 40) (b := true) rfl rfl ((hin 20 40 rfl (hp ⟨20, .guard⟩ (by simp) rfl)).trans (hF 20 (hp ⟨20, .guard⟩ (by simp) rfl))) ?_
        refine Or.inl ⟨rfl, ?_⟩
        have e1 : a.tmps.getD 1 undef = .pointer (some ⟨w1.heap.size, 0, none⟩) := hout 1 (outB_spec (by kernel_rfl))
        have CC := SOF.out w hG; obtain ⟨C0, C1, C2, D0, D1, D2, E0, E1, F0, F1, V1⟩ := CC
        refine Does.val (.agg #[.slice At nt ct, .bool st, .slice Bt mt dt]) (w' := w) ?_ ⟨Below.refl _ _, rfl, hG⟩
        go_simp
      · intro listed σ w a hin hout hl hc hp hG hF
        refine Guarded.some (d := 40) (b := true) rfl rfl ((hin 20 40 rfl (hp ⟨20, .guard⟩ (by simp) rfl)).trans (hF 20 (hp ⟨20, .guard⟩ (by simp) rfl))) ?_
        refine Or.inl ⟨rfl, ?_⟩
        have e41 : a.tmps.getD 41 undef = .agg #[.slice At nt ct, .bool st, .slice Bt mt dt] := (hin 21 41 rfl (hp ⟨21, .data⟩ (by simp) rfl)).trans (hF 21 (hp ⟨21, .data⟩ (by simp) rfl))
        refine Does.call ?_ ((show Calls Tryz.prog 22 #[.agg #[.slice At nt ct, .bool st, .slice Bt mt dt], .int .i64 1] w (fun e w' => e = .returned (.bool true) ∧ Below w.heap.size w w') from thas_any _ (ofs [4, (-6)]) 7 1 2 w (HT.out.below hG).in_ (by decide) (by decide))) ?_
        · go_simp
        · rintro e w' ⟨rfl, hb⟩
          exact ⟨_, rfl, hb, rfl, hG.next hb⟩
      · intro listed σ w a hin hout hl hc hp hG hF
        refine Guarded.none rfl ?_
        have e40 : a.tmps.getD 40 undef = .bool true := (hin 20 40 rfl (hp ⟨20, .data⟩ (by simp) rfl)).trans (hF 20 (hp ⟨20, .data⟩ (by simp) rfl))
        have e42 : a.tmps.getD 42 undef = .bool true := (hin 22 42 rfl (hp ⟨22, .data⟩ (by simp) rfl)).trans (hF 22 (hp ⟨22, .data⟩ (by simp) rfl))
        refine Does.val (.bool true) (w' := w) ?_ ⟨Below.refl _ _, rfl, hG⟩
        simp only [Array.getD_eq_getD_getElem?] at e40 e42
        go_simp
      · intro listed σ w a hin hout hl hc hp hG hF
        refine Guarded.none rfl ?_
        have e43 : a.tmps.getD 43 undef = .bool true := (hin 23 43 rfl (hp ⟨23, .data⟩ (by simp) rfl)).trans (hF 23 (hp ⟨23, .data⟩ (by simp) rfl))
        refine Does.val (.bool true) (w' := w) ?_ ⟨Below.refl _ _, rfl, hG⟩
        simp only [Array.getD_eq_getD_getElem?] at e43
        go_simp
      · intro listed σ w a hin hout hl hc hp hG hF
        refine Guarded.some (d := 44) (b := true) rfl rfl ((hin 24 44 rfl (hp ⟨24, .guard⟩ (by simp) rfl)).trans (hF 24 (hp ⟨24, .guard⟩ (by simp) rfl))) ?_
        refine Or.inl ⟨rfl, ?_⟩
        have e1 : a.tmps.getD 1 undef = .pointer (some ⟨w1.heap.size, 0, none⟩) := hout 1 (outB_spec (by kernel_rfl))
        have CC := SOF.out w hG; obtain ⟨C0, C1, C2, D0, D1, D2, E0, E1, F0, F1, V1⟩ := CC
        refine Does.val (.agg #[.slice At nt ct, .bool st, .slice Bt mt dt]) (w' := w) ?_ ⟨Below.refl _ _, rfl, hG⟩
        go_simp
      · intro listed σ w a hin hout hl hc hp hG hF
        refine Guarded.some (d := 44) (b := true) rfl rfl ((hin 24 44 rfl (hp ⟨24, .guard⟩ (by simp) rfl)).trans (hF 24 (hp ⟨24, .guard⟩ (by simp) rfl))) ?_
        refine Or.inl ⟨rfl, ?_⟩
        have e45 : a.tmps.getD 45 undef = .agg #[.slice At nt ct, .bool st, .slice Bt mt dt] := (hin 25 45 rfl (hp ⟨25, .data⟩ (by simp) rfl)).trans (hF 25 (hp ⟨25, .data⟩ (by simp) rfl))
        refine Does.call ?_ ((show Calls Tryz.prog 22 #[.agg #[.slice At nt ct, .bool st, .slice Bt mt dt], .int .i64 2] w (fun e w' => e = .returned (.bool false) ∧ Below w.heap.size w w') from thas_any _ (ofs [4, (-6)]) 7 2 2 w (HT.out.below hG).in_ (by decide) (by decide))) ?_
        · go_simp
        · rintro e w' ⟨rfl, hb⟩
          exact ⟨_, rfl, hb, rfl, hG.next hb⟩
      · intro listed σ w a hin hout hl hc hp hG hF
        refine Guarded.some (d := 44) (b := true) rfl rfl ((hin 24 44 rfl (hp ⟨24, .guard⟩ (by simp) rfl)).trans (hF 24 (hp ⟨24, .guard⟩ (by simp) rfl))) ?_
        refine Or.inl ⟨rfl, ?_⟩
        have e46 : a.tmps.getD 46 undef = .bool false := (hin 26 46 rfl (hp ⟨26, .data⟩ (by simp) rfl)).trans (hF 26 (hp ⟨26, .data⟩ (by simp) rfl))
        refine Does.val (.bool true) (w' := w) ?_ ⟨Below.refl _ _, rfl, hG⟩
        simp only [Array.getD_eq_getD_getElem?] at e46
        go_simp
      · intro listed σ w a hin hout hl hc hp hG hF
        refine Guarded.none rfl ?_
        have e44 : a.tmps.getD 44 undef = .bool true := (hin 24 44 rfl (hp ⟨24, .data⟩ (by simp) rfl)).trans (hF 24 (hp ⟨24, .data⟩ (by simp) rfl))
        have e47 : a.tmps.getD 47 undef = .bool true := (hin 27 47 rfl (hp ⟨27, .data⟩ (by simp) rfl)).trans (hF 27 (hp ⟨27, .data⟩ (by simp) rfl))
        refine Does.val (.bool true) (w' := w) ?_ ⟨Below.refl _ _, rfl, hG⟩
        simp only [Array.getD_eq_getD_getElem?] at e44 e47
        go_simp
      · intro listed σ w a hin hout hl hc hp hG hF
        refine Guarded.none rfl ?_
        have e48 : a.tmps.getD 48 undef = .bool true := (hin 28 48 rfl (hp ⟨28, .data⟩ (by simp) rfl)).trans (hF 28 (hp ⟨28, .data⟩ (by simp) rfl))
        refine Does.val (.bool true) (w' := w) ?_ ⟨Below.refl _ _, rfl, hG⟩
        simp only [Array.getD_eq_getD_getElem?] at e48
        go_simp
      · intro listed σ w a hin hout hl hc hp hG hF
        refine Guarded.some (d := 49) (b := true) rfl rfl ((hin 29 49 rfl (hp ⟨29, .guard⟩ (by simp) rfl)).trans (hF 29 (hp ⟨29, .guard⟩ (by simp) rfl))) ?_
        refine Or.inl ⟨rfl, ?_⟩
        have e1 : a.tmps.getD 1 undef = .pointer (some ⟨w1.heap.size, 0, none⟩) := hout 1 (outB_spec (by kernel_rfl))
        have CC := SOF.out w hG; obtain ⟨C0, C1, C2, D0, D1, D2, E0, E1, F0, F1, V1⟩ := CC
        refine Does.val (.agg #[.slice At nt ct, .bool st, .slice Bt mt dt]) (w' := w) ?_ ⟨Below.refl _ _, rfl, hG⟩
        go_simp
      · intro listed σ w a hin hout hl hc hp hG hF
        refine Guarded.some (d := 49) (b := true) rfl rfl ((hin 29 49 rfl (hp ⟨29, .guard⟩ (by simp) rfl)).trans (hF 29 (hp ⟨29, .guard⟩ (by simp) rfl))) ?_
        refine Or.inl ⟨rfl, ?_⟩
        have e50 : a.tmps.getD 50 undef = .agg #[.slice At nt ct, .bool st, .slice Bt mt dt] := (hin 30 50 rfl (hp ⟨30, .data⟩ (by simp) rfl)).trans (hF 30 (hp ⟨30, .data⟩ (by simp) rfl))
        refine Does.call ?_ (tcoef_any _ (ofs [4, (-6)]) 7 1 2 w (HT.out.below hG).in_ (by decide) (by decide)) ?_
        · go_simp
        · rintro e w' ⟨v, rfl, z, hb⟩
          exact ⟨_, rfl, hb, z, hG.next hb⟩
      · intro listed σ w a hin hout hl hc hp hG hF
        refine Guarded.some (d := 49) (b := true) rfl rfl ((hin 29 49 rfl (hp ⟨29, .guard⟩ (by simp) rfl)).trans (hF 29 (hp ⟨29, .guard⟩ (by simp) rfl))) ?_
        refine Or.inl ⟨rfl, ?_⟩
        refine Does.call ?_ (rof_z (-6) w (by decide) (by decide)) ?_
        · go_simp
        · rintro e w' ⟨v, rfl, z, hb⟩
          exact ⟨_, rfl, hb, z, hG.next hb⟩
      · intro listed σ w a hin hout hl hc hp hG hF
        refine Guarded.some (d := 49) (b := true) rfl rfl ((hin 29 49 rfl (hp ⟨29, .guard⟩ (by simp) rfl)).trans (hF 29 (hp ⟨29, .guard⟩ (by simp) rfl))) ?_
        refine Or.inl ⟨rfl, ?_⟩
        have e51 := hin 31 51 rfl (hp ⟨31, .data⟩ (by simp) rfl)
        have z31 := hF 31 (hp ⟨31, .data⟩ (by simp) rfl)
        have e52 := hin 32 52 rfl (hp ⟨32, .data⟩ (by simp) rfl)
        have z32 := hF 32 (hp ⟨32, .data⟩ (by simp) rfl)
        refine Does.call ?_ (zsame_yes _ _ (-6) 4 2 w z31 z32) ?_
        · go_simp
        · rintro e w' ⟨rfl, hb⟩
          exact ⟨_, rfl, hb, rfl, hG.next hb⟩
      · intro listed σ w a hin hout hl hc hp hG hF
        refine Guarded.none rfl ?_
        have e49 : a.tmps.getD 49 undef = .bool true := (hin 29 49 rfl (hp ⟨29, .data⟩ (by simp) rfl)).trans (hF 29 (hp ⟨29, .data⟩ (by simp) rfl))
        have e53 : a.tmps.getD 53 undef = .bool true := (hin 33 53 rfl (hp ⟨33, .data⟩ (by simp) rfl)).trans (hF 33 (hp ⟨33, .data⟩ (by simp) rfl))
        refine Does.val (.bool true) (w' := w) ?_ ⟨Below.refl _ _, rfl, hG⟩
        simp only [Array.getD_eq_getD_getElem?] at e49 e53
        go_simp
      · intro listed σ w a hin hout hl hc hp hG hF
        refine Guarded.none rfl ?_
        have e54 : a.tmps.getD 54 undef = .bool true := (hin 34 54 rfl (hp ⟨34, .data⟩ (by simp) rfl)).trans (hF 34 (hp ⟨34, .data⟩ (by simp) rfl))
        refine Does.val (.bool true) (w' := w) ?_ ⟨Below.refl _ _, rfl, hG⟩
        simp only [Array.getD_eq_getD_getElem?] at e54
        go_simp
      · intro listed σ w a hin hout hl hc hp hG hF
        refine Guarded.some (d := 55) (b := true) rfl rfl ((hin 35 55 rfl (hp ⟨35, .guard⟩ (by simp) rfl)).trans (hF 35 (hp ⟨35, .guard⟩ (by simp) rfl))) ?_
        refine Or.inl ⟨rfl, ?_⟩
        have e1 : a.tmps.getD 1 undef = .pointer (some ⟨w1.heap.size, 0, none⟩) := hout 1 (outB_spec (by kernel_rfl))
        have CC := SOF.out w hG; obtain ⟨C0, C1, C2, D0, D1, D2, E0, E1, F0, F1, V1⟩ := CC
        refine Does.val (.agg #[.slice At nt ct, .bool st, .slice Bt mt dt]) (w' := w) ?_ ⟨Below.refl _ _, rfl, hG⟩
        go_simp
      · intro listed σ w a hin hout hl hc hp hG hF
        refine Guarded.some (d := 55) (b := true) rfl rfl ((hin 35 55 rfl (hp ⟨35, .guard⟩ (by simp) rfl)).trans (hF 35 (hp ⟨35, .guard⟩ (by simp) rfl))) ?_
        refine Or.inl ⟨rfl, ?_⟩
        have e56 : a.tmps.getD 56 undef = .agg #[.slice At nt ct, .bool st, .slice Bt mt dt] := (hin 36 56 rfl (hp ⟨36, .data⟩ (by simp) rfl)).trans (hF 36 (hp ⟨36, .data⟩ (by simp) rfl))
        refine Does.call ?_ (twithout_any _ (ofs [4, (-6)]) 7 1 2 w (HT.out.below hG).in_ (by decide) (by decide) (by decide) (by decide) (by decide)) ?_
        · go_simp
        · rintro e w' ⟨v, rfl, z, hb⟩
          exact ⟨_, rfl, hb, (TRes.ofEq z (show _ = ofs [4] by decide) rfl), hG.next hb⟩
      · intro listed σ w a hin hout hl hc hp hG hF
        refine Guarded.some (d := 55) (b := true) rfl rfl ((hin 35 55 rfl (hp ⟨35, .guard⟩ (by simp) rfl)).trans (hF 35 (hp ⟨35, .guard⟩ (by simp) rfl))) ?_
        refine Or.inl ⟨rfl, ?_⟩
        refine Does.val (.slice (some ⟨w.heap.size, 0, none⟩) 1 1) (w' := w.alloc (.cells #[.int .i64 4] 2)) ?_ ⟨bl_alloc w _, ⟨w.heap.size, rfl, Box.new _ _ _⟩, hG.next (bl_alloc w _)⟩
        go_simp
      · intro listed σ w a hin hout hl hc hp hG hF
        refine Guarded.some (d := 55) (b := true) rfl rfl ((hin 35 55 rfl (hp ⟨35, .guard⟩ (by simp) rfl)).trans (hF 35 (hp ⟨35, .guard⟩ (by simp) rfl))) ?_
        refine Or.inl ⟨rfl, ?_⟩
        have e58 := hin 38 58 rfl (hp ⟨38, .data⟩ (by simp) rfl)
        obtain ⟨g38, ev38, x38⟩ := hF 38 (hp ⟨38, .data⟩ (by simp) rfl)
        rw [ev38] at e58
        refine Does.call ?_ (lof_any 7 (some ⟨g38, 0, none⟩) 1 1 [4] w x38.ints (by decide) (by decide) (by decide) (by decide)) ?_
        · go_simp
        · rintro e w' ⟨v, rfl, z, hb⟩
          exact ⟨_, rfl, hb, z, hG.next hb⟩
      · intro listed σ w a hin hout hl hc hp hG hF
        refine Guarded.some (d := 55) (b := true) rfl rfl ((hin 35 55 rfl (hp ⟨35, .guard⟩ (by simp) rfl)).trans (hF 35 (hp ⟨35, .guard⟩ (by simp) rfl))) ?_
        refine Or.inl ⟨rfl, ?_⟩
        have e57 := hin 37 57 rfl (hp ⟨37, .data⟩ (by simp) rfl)
        have z37 := hF 37 (hp ⟨37, .data⟩ (by simp) rfl)
        have e59 := hin 39 59 rfl (hp ⟨39, .data⟩ (by simp) rfl)
        have z39 := hF 39 (hp ⟨39, .data⟩ (by simp) rfl)
        refine Does.call ?_ (lsame_yes _ _ (ofs [4]) (7) 1010002 2 w (z37) (z39) (by decide +kernel) (by decide +kernel) (by decide)) ?_
        · go_simp
        · rintro e w' ⟨rfl, hb⟩
          exact ⟨_, rfl, hb, rfl, hG.next hb⟩
      · intro listed σ w a hin hout hl hc hp hG hF
        refine Guarded.none rfl ?_
        have e55 : a.tmps.getD 55 undef = .bool true := (hin 35 55 rfl (hp ⟨35, .data⟩ (by simp) rfl)).trans (hF 35 (hp ⟨35, .data⟩ (by simp) rfl))
        have e60 : a.tmps.getD 60 undef = .bool true := (hin 40 60 rfl (hp ⟨40, .data⟩ (by simp) rfl)).trans (hF 40 (hp ⟨40, .data⟩ (by simp) rfl))
        refine Does.val (.bool true) (w' := w) ?_ ⟨Below.refl _ _, rfl, hG⟩
        simp only [Array.getD_eq_getD_getElem?] at e55 e60
        go_simp
      · intro listed σ w a hin hout hl hc hp hG hF
        refine Guarded.none rfl ?_
        have e61 : a.tmps.getD 61 undef = .bool true := (hin 41 61 rfl (hp ⟨41, .data⟩ (by simp) rfl)).trans (hF 41 (hp ⟨41, .data⟩ (by simp) rfl))
        refine Does.val (.bool true) (w' := w) ?_ ⟨Below.refl _ _, rfl, hG⟩
        simp only [Array.getD_eq_getD_getElem?] at e61
        go_simp
      · intro listed σ w a hin hout hl hc hp hG hF
        refine Guarded.some (d := 62) (b := true) rfl rfl ((hin 42 62 rfl (hp ⟨42, .guard⟩ (by simp) rfl)).trans (hF 42 (hp ⟨42, .guard⟩ (by simp) rfl))) ?_
        refine Or.inl ⟨rfl, ?_⟩
        have e5 : a.tmps.getD 5 undef = .pointer (some ⟨g5, 0, none⟩) := hout 5 (outB_spec (by kernel_rfl))
        have CC := SOF.out w hG; obtain ⟨C0, C1, C2, D0, D1, D2, E0, E1, F0, F1, V1⟩ := CC
        refine Does.val (.agg #[.bool s5, .slice B5 m5 d5]) (w' := w) ?_ ⟨Below.refl _ _, rfl, hG⟩
        go_simp
      · intro listed σ w a hin hout hl hc hp hG hF
        refine Guarded.some (d := 62) (b := true) rfl rfl ((hin 42 62 rfl (hp ⟨42, .guard⟩ (by simp) rfl)).trans (hF 42 (hp ⟨42, .guard⟩ (by simp) rfl))) ?_
        refine Or.inl ⟨rfl, ?_⟩
        refine Does.call ?_ (rof_z (-1) w (by decide) (by decide)) ?_
        · go_simp
        · rintro e w' ⟨v, rfl, z, hb⟩
          exact ⟨_, rfl, hb, z, hG.next hb⟩
      · intro listed σ w a hin hout hl hc hp hG hF
        refine Guarded.some (d := 62) (b := true) rfl rfl ((hin 42 62 rfl (hp ⟨42, .guard⟩ (by simp) rfl)).trans (hF 42 (hp ⟨42, .guard⟩ (by simp) rfl))) ?_
        refine Or.inl ⟨rfl, ?_⟩
        have e63 : a.tmps.getD 63 undef = .agg #[.bool s5, .slice B5 m5 d5] := (hin 43 63 rfl (hp ⟨43, .data⟩ (by simp) rfl)).trans (hF 43 (hp ⟨43, .data⟩ (by simp) rfl))
        have e64 := hin 44 64 rfl (hp ⟨44, .data⟩ (by simp) rfl)
        have z44 := hF 44 (hp ⟨44, .data⟩ (by simp) rfl)
        refine Does.call ?_ (zsame_yes _ _ (-1) 6 2 w (H5.out.below hG) z44) ?_
        · go_simp
        · rintro e w' ⟨rfl, hb⟩
          exact ⟨_, rfl, hb, rfl, hG.next hb⟩
      · intro listed σ w a hin hout hl hc hp hG hF
        refine Guarded.none rfl ?_
        have e62 : a.tmps.getD 62 undef = .bool true := (hin 42 62 rfl (hp ⟨42, .data⟩ (by simp) rfl)).trans (hF 42 (hp ⟨42, .data⟩ (by simp) rfl))
        have e65 : a.tmps.getD 65 undef = .bool true := (hin 45 65 rfl (hp ⟨45, .data⟩ (by simp) rfl)).trans (hF 45 (hp ⟨45, .data⟩ (by simp) rfl))
        refine Does.val (.bool true) (w' := w) ?_ ⟨Below.refl _ _, rfl, hG⟩
        simp only [Array.getD_eq_getD_getElem?] at e62 e65
        go_simp
      · intro listed σ w a hin hout hl hc hp hG hF
        refine Guarded.none rfl ?_
        have e66 : a.tmps.getD 66 undef = .bool true := (hin 46 66 rfl (hp ⟨46, .data⟩ (by simp) rfl)).trans (hF 46 (hp ⟨46, .data⟩ (by simp) rfl))
        refine Does.val (.bool true) (w' := w) ?_ ⟨Below.refl _ _, rfl, hG⟩
        simp only [Array.getD_eq_getD_getElem?] at e66
        go_simp
      · intro listed σ w a hin hout hl hc hp hG hF
        refine Guarded.some (d := 67) (b := true) rfl rfl ((hin 47 67 rfl (hp ⟨47, .guard⟩ (by simp) rfl)).trans (hF 47 (hp ⟨47, .guard⟩ (by simp) rfl))) ?_
        refine Or.inl ⟨rfl, ?_⟩
        have e1 : a.tmps.getD 1 undef = .pointer (some ⟨w1.heap.size, 0, none⟩) := hout 1 (outB_spec (by kernel_rfl))
        have CC := SOF.out w hG; obtain ⟨C0, C1, C2, D0, D1, D2, E0, E1, F0, F1, V1⟩ := CC
        refine Does.val (.agg #[.slice At nt ct, .bool st, .slice Bt mt dt]) (w' := w) ?_ ⟨Below.refl _ _, rfl, hG⟩
        go_simp
      · intro listed σ w a hin hout hl hc hp hG hF
        refine Guarded.some (d := 67) (b := true) rfl rfl ((hin 47 67 rfl (hp ⟨47, .guard⟩ (by simp) rfl)).trans (hF 47 (hp ⟨47, .guard⟩ (by simp) rfl))) ?_
        refine Or.inl ⟨rfl, ?_⟩
        have e68 : a.tmps.getD 68 undef = .agg #[.slice At nt ct, .bool st, .slice Bt mt dt] := (hin 48 68 rfl (hp ⟨48, .data⟩ (by simp) rfl)).trans (hF 48 (hp ⟨48, .data⟩ (by simp) rfl))
        refine Does.call ?_ (tcontent_any _ (ofs [4, (-6)]) 7 2 w (HT.out.below hG).in_ (by decide) (by decide)) ?_
        · go_simp
        · rintro e w' ⟨v, rfl, z, hb⟩
          exact ⟨_, rfl, hb, ((show ZRes _ _ (content (ofs [4, (-6)])) 4 from z).ofEq (by decide +kernel)), hG.next hb⟩
      · intro listed σ w a hin hout hl hc hp hG hF
        refine Guarded.some (d := 67) (b := true) rfl rfl ((hin 47 67 rfl (hp ⟨47, .guard⟩ (by simp) rfl)).trans (hF 47 (hp ⟨47, .guard⟩ (by simp) rfl))) ?_
        refine Or.inl ⟨rfl, ?_⟩
        refine Does.call ?_ (rof_z 2 w (by decide) (by decide)) ?_
        · go_simp
        · rintro e w' ⟨v, rfl, z, hb⟩
          exact ⟨_, rfl, hb, z, hG.next hb⟩
      · intro listed σ w a hin hout hl hc hp hG hF
        refine Guarded.some (d := 67) (b := true) rfl rfl ((hin 47 67 rfl (hp ⟨47, .guard⟩ (by simp) rfl)).trans (hF 47 (hp ⟨47, .guard⟩ (by simp) rfl))) ?_
        refine Or.inl ⟨rfl, ?_⟩
        have e69 := hin 49 69 rfl (hp ⟨49, .data⟩ (by simp) rfl)
        have z49 := hF 49 (hp ⟨49, .data⟩ (by simp) rfl)
        have e70 := hin 50 70 rfl (hp ⟨50, .data⟩ (by simp) rfl)
        have z50 := hF 50 (hp ⟨50, .data⟩ (by simp) rfl)
        refine Does.call ?_ (zsame_yes _ _ 2 4 2 w z49 z50) ?_
        · go_simp
        · rintro e w' ⟨rfl, hb⟩
          exact ⟨_, rfl, hb, rfl, hG.next hb⟩
      · intro listed σ w a hin hout hl hc hp hG hF
        refine Guarded.none rfl ?_
        have e67 : a.tmps.getD 67 undef = .bool true := (hin 47 67 rfl (hp ⟨47, .data⟩ (by simp) rfl)).trans (hF 47 (hp ⟨47, .data⟩ (by simp) rfl))
        have e71 : a.tmps.getD 71 undef = .bool true := (hin 51 71 rfl (hp ⟨51, .data⟩ (by simp) rfl)).trans (hF 51 (hp ⟨51, .data⟩ (by simp) rfl))
        refine Does.val (.bool true) (w' := w) ?_ ⟨Below.refl _ _, rfl, hG⟩
        simp only [Array.getD_eq_getD_getElem?] at e67 e71
        go_simp
      · intro listed σ w a hin hout hl hc hp hG hF
        refine Guarded.none rfl ?_
        have e72 : a.tmps.getD 72 undef = .bool true := (hin 52 72 rfl (hp ⟨52, .data⟩ (by simp) rfl)).trans (hF 52 (hp ⟨52, .data⟩ (by simp) rfl))
        refine Does.val (.bool true) (w' := w) ?_ ⟨Below.refl _ _, rfl, hG⟩
        simp only [Array.getD_eq_getD_getElem?] at e72
        go_simp
      · intro listed σ w a hin hout hl hc hp hG hF
        refine Guarded.some (d := 73) (b := true) rfl rfl ((hin 53 73 rfl (hp ⟨53, .guard⟩ (by simp) rfl)).trans (hF 53 (hp ⟨53, .guard⟩ (by simp) rfl))) ?_
        refine Or.inl ⟨rfl, ?_⟩
        have e1 : a.tmps.getD 1 undef = .pointer (some ⟨w1.heap.size, 0, none⟩) := hout 1 (outB_spec (by kernel_rfl))
        have CC := SOF.out w hG; obtain ⟨C0, C1, C2, D0, D1, D2, E0, E1, F0, F1, V1⟩ := CC
        refine Does.val (.agg #[.slice At nt ct, .bool st, .slice Bt mt dt]) (w' := w) ?_ ⟨Below.refl _ _, rfl, hG⟩
        go_simp
      · intro listed σ w a hin hout hl hc hp hG hF
        refine Guarded.some (d := 73) (b := true) rfl rfl ((hin 53 73 rfl (hp ⟨53, .guard⟩ (by simp) rfl)).trans (hF 53 (hp ⟨53, .guard⟩ (by simp) rfl))) ?_
        refine Or.inl ⟨rfl, ?_⟩
        have e1 : a.tmps.getD 1 undef = .pointer (some ⟨w1.heap.size, 0, none⟩) := hout 1 (outB_spec (by kernel_rfl))
        have CC := SOF.out w hG; obtain ⟨C0, C1, C2, D0, D1, D2, E0, E1, F0, F1, V1⟩ := CC
        refine Does.val (.agg #[.slice At nt ct, .bool st, .slice Bt mt dt]) (w' := w) ?_ ⟨Below.refl _ _, rfl, hG⟩
        go_simp
      · intro listed σ w a hin hout hl hc hp hG hF
        refine Guarded.some (d := 73) (b := true) rfl rfl ((hin 53 73 rfl (hp ⟨53, .guard⟩ (by simp) rfl)).trans (hF 53 (hp ⟨53, .guard⟩ (by simp) rfl))) ?_
        refine Or.inl ⟨rfl, ?_⟩
        have e74 : a.tmps.getD 74 undef = .agg #[.slice At nt ct, .bool st, .slice Bt mt dt] := (hin 54 74 rfl (hp ⟨54, .data⟩ (by simp) rfl)).trans (hF 54 (hp ⟨54, .data⟩ (by simp) rfl))
        have e75 : a.tmps.getD 75 undef = .agg #[.slice At nt ct, .bool st, .slice Bt mt dt] := (hin 55 75 rfl (hp ⟨55, .data⟩ (by simp) rfl)).trans (hF 55 (hp ⟨55, .data⟩ (by simp) rfl))
        refine Does.call ?_ ((cmp_lit 0 (tcmp_any _ _ (ofs [4, (-6)]) (ofs [4, (-6)]) 7 7 2 w (HT.out.below hG).in_ (HT.out.below hG).in_ (by decide) (by decide) (by decide)) (by decide +kernel))) ?_
        · go_simp
        · rintro e w' ⟨rfl, hb⟩
          exact ⟨_, rfl, hb, rfl, hG.next hb⟩
      · intro listed σ w a hin hout hl hc hp hG hF
        refine Guarded.some (d := 73) (b := true) rfl rfl ((hin 53 73 rfl (hp ⟨53, .guard⟩ (by simp) rfl)).trans (hF 53 (hp ⟨53, .guard⟩ (by simp) rfl))) ?_
        refine Or.inl ⟨rfl, ?_⟩
        have e76 : a.tmps.getD 76 undef = .int .i64 0 := (hin 56 76 rfl (hp ⟨56, .data⟩ (by simp) rfl)).trans (hF 56 (hp ⟨56, .data⟩ (by simp) rfl))
        refine Does.val (.bool true) (w' := w) ?_ ⟨Below.refl _ _, rfl, hG⟩
        simp only [Array.getD_eq_getD_getElem?] at e76
        go_simp
      · intro listed σ w a hin hout hl hc hp hG hF
        refine Guarded.none rfl ?_
        have e73 : a.tmps.getD 73 undef = .bool true := (hin 53 73 rfl (hp ⟨53, .data⟩ (by simp) rfl)).trans (hF 53 (hp ⟨53, .data⟩ (by simp) rfl))
        have e77 : a.tmps.getD 77 undef = .bool true := (hin 57 77 rfl (hp ⟨57, .data⟩ (by simp) rfl)).trans (hF 57 (hp ⟨57, .data⟩ (by simp) rfl))
        refine Does.val (.bool true) (w' := w) ?_ ⟨Below.refl _ _, rfl, hG⟩
        simp only [Array.getD_eq_getD_getElem?] at e73 e77
        go_simp
      · intro listed σ w a hin hout hl hc hp hG hF
        refine Guarded.none rfl ?_
        have e78 : a.tmps.getD 78 undef = .bool true := (hin 58 78 rfl (hp ⟨58, .data⟩ (by simp) rfl)).trans (hF 58 (hp ⟨58, .data⟩ (by simp) rfl))
        refine Does.val (.bool true) (w' := w) ?_ ⟨Below.refl _ _, rfl, hG⟩
        simp only [Array.getD_eq_getD_getElem?] at e78
        go_simp
      · intro listed σ w a hin hout hl hc hp hG hF
        refine Guarded.some (d := 79) (b := true) rfl rfl ((hin 59 79 rfl (hp ⟨59, .guard⟩ (by simp) rfl)).trans (hF 59 (hp ⟨59, .guard⟩ (by simp) rfl))) ?_
        refine Or.inl ⟨rfl, ?_⟩
        have e1 : a.tmps.getD 1 undef = .pointer (some ⟨w1.heap.size, 0, none⟩) := hout 1 (outB_spec (by kernel_rfl))
        have CC := SOF.out w hG; obtain ⟨C0, C1, C2, D0, D1, D2, E0, E1, F0, F1, V1⟩ := CC
        refine Does.val (.agg #[.slice At nt ct, .bool st, .slice Bt mt dt]) (w' := w) ?_ ⟨Below.refl _ _, rfl, hG⟩
        go_simp
      · intro listed σ w a hin hout hl hc hp hG hF
        refine Guarded.some (d := 79) (b := true) rfl rfl ((hin 59 79 rfl (hp ⟨59, .guard⟩ (by simp) rfl)).trans (hF 59 (hp ⟨59, .guard⟩ (by simp) rfl))) ?_
        refine Or.inl ⟨rfl, ?_⟩
        have e1 : a.tmps.getD 1 undef = .pointer (some ⟨w1.heap.size, 0, none⟩) := hout 1 (outB_spec (by kernel_rfl))
        have CC := SOF.out w hG; obtain ⟨C0, C1, C2, D0, D1, D2, E0, E1, F0, F1, V1⟩ := CC
        refine Does.val (.agg #[.slice At nt ct, .bool st, .slice Bt mt dt]) (w' := w) ?_ ⟨Below.refl _ _, rfl, hG⟩
        go_simp
      · intro listed σ w a hin hout hl hc hp hG hF
        refine Guarded.some (d := 79) (b := true) rfl rfl ((hin 59 79 rfl (hp ⟨59, .guard⟩ (by simp) rfl)).trans (hF 59 (hp ⟨59, .guard⟩ (by simp) rfl))) ?_
        refine Or.inl ⟨rfl, ?_⟩
        have e80 : a.tmps.getD 80 undef = .agg #[.slice At nt ct, .bool st, .slice Bt mt dt] := (hin 60 80 rfl (hp ⟨60, .data⟩ (by simp) rfl)).trans (hF 60 (hp ⟨60, .data⟩ (by simp) rfl))
        have e81 : a.tmps.getD 81 undef = .agg #[.slice At nt ct, .bool st, .slice Bt mt dt] := (hin 61 81 rfl (hp ⟨61, .data⟩ (by simp) rfl)).trans (hF 61 (hp ⟨61, .data⟩ (by simp) rfl))
        refine Does.call ?_ ((same_lit true (tsame_any _ _ (ofs [4, (-6)]) (ofs [4, (-6)]) 7 7 2 w (HT.out.below hG).in_ (HT.out.below hG).in_ (by decide) (by decide) (by decide)) (by decide +kernel))) ?_
        · go_simp
        · rintro e w' ⟨rfl, hb⟩
          exact ⟨_, rfl, hb, rfl, hG.next hb⟩
      · intro listed σ w a hin hout hl hc hp hG hF
        refine Guarded.none rfl ?_
        have e79 : a.tmps.getD 79 undef = .bool true := (hin 59 79 rfl (hp ⟨59, .data⟩ (by simp) rfl)).trans (hF 59 (hp ⟨59, .data⟩ (by simp) rfl))
        have e82 : a.tmps.getD 82 undef = .bool true := (hin 62 82 rfl (hp ⟨62, .data⟩ (by simp) rfl)).trans (hF 62 (hp ⟨62, .data⟩ (by simp) rfl))
        refine Does.val (.bool true) (w' := w) ?_ ⟨Below.refl _ _, rfl, hG⟩
        simp only [Array.getD_eq_getD_getElem?] at e79 e82
        go_simp
      · intro listed σ w a hin hout hl hc hp hG hF
        refine Guarded.none rfl ?_
        have e83 : a.tmps.getD 83 undef = .bool true := (hin 63 83 rfl (hp ⟨63, .data⟩ (by simp) rfl)).trans (hF 63 (hp ⟨63, .data⟩ (by simp) rfl))
        refine Does.val (.bool true) (w' := w) ?_ ⟨Below.refl _ _, rfl, hG⟩
        simp only [Array.getD_eq_getD_getElem?] at e83
        go_simp
      · intro listed σ w a hin hout hl hc hp hG hF
        refine Guarded.some (d := 84) (b := true) rfl rfl ((hin 64 84 rfl (hp ⟨64, .guard⟩ (by simp) rfl)).trans (hF 64 (hp ⟨64, .guard⟩ (by simp) rfl))) ?_
        refine Or.inl ⟨rfl, ?_⟩
        refine Does.call ?_ (lof_any 1 none 0 0 [] w (IIn.none w) (by decide) (by decide) (by decide) (by decide)) ?_
        · go_simp
        · rintro e w' ⟨v, rfl, z, hb⟩
          exact ⟨_, rfl, hb, z, hG.next hb⟩
      · intro listed σ w a hin hout hl hc hp hG hF
        refine Guarded.some (d := 84) (b := true) rfl rfl ((hin 64 84 rfl (hp ⟨64, .guard⟩ (by simp) rfl)).trans (hF 64 (hp ⟨64, .guard⟩ (by simp) rfl))) ?_
        refine Or.inl ⟨rfl, ?_⟩
        refine Does.call ?_ (lof_any 2 none 0 0 [] w (IIn.none w) (by decide) (by decide) (by decide) (by decide)) ?_
        · go_simp
        · rintro e w' ⟨v, rfl, z, hb⟩
          exact ⟨_, rfl, hb, z, hG.next hb⟩
      · intro listed σ w a hin hout hl hc hp hG hF
        refine Guarded.some (d := 84) (b := true) rfl rfl ((hin 64 84 rfl (hp ⟨64, .guard⟩ (by simp) rfl)).trans (hF 64 (hp ⟨64, .guard⟩ (by simp) rfl))) ?_
        refine Or.inl ⟨rfl, ?_⟩
        have e85 := hin 65 85 rfl (hp ⟨65, .data⟩ (by simp) rfl)
        have z65 := hF 65 (hp ⟨65, .data⟩ (by simp) rfl)
        have e86 := hin 66 86 rfl (hp ⟨66, .data⟩ (by simp) rfl)
        have z66 := hF 66 (hp ⟨66, .data⟩ (by simp) rfl)
        refine Does.call ?_ ((cmp_lit (-1) (tcmp_any _ _ (ofs []) (ofs []) 1 2 2 w z65.in_ z66.in_ (by decide) (by decide) (by decide)) (by decide +kernel))) ?_
        · go_simp
        · rintro e w' ⟨rfl, hb⟩
          exact ⟨_, rfl, hb, rfl, hG.next hb⟩
      · intro listed σ w a hin hout hl hc hp hG hF
        refine Guarded.some (d := 84) (b := true) rfl rfl ((hin 64 84 rfl (hp ⟨64, .guard⟩ (by simp) rfl)).trans (hF 64 (hp ⟨64, .guard⟩ (by simp) rfl))) ?_
        refine Or.inl ⟨rfl, ?_⟩
        have e87 : a.tmps.getD 87 undef = .int .i64 (-1) := (hin 67 87 rfl (hp ⟨67, .data⟩ (by simp) rfl)).trans (hF 67 (hp ⟨67, .data⟩ (by simp) rfl))
        refine Does.val (.bool true) (w' := w) ?_ ⟨Below.refl _ _, rfl, hG⟩
        simp only [Array.getD_eq_getD_getElem?] at e87
        go_simp
      · intro listed σ w a hin hout hl hc hp hG hF
        refine Guarded.none rfl ?_
        have e84 : a.tmps.getD 84 undef = .bool true := (hin 64 84 rfl (hp ⟨64, .data⟩ (by simp) rfl)).trans (hF 64 (hp ⟨64, .data⟩ (by simp) rfl))
        have e88 : a.tmps.getD 88 undef = .bool true := (hin 68 88 rfl (hp ⟨68, .data⟩ (by simp) rfl)).trans (hF 68 (hp ⟨68, .data⟩ (by simp) rfl))
        refine Does.val (.bool true) (w' := w) ?_ ⟨Below.refl _ _, rfl, hG⟩
        simp only [Array.getD_eq_getD_getElem?] at e84 e88
        go_simp
      · intro listed σ w a hin hout hl hc hp hG hF
        refine Guarded.none rfl ?_
        have e89 : a.tmps.getD 89 undef = .bool true := (hin 69 89 rfl (hp ⟨69, .data⟩ (by simp) rfl)).trans (hF 69 (hp ⟨69, .data⟩ (by simp) rfl))
        refine Does.val (.bool true) (w' := w) ?_ ⟨Below.refl _ _, rfl, hG⟩
        simp only [Array.getD_eq_getD_getElem?] at e89
        go_simp
      · intro listed σ w a hin hout hl hc hp hG hF
        refine Guarded.some (d := 90) (b := true) rfl rfl ((hin 70 90 rfl (hp ⟨70, .guard⟩ (by simp) rfl)).trans (hF 70 (hp ⟨70, .guard⟩ (by simp) rfl))) ?_
        refine Or.inl ⟨rfl, ?_⟩
        refine Does.val (.slice (some ⟨w.heap.size, 0, none⟩) 1 1) (w' := w.alloc (.cells #[.int .i64 (-1)] 2)) ?_ ⟨bl_alloc w _, ⟨w.heap.size, rfl, Box.new _ _ _⟩, hG.next (bl_alloc w _)⟩
        go_simp
      · intro listed σ w a hin hout hl hc hp hG hF
        refine Guarded.some (d := 90) (b := true) rfl rfl ((hin 70 90 rfl (hp ⟨70, .guard⟩ (by simp) rfl)).trans (hF 70 (hp ⟨70, .guard⟩ (by simp) rfl))) ?_
        refine Or.inl ⟨rfl, ?_⟩
        have e91 := hin 71 91 rfl (hp ⟨71, .data⟩ (by simp) rfl)
        obtain ⟨g71, ev71, x71⟩ := hF 71 (hp ⟨71, .data⟩ (by simp) rfl)
        rw [ev71] at e91
        refine Does.call ?_ (lof_any 2 (some ⟨g71, 0, none⟩) 1 1 [(-1)] w x71.ints (by decide) (by decide) (by decide) (by decide)) ?_
        · go_simp
        · rintro e w' ⟨v, rfl, z, hb⟩
          exact ⟨_, rfl, hb, z, hG.next hb⟩
      · intro listed σ w a hin hout hl hc hp hG hF
        refine Guarded.some (d := 90) (b := true) rfl rfl ((hin 70 90 rfl (hp ⟨70, .guard⟩ (by simp) rfl)).trans (hF 70 (hp ⟨70, .guard⟩ (by simp) rfl))) ?_
        refine Or.inl ⟨rfl, ?_⟩
        refine Does.val (.slice (some ⟨w.heap.size, 0, none⟩) 1 1) (w' := w.alloc (.cells #[.string ⟨#[120]⟩] 9)) ?_ ⟨bl_alloc w _, ⟨w.heap.size, rfl, Box.new _ _ _⟩, hG.next (bl_alloc w _)⟩
        go_simp
      · intro listed σ w a hin hout hl hc hp hG hF
        refine Guarded.some (d := 90) (b := true) rfl rfl ((hin 70 90 rfl (hp ⟨70, .guard⟩ (by simp) rfl)).trans (hF 70 (hp ⟨70, .guard⟩ (by simp) rfl))) ?_
        refine Or.inl ⟨rfl, ?_⟩
        have e92 := hin 72 92 rfl (hp ⟨72, .data⟩ (by simp) rfl)
        have z72 := hF 72 (hp ⟨72, .data⟩ (by simp) rfl)
        have e93 := hin 73 93 rfl (hp ⟨73, .data⟩ (by simp) rfl)
        obtain ⟨g73, ev73, x73⟩ := hF 73 (hp ⟨73, .data⟩ (by simp) rfl)
        rw [ev73] at e93
        refine Does.call ?_ (text_example _ g73 w z72.in_ x73) ?_
        · go_simp
        · rintro e w' ⟨rfl, hb⟩
          exact ⟨_, rfl, hb, rfl, hG.next hb⟩
      · intro listed σ w a hin hout hl hc hp hG hF
        refine Guarded.some (d := 90) (b := true) rfl rfl ((hin 70 90 rfl (hp ⟨70, .guard⟩ (by simp) rfl)).trans (hF 70 (hp ⟨70, .guard⟩ (by simp) rfl))) ?_
        refine Or.inl ⟨rfl, ?_⟩
        have e94 : a.tmps.getD 94 undef = .string ⟨#[45, 120, 32, 43, 32, 50]⟩ := (hin 74 94 rfl (hp ⟨74, .data⟩ (by simp) rfl)).trans (hF 74 (hp ⟨74, .data⟩ (by simp) rfl))
        refine Does.val (.bool true) (w' := w) ?_ ⟨Below.refl _ _, rfl, hG⟩
        simp only [Array.getD_eq_getD_getElem?] at e94
        go_simp
        (try decide +kernel)
      · intro listed σ w a hin hout hl hc hp hG hF
        refine Guarded.none rfl ?_
        have e90 : a.tmps.getD 90 undef = .bool true := (hin 70 90 rfl (hp ⟨70, .data⟩ (by simp) rfl)).trans (hF 70 (hp ⟨70, .data⟩ (by simp) rfl))
        have e95 : a.tmps.getD 95 undef = .bool true := (hin 75 95 rfl (hp ⟨75, .data⟩ (by simp) rfl)).trans (hF 75 (hp ⟨75, .data⟩ (by simp) rfl))
        refine Does.val (.bool true) (w' := w) ?_ ⟨Below.refl _ _, rfl, hG⟩
        simp only [Array.getD_eq_getD_getElem?] at e90 e95
        go_simp
      · intro listed σ w a hin hout hl hc hp hG hF
        refine Guarded.none rfl ?_
        have e96 : a.tmps.getD 96 undef = .bool true := (hin 76 96 rfl (hp ⟨76, .data⟩ (by simp) rfl)).trans (hF 76 (hp ⟨76, .data⟩ (by simp) rfl))
        refine Does.val (.bool true) (w' := w) ?_ ⟨Below.refl _ _, rfl, hG⟩
        simp only [Array.getD_eq_getD_getElem?] at e96
        go_simp
      · intro listed σ w a hin hout hl hc hp hG hF
        refine Guarded.some (d := 97) (b := true) rfl rfl ((hin 77 97 rfl (hp ⟨77, .guard⟩ (by simp) rfl)).trans (hF 77 (hp ⟨77, .guard⟩ (by simp) rfl))) ?_
        refine Or.inl ⟨rfl, ?_⟩
        refine Does.call ?_ (name_three w) ?_
        · go_simp
        · rintro e w' ⟨rfl, hb⟩
          exact ⟨_, rfl, hb, rfl, hG.next hb⟩
      · intro listed σ w a hin hout hl hc hp hG hF
        refine Guarded.some (d := 97) (b := true) rfl rfl ((hin 77 97 rfl (hp ⟨77, .guard⟩ (by simp) rfl)).trans (hF 77 (hp ⟨77, .guard⟩ (by simp) rfl))) ?_
        refine Or.inl ⟨rfl, ?_⟩
        have e98 : a.tmps.getD 98 undef = .string ⟨#[118, 51]⟩ := (hin 78 98 rfl (hp ⟨78, .data⟩ (by simp) rfl)).trans (hF 78 (hp ⟨78, .data⟩ (by simp) rfl))
        refine Does.val (.bool true) (w' := w) ?_ ⟨Below.refl _ _, rfl, hG⟩
        simp only [Array.getD_eq_getD_getElem?] at e98
        go_simp
        (try decide +kernel)
      · intro listed σ w a hin hout hl hc hp hG hF
        refine Guarded.none rfl ?_
        have e97 : a.tmps.getD 97 undef = .bool true := (hin 77 97 rfl (hp ⟨77, .data⟩ (by simp) rfl)).trans (hF 77 (hp ⟨77, .data⟩ (by simp) rfl))
        have e99 : a.tmps.getD 99 undef = .bool true := (hin 79 99 rfl (hp ⟨79, .data⟩ (by simp) rfl)).trans (hF 79 (hp ⟨79, .data⟩ (by simp) rfl))
        refine Does.val (.bool true) (w' := w) ?_ ⟨Below.refl _ _, rfl, hG⟩
        simp only [Array.getD_eq_getD_getElem?] at e97 e99
        go_simp
      · intro listed σ w a hin hout hl hc hp hG hF
        refine Guarded.none rfl ?_
        have e100 : a.tmps.getD 100 undef = .bool true := (hin 80 100 rfl (hp ⟨80, .data⟩ (by simp) rfl)).trans (hF 80 (hp ⟨80, .data⟩ (by simp) rfl))
        refine Does.val (.bool true) (w' := w) ?_ ⟨Below.refl _ _, rfl, hG⟩
        simp only [Array.getD_eq_getD_getElem?] at e100
        go_simp
    · intro listed σ W9 hall hG hF
      rw [show mid _ σ listed _ = (Act.put (Act.put (Act.put (Act.put (Act.put (Act.put (Act.put (Act.put (Act.put (Act.put (Act.put (Act.put (Act.put (Act.put (Act.put (Act.put (Act.put (Act.put (Act.put (Act.put (Act.put (Act.put (Act.put (Act.put (Act.put (Act.put (Act.put (Act.put (Act.put (Act.put (Act.put (Act.put (Act.put (Act.put (Act.put (Act.put (Act.put (Act.put (Act.put (Act.put (Act.put (Act.put (Act.put (Act.put (Act.put (Act.put (Act.put (Act.put (Act.put (Act.put (Act.put (Act.put (Act.put (Act.put (Act.put (Act.put (Act.put (Act.put (Act.put (Act.put (Act.put (Act.put (Act.put (Act.put (Act.put (Act.put (Act.put (Act.put (Act.put (Act.put (Act.put (Act.put (Act.put (Act.put (Act.put (Act.put (Act.put (Act.put (Act.put (Act.put (Act.put (Act.put _ (some 20) (σ 0)) (some 21) (σ 1)) (some 22) (σ 2)) (some 23) (σ 3)) (some 24) (σ 4)) (some 25) (σ 5)) (some 26) (σ 6)) (some 27) (σ 7)) (some 28) (σ 8)) (some 29) (σ 9)) (some 30) (σ 10)) (some 31) (σ 11)) (some 32) (σ 12)) (some 33) (σ 13)) (some 34) (σ 14)) (some 35) (σ 15)) (some 36) (σ 16)) (some 37) (σ 17)) (some 38) (σ 18)) (some 39) (σ 19)) (some 40) (σ 20)) (some 41) (σ 21)) (some 42) (σ 22)) (some 43) (σ 23)) (some 44) (σ 24)) (some 45) (σ 25)) (some 46) (σ 26)) (some 47) (σ 27)) (some 48) (σ 28)) (some 49) (σ 29)) (some 50) (σ 30)) (some 51) (σ 31)) (some 52) (σ 32)) (some 53) (σ 33)) (some 54) (σ 34)) (some 55) (σ 35)) (some 56) (σ 36)) (some 57) (σ 37)) (some 58) (σ 38)) (some 59) (σ 39)) (some 60) (σ 40)) (some 61) (σ 41)) (some 62) (σ 42)) (some 63) (σ 43)) (some 64) (σ 44)) (some 65) (σ 45)) (some 66) (σ 46)) (some 67) (σ 47)) (some 68) (σ 48)) (some 69) (σ 49)) (some 70) (σ 50)) (some 71) (σ 51)) (some 72) (σ 52)) (some 73) (σ 53)) (some 74) (σ 54)) (some 75) (σ 55)) (some 76) (σ 56)) (some 77) (σ 57)) (some 78) (σ 58)) (some 79) (σ 59)) (some 80) (σ 60)) (some 81) (σ 61)) (some 82) (σ 62)) (some 83) (σ 63)) (some 84) (σ 64)) (some 85) (σ 65)) (some 86) (σ 66)) (some 87) (σ 67)) (some 88) (σ 68)) (some 89) (σ 69)) (some 90) (σ 70)) (some 91) (σ 71)) (some 92) (σ 72)) (some 93) (σ 73)) (some 94) (σ 74)) (some 95) (σ 75)) (some 96) (σ 76)) (some 97) (σ 77)) (some 98) (σ 78)) (some 99) (σ 79)) (some 100) (σ 80)) (some 0) (σ 81)) from (mid_all hall).trans rfl]
      generalize σ 0 = tt0
      generalize σ 1 = tt1
      generalize σ 2 = tt2
      generalize σ 3 = tt3
      generalize σ 4 = tt4
      generalize σ 5 = tt5
      generalize σ 6 = tt6
      generalize σ 7 = tt7
      generalize σ 8 = tt8
      generalize σ 9 = tt9
      generalize σ 10 = tt10
      generalize σ 11 = tt11
      generalize σ 12 = tt12
      generalize σ 13 = tt13
      generalize σ 14 = tt14
      generalize σ 15 = tt15
      generalize σ 16 = tt16
      generalize σ 17 = tt17
      generalize σ 18 = tt18
      generalize σ 19 = tt19
      generalize σ 20 = tt20
      generalize σ 21 = tt21
      generalize σ 22 = tt22
      generalize σ 23 = tt23
      generalize σ 24 = tt24
      generalize σ 25 = tt25
      generalize σ 26 = tt26
      generalize σ 27 = tt27
      generalize σ 28 = tt28
      generalize σ 29 = tt29
      generalize σ 30 = tt30
      generalize σ 31 = tt31
      generalize σ 32 = tt32
      generalize σ 33 = tt33
      generalize σ 34 = tt34
      generalize σ 35 = tt35
      generalize σ 36 = tt36
      generalize σ 37 = tt37
      generalize σ 38 = tt38
      generalize σ 39 = tt39
      generalize σ 40 = tt40
      generalize σ 41 = tt41
      generalize σ 42 = tt42
      generalize σ 43 = tt43
      generalize σ 44 = tt44
      generalize σ 45 = tt45
      generalize σ 46 = tt46
      generalize σ 47 = tt47
      generalize σ 48 = tt48
      generalize σ 49 = tt49
      generalize σ 50 = tt50
      generalize σ 51 = tt51
      generalize σ 52 = tt52
      generalize σ 53 = tt53
      generalize σ 54 = tt54
      generalize σ 55 = tt55
      generalize σ 56 = tt56
      generalize σ 57 = tt57
      generalize σ 58 = tt58
      generalize σ 59 = tt59
      generalize σ 60 = tt60
      generalize σ 61 = tt61
      generalize σ 62 = tt62
      generalize σ 63 = tt63
      generalize σ 64 = tt64
      generalize σ 65 = tt65
      generalize σ 66 = tt66
      generalize σ 67 = tt67
      generalize σ 68 = tt68
      generalize σ 69 = tt69
      generalize σ 70 = tt70
      generalize σ 71 = tt71
      generalize σ 72 = tt72
      generalize σ 73 = tt73
      generalize σ 74 = tt74
      generalize σ 75 = tt75
      generalize σ 76 = tt76
      generalize σ 77 = tt77
      generalize σ 78 = tt78
      generalize σ 79 = tt79
      generalize σ 80 = tt80
      rw [show σ 81 = .bool true from hF 81 (by decide)]
      simp only [Act.put, List.setIfInBounds_toArray, List.set_cons_zero, List.set_cons_succ]
      have TG := hG
      clear hF hG hall
      clear σ
      have HE := hide (HB5.out.next TG)
      clear TG SOF HT HS HGG H5
      go_wp2_with fail
      go_ret
      exact ⟨rfl, HE.out⟩
end Go.Proofs.YtakcgkohnomgjaaGreatDoor
