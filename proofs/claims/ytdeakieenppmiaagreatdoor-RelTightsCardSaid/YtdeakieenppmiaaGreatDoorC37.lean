/- Texts of one seat, put together: RScale RSub Summing. -/
import Derived.Test.YtdeakieenppmiaaGreatDoorC36
import Derived.Test.YtdeakieenppmiaaGreatDoorC24
import Derived.Test.YtdeakieenppmiaaGreatDoorC21
set_option linter.unusedVariables false
set_option linter.unusedSimpArgs false
set_option maxRecDepth 100000
set_option maxHeartbeats 16000000
/- plumblineref03.Scale. -/
namespace Go.Proofs.YtdeakieenppmiaaGreatDoor
open Go.RowKit
open Tm

theorem rtscale_any (v u : Value) (L : List (Int × Int)) (K N : Int) (k kn : Nat) (w0 : World) (hv : TIn w0 v L K k) (hu : ZIn w0 u N kn) (hl : L.length ≤ 1099511) (hk : k ≤ 109951162) (hj : kn ≤ 109951162) : Calls Tryz.prog 42 #[v, u] w0 (TPost (norm (L.map fun p => (p.1, p.2 * N))) (K * N) (k + kn + L.length) w0) := by
 have hu0 := hu
 obtain ⟨A, n, c, s, B, m, d, rfl, hp, hc1, hc2, hK⟩ := hv
 obtain ⟨s2, B2, m2, d2, ys, rfl, -⟩ := hu
 have hln : L.length = n := hp.len
 obtain ⟨z0, z1, z2, z3, z4⟩ := bstart3 28 26 28 w0 #[.slice A n c, .bool s, .slice B m d] #[.bool s2, .slice B2 m2 d2] #[.slice none 0 0, .bool false, .slice none 0 0]
 have x1 := z0.c1
 have x2 := z0.c2
 have y1' := z1.cell 0 _ rfl
 have y2' := z1.cell 1 _ rfl
 have hcl := rzmul_z (.agg #[.bool s, .slice B m d]) (.agg #[.bool s2, .slice B2 m2 d2]) K N k kn _ (hK.below z3) (hu0.below z3) (by omega) (by omega)
 go_enter Tryz.func42, Tryz.ntmps42
 go_wp2_with fail
 refine hcl.mono ?_
 rintro e w1 ⟨v1, rfl, r1, b1⟩
 obtain ⟨s1, A1, n1, c1, rfl⟩ := r1.form
 have t1 := z3.next b1
 have q0 := z0.next b1
 have q1 := z1.next b1
 have q2 := z2.next b1
 have hz3 := hide (show w0.heap.size + 3 ≤ w1.heap.size by have := b1.size; simp at this; omega)
 obtain ⟨y0, y1, y2⟩ := bstart1 28 w1 #[.slice none 0 0, .bool s1, .slice A1 n1 c1]
 have HR1 := hide (r1.below y1)
 have XB := hide y0
 have XP := hide (q0.next y1)
 have XN := hide (q1.next y1)
 have XR := hide (q2.next y1)
 have HW1 := hide (t1.next y1)
 have HPP := hide hp
 have HU := hide hu0
 have HLN := hide hln
 clear hcl r1 t1 q0 q1 q2 y0 y1 y2 x1 x2 y1' y2' z0 z1 z2 z3 z4 b1 hp hK hu0 hln
 go_wp2_with fail
 generalize hW1 : w1.alloc (.cells #[.slice none 0 0, .bool s1, .slice A1 n1 c1] 28) = W1 at *
 clear hW1
 have HG8 := hide (show w0.heap.size + 2 < w1.heap.size by have := hz3.out; omega)
 have HE := hide (show EachRel2 W1 w1.heap.size L K (fun z => z * N) (k + kn) 0 W1 from
  ⟨[], none, 0, s1, A1, n1, c1, XB.out, LRow.nil _ _ _ _, rfl, rfl, fun p hp => by simp at hp, HR1.out, Only.refl _ _, Kp.refl _⟩)
 go_loopw [6] (fun i wr => ∃ q : Nat, q ≤ n ∧ i = .int .i64 q ∧ Hid (EachRel2 W1 w1.heap.size L K (fun z => z * N) (k + kn) q wr)) (fun i _ => n - (intOf i).toNat)
 case atStart => exact ⟨0, Nat.zero_le _, rfl, HE⟩
 case round =>
  obtain ⟨q, hq, rfl, HR⟩ := hrel
  obtain ⟨rs, A4, c4, s4, B4, m4, d4, xg, lr, hrl, hlin, hrz, zK, oW, kW⟩ := HR.out
  have hT : Below w0.heap.size w0 wr := HW1.out.trans (oW.below HW1.out.size (by have := HG8.out; omega))
  have za := (XP.out.other oW (by have := HG8.out; omega)).c0
  have hn1 : n ≤ 1099511 := by have := HLN.out; omega
  by_cases hqn : q < n
  · obtain ⟨bb, o, p, rfl, hlt, hLp, c0, c1, c2, hz⟩ := (HPP.out.below hT).at_ hqn
    have HLp := hide hLp
    have HXG := hide xg
    have HL := hide lr
    have HRL := hide hrl
    have HLI := hide hlin
    have HRZ := hide hrz
    have HZK := hide zK
    have HOW := hide oW
    have HKW := hide kW
    have HWS := hide oW.size
    have HTT := hide hT
    have HRW := hide (show ∀ gs, (Value.slice A4 q c4).ownBlock = some gs → gs < wr.heap.size from fun gs e => (lr.lt gs e).2)
    have HF6 := hide (fun W (h : Below wr.heap.size wr W) => rzmul_z (.agg #[.bool p.s, .slice p.B p.m p.d]) (.agg #[.bool s2, .slice B2 m2 d2]) p.Z N k kn W (hz.below h) (HU.out.below (HTT.out.next h)) (by omega) (by omega))
    have zt := XP.out.other oW (by have := HG8.out; omega)
    have zn := XN.out.other oW (by have := HG8.out; omega)
    have SOF := hide (show ∀ W, Below wr.heap.size wr W → (W.cell? ⟨w1.heap.size, 0, none⟩ = some (.slice A4 q c4) ∧ W.cell? ⟨w0.heap.size + 1, 0, none⟩ = some (.bool s2) ∧ W.cell? ⟨w0.heap.size + 1, 1, none⟩ = some (.slice B2 m2 d2) ∧ W.cell? ⟨bb, o + q * 3, none⟩ = some (.int .i64 p.v) ∧ W.cell? ⟨bb, o + q * 3 + 1, none⟩ = some (.bool p.s) ∧ W.cell? ⟨bb, o + q * 3 + 2, none⟩ = some (.slice p.B p.m p.d) ∧ W.cell? ⟨w0.heap.size, 0, none⟩ = some (.slice (some ⟨bb, o, none⟩) n c)) from fun W h => ⟨(HXG.out.next h).c0, (zn.next h).cell 0 _ rfl, (zn.next h).cell 1 _ rfl, (h.cell (p := ⟨bb, o + q * 3, none⟩) hlt).trans c0, (h.cell (p := ⟨bb, o + q * 3 + 1, none⟩) hlt).trans c1, (h.cell (p := ⟨bb, o + q * 3 + 2, none⟩) hlt).trans c2, (zt.next h).c0⟩)
    clear xg lr hrl hlin hrz zK oW kW hT hLp c0 c1 c2 hz zt zn HR
    go_wp2_with fail
    clear za
    refine wp_drawnL (by kernel_rfl) (by kernel_rfl) (by kernel_rfl) (by kernel_rfl) (Tg (Value.slice A4 q c4).ownBlock) (fun j v w => match j with | 0 => v = .pointer (some ⟨w1.heap.size, 0, none⟩) | 1 => v = .slice A4 q c4 | 2 => v = .pointer (some ⟨w0.heap.size, 0, none⟩) | 3 => v = .slice (some ⟨bb, o, none⟩) n c | 4 => v = .int .i64 (q : Int) | 5 => v = .pointer (some ⟨bb, o + q * 3, none⟩) | 6 => v = .pointer (some ⟨bb, o + q * 3, none⟩) | 7 => v = .int .i64 p.v | 8 => v = .pointer (some ⟨w0.heap.size, 0, none⟩) | 9 => v = .slice (some ⟨bb, o, none⟩) n c | 10 => v = .int .i64 (q : Int) | 11 => v = .pointer (some ⟨bb, o + q * 3, none⟩) | 12 => v = .pointer (some ⟨bb, o + q * 3 + 1, none⟩) | 13 => v = .agg #[.bool p.s, .slice p.B p.m p.d] | 14 => v = .agg #[.bool s2, .slice B2 m2 d2] | 15 => ∃ s B m d, v = .agg #[.bool s, .slice B m d] ∧ ZRes w (.agg #[.bool s, .slice B m d]) (p.Z * N) (k + kn) | 16 => ∃ s B m d, v = .agg #[.int .i64 p.v, .bool s, .slice B m d] ∧ ZRes w (.agg #[.bool s, .slice B m d]) (p.Z * N) (k + kn) | 17 => ∃ gs s B m d, v = .slice (some ⟨gs, 0, none⟩) 1 1 ∧ wr.heap.size ≤ gs ∧ Box 60 w gs #[.int .i64 p.v, .bool s, .slice B m d] ∧ ZRes w (.agg #[.bool s, .slice B m d]) (p.Z * N) (k + kn) | 18 => True | 19 => v = .pointer (some ⟨w1.heap.size, 0, none⟩) | _ => True) (GA 18 wr (fun v w => ∃ p2 : PV, p2.v = p.v ∧ p2.Z = (p.Z * N) ∧ LRow 60 3 w W1.heap.size v (rs ++ [p2]).length (flat (rs ++ [p2])) ∧ ZRes w p2.num p2.Z (k + kn) ∧ Tg (Value.slice A4 q c4).ownBlock wr w)) ?_ (fun _ => GA.start _ (bl_drewN wr 1)) ?_ ?_
    · intro j v w w' hT h
      match j, h with
      | 0, h => exact h
      | 1, h => exact h
      | 2, h => exact h
      | 3, h => exact h
      | 4, h => exact h
      | 5, h => exact h
      | 6, h => exact h
      | 7, h => exact h
      | 8, h => exact h
      | 9, h => exact h
      | 10, h => exact h
      | 11, h => exact h
      | 12, h => exact h
      | 13, h => exact h
      | 14, h => exact h
      | 15, h => exact (by obtain ⟨s, B, m, d, e, z⟩ := h; exact ⟨s, B, m, d, e, z.kp hT.2⟩)
      | 16, h => exact (by obtain ⟨s, B, m, d, e, z⟩ := h; exact ⟨s, B, m, d, e, z.kp hT.2⟩)
      | 17, h => exact (by obtain ⟨gs, s, B, m, d, e, h1, h2, h3⟩ := h; exact ⟨gs, s, B, m, d, e, h1, h2.grown hT.1 (fun e => by have := HRW.out gs e.symm; omega), h3.kp hT.2⟩)
      | 18, h => exact trivial
      | 19, h => exact h
      | j + 20, h => trivial
    · refine ⟨?_, ?_, ?_, ?_, ?_, ?_, ?_, ?_, ?_, ?_, ?_, ?_, ?_, ?_, ?_, ?_, ?_, ?_, ?_, ?_, trivial⟩
      · intro listed σ w a hin hout hl hla hs hc hp hG hF
        refine Guarded.none rfl ?_
        have e5 : a.tmps.getD 5 undef = .pointer (some ⟨w1.heap.size, 0, none⟩) := hout 5 (outB_spec (by kernel_rfl))
        refine Does.val (.pointer (some ⟨w1.heap.size, 0, none⟩)) (w' := w) ?_ ⟨Tg.refl _ _, rfl, hG.same (by decide)⟩
        simp only [Array.getD_eq_getD_getElem?] at e5
        go_simp
      · intro listed σ w a hin hout hl hla hs hc hp hG hF
        refine Guarded.none rfl ?_
        have e19 : a.tmps.getD 19 undef = .pointer (some ⟨w1.heap.size, 0, none⟩) := (hin 0 19 rfl (hp ⟨0, .data⟩ (by simp) rfl)).trans (hF 0 (hp ⟨0, .data⟩ (by simp) rfl))
        have CC := SOF.out w (hG.1 (un_next (k := 18) hc hl (by kernel_rfl))); obtain ⟨C0, D0, D1, E0, E1, E2, F0⟩ := CC
        refine Does.val (.slice A4 q c4) (w' := w) ?_ ⟨Tg.refl _ _, rfl, hG.same (by decide)⟩
        go_simp
      · intro listed σ w a hin hout hl hla hs hc hp hG hF
        refine Guarded.none rfl ?_
        have e2 : a.tmps.getD 2 undef = .pointer (some ⟨w0.heap.size, 0, none⟩) := hout 2 (outB_spec (by kernel_rfl))
        refine Does.val (.pointer (some ⟨w0.heap.size, 0, none⟩)) (w' := w) ?_ ⟨Tg.refl _ _, rfl, hG.same (by decide)⟩
        simp only [Array.getD_eq_getD_getElem?] at e2
        go_simp
      · intro listed σ w a hin hout hl hla hs hc hp hG hF
        refine Guarded.none rfl ?_
        have e21 : a.tmps.getD 21 undef = .pointer (some ⟨w0.heap.size, 0, none⟩) := (hin 2 21 rfl (hp ⟨2, .data⟩ (by simp) rfl)).trans (hF 2 (hp ⟨2, .data⟩ (by simp) rfl))
        have CC := SOF.out w (hG.1 (un_next (k := 18) hc (un_next (k := 17) hc (un_next (k := 16) hc (un_next (k := 7) hc (un_next (k := 6) hc (un_next (k := 5) hc hl (by kernel_rfl)) (by kernel_rfl)) (by kernel_rfl)) (by kernel_rfl)) (by kernel_rfl)) (by kernel_rfl))); obtain ⟨C0, D0, D1, E0, E1, E2, F0⟩ := CC
        refine Does.val (.slice (some ⟨bb, o, none⟩) n c) (w' := w) ?_ ⟨Tg.refl _ _, rfl, hG.same (by decide)⟩
        go_simp
      · intro listed σ w a hin hout hl hla hs hc hp hG hF
        refine Guarded.none rfl ?_
        have e6 : a.tmps.getD 6 undef = .int .i64 (q : Int) := hout 6 (outB_spec (by kernel_rfl))
        refine Does.val (.int .i64 (q : Int)) (w' := w) ?_ ⟨Tg.refl _ _, rfl, hG.same (by decide)⟩
        simp only [Array.getD_eq_getD_getElem?] at e6
        go_simp
      · intro listed σ w a hin hout hl hla hs hc hp hG hF
        refine Guarded.none rfl ?_
        have e22 : a.tmps.getD 22 undef = .slice (some ⟨bb, o, none⟩) n c := (hin 3 22 rfl (hp ⟨3, .data⟩ (by simp) rfl)).trans (hF 3 (hp ⟨3, .data⟩ (by simp) rfl))
        have e23 : a.tmps.getD 23 undef = .int .i64 (q : Int) := (hin 4 23 rfl (hp ⟨4, .data⟩ (by simp) rfl)).trans (hF 4 (hp ⟨4, .data⟩ (by simp) rfl))
        refine Does.val (.pointer (some ⟨bb, o + q * 3, none⟩)) (w' := w) ?_ ⟨Tg.refl _ _, rfl, hG.same (by decide)⟩
        simp only [Array.getD_eq_getD_getElem?] at e22 e23
        go_simp
        (try (intro hh; exfalso; omega))
      · intro listed σ w a hin hout hl hla hs hc hp hG hF
        refine Guarded.none rfl ?_
        have e24 : a.tmps.getD 24 undef = .pointer (some ⟨bb, o + q * 3, none⟩) := (hin 5 24 rfl (hp ⟨5, .data⟩ (by simp) rfl)).trans (hF 5 (hp ⟨5, .data⟩ (by simp) rfl))
        refine Does.val (.pointer (some ⟨bb, o + q * 3, none⟩)) (w' := w) ?_ ⟨Tg.refl _ _, rfl, hG.same (by decide)⟩
        simp only [Array.getD_eq_getD_getElem?] at e24
        go_simp
      · intro listed σ w a hin hout hl hla hs hc hp hG hF
        refine Guarded.none rfl ?_
        have e25 : a.tmps.getD 25 undef = .pointer (some ⟨bb, o + q * 3, none⟩) := (hin 6 25 rfl (hp ⟨6, .data⟩ (by simp) rfl)).trans (hF 6 (hp ⟨6, .data⟩ (by simp) rfl))
        have CC := SOF.out w (hG.1 (un_next (k := 18) hc (un_next (k := 17) hc (un_next (k := 16) hc hl (by kernel_rfl)) (by kernel_rfl)) (by kernel_rfl))); obtain ⟨C0, D0, D1, E0, E1, E2, F0⟩ := CC
        refine Does.val (.int .i64 p.v) (w' := w) ?_ ⟨Tg.refl _ _, rfl, hG.same (by decide)⟩
        go_simp
      · intro listed σ w a hin hout hl hla hs hc hp hG hF
        refine Guarded.none rfl ?_
        have e2 : a.tmps.getD 2 undef = .pointer (some ⟨w0.heap.size, 0, none⟩) := hout 2 (outB_spec (by kernel_rfl))
        refine Does.val (.pointer (some ⟨w0.heap.size, 0, none⟩)) (w' := w) ?_ ⟨Tg.refl _ _, rfl, hG.same (by decide)⟩
        simp only [Array.getD_eq_getD_getElem?] at e2
        go_simp
      · intro listed σ w a hin hout hl hla hs hc hp hG hF
        refine Guarded.none rfl ?_
        have e27 : a.tmps.getD 27 undef = .pointer (some ⟨w0.heap.size, 0, none⟩) := (hin 8 27 rfl (hp ⟨8, .data⟩ (by simp) rfl)).trans (hF 8 (hp ⟨8, .data⟩ (by simp) rfl))
        have CC := SOF.out w (hG.1 (un_next (k := 18) hc (un_next (k := 15) hc (un_next (k := 13) hc (un_next (k := 12) hc (un_next (k := 11) hc hl (by kernel_rfl)) (by kernel_rfl)) (by kernel_rfl)) (by kernel_rfl)) (by kernel_rfl))); obtain ⟨C0, D0, D1, E0, E1, E2, F0⟩ := CC
        refine Does.val (.slice (some ⟨bb, o, none⟩) n c) (w' := w) ?_ ⟨Tg.refl _ _, rfl, hG.same (by decide)⟩
        go_simp
      · intro listed σ w a hin hout hl hla hs hc hp hG hF
        refine Guarded.none rfl ?_
        have e6 : a.tmps.getD 6 undef = .int .i64 (q : Int) := hout 6 (outB_spec (by kernel_rfl))
        refine Does.val (.int .i64 (q : Int)) (w' := w) ?_ ⟨Tg.refl _ _, rfl, hG.same (by decide)⟩
        simp only [Array.getD_eq_getD_getElem?] at e6
        go_simp
      · intro listed σ w a hin hout hl hla hs hc hp hG hF
        refine Guarded.none rfl ?_
        have e28 : a.tmps.getD 28 undef = .slice (some ⟨bb, o, none⟩) n c := (hin 9 28 rfl (hp ⟨9, .data⟩ (by simp) rfl)).trans (hF 9 (hp ⟨9, .data⟩ (by simp) rfl))
        have e29 : a.tmps.getD 29 undef = .int .i64 (q : Int) := (hin 10 29 rfl (hp ⟨10, .data⟩ (by simp) rfl)).trans (hF 10 (hp ⟨10, .data⟩ (by simp) rfl))
        refine Does.val (.pointer (some ⟨bb, o + q * 3, none⟩)) (w' := w) ?_ ⟨Tg.refl _ _, rfl, hG.same (by decide)⟩
        simp only [Array.getD_eq_getD_getElem?] at e28 e29
        go_simp
        (try (intro hh; exfalso; omega))
      · intro listed σ w a hin hout hl hla hs hc hp hG hF
        refine Guarded.none rfl ?_
        have e30 : a.tmps.getD 30 undef = .pointer (some ⟨bb, o + q * 3, none⟩) := (hin 11 30 rfl (hp ⟨11, .data⟩ (by simp) rfl)).trans (hF 11 (hp ⟨11, .data⟩ (by simp) rfl))
        refine Does.val (.pointer (some ⟨bb, o + q * 3 + 1, none⟩)) (w' := w) ?_ ⟨Tg.refl _ _, rfl, hG.same (by decide)⟩
        simp only [Array.getD_eq_getD_getElem?] at e30
        go_simp
      · intro listed σ w a hin hout hl hla hs hc hp hG hF
        refine Guarded.none rfl ?_
        have e31 : a.tmps.getD 31 undef = .pointer (some ⟨bb, o + q * 3 + 1, none⟩) := (hin 12 31 rfl (hp ⟨12, .data⟩ (by simp) rfl)).trans (hF 12 (hp ⟨12, .data⟩ (by simp) rfl))
        have CC := SOF.out w (hG.1 (un_next (k := 18) hc (un_next (k := 15) hc hl (by kernel_rfl)) (by kernel_rfl))); obtain ⟨C0, D0, D1, E0, E1, E2, F0⟩ := CC
        refine Does.val (.agg #[.bool p.s, .slice p.B p.m p.d]) (w' := w) ?_ ⟨Tg.refl _ _, rfl, hG.same (by decide)⟩
        go_simp
      · intro listed σ w a hin hout hl hla hs hc hp hG hF
        refine Guarded.none rfl ?_
        have e3 : a.tmps.getD 3 undef = .pointer (some ⟨w0.heap.size + 1, 0, none⟩) := hout 3 (outB_spec (by kernel_rfl))
        have CC := SOF.out w (hG.1 (un_next (k := 18) hc (un_next (k := 15) hc hl (by kernel_rfl)) (by kernel_rfl))); obtain ⟨C0, D0, D1, E0, E1, E2, F0⟩ := CC
        refine Does.val (.agg #[.bool s2, .slice B2 m2 d2]) (w' := w) ?_ ⟨Tg.refl _ _, rfl, hG.same (by decide)⟩
        go_simp
      · intro listed σ w a hin hout hl hla hs hc hp hG hF
        refine Guarded.none rfl ?_
        have e32 : a.tmps.getD 32 undef = .agg #[.bool p.s, .slice p.B p.m p.d] := (hin 13 32 rfl (hp ⟨13, .data⟩ (by simp) rfl)).trans (hF 13 (hp ⟨13, .data⟩ (by simp) rfl))
        have e33 : a.tmps.getD 33 undef = .agg #[.bool s2, .slice B2 m2 d2] := (hin 14 33 rfl (hp ⟨14, .data⟩ (by simp) rfl)).trans (hF 14 (hp ⟨14, .data⟩ (by simp) rfl))
        refine Does.call ?_ (HF6.out w (hG.1 (un_next (k := 18) hc hl (by kernel_rfl)))) ?_
        · go_simp; (try exact eg _ _)
        · rintro e w' ⟨v, rfl, z, hb⟩
          exact ⟨_, rfl, Tg.of_below hb, (by obtain ⟨s, B, m, d, rfl⟩ := z.form; exact ⟨s, B, m, d, rfl, z⟩), hG.call (by decide) (un_next (k := 18) hc hl (by kernel_rfl)) hb⟩
      · intro listed σ w a hin hout hl hla hs hc hp hG hF
        refine Guarded.none rfl ?_
        have e26 : a.tmps.getD 26 undef = .int .i64 p.v := (hin 7 26 rfl (hp ⟨7, .data⟩ (by simp) rfl)).trans (hF 7 (hp ⟨7, .data⟩ (by simp) rfl))
        have e34 := hin 15 34 rfl (hp ⟨15, .data⟩ (by simp) rfl)
        obtain ⟨s15, B15, m15, d15, ev15, z15⟩ := hF 15 (hp ⟨15, .data⟩ (by simp) rfl)
        rw [ev15] at e34
        refine Does.val (.agg #[.int .i64 p.v, .bool s15, .slice B15 m15 d15]) (w' := w) ?_ ⟨Tg.refl _ _, ⟨s15, B15, m15, d15, rfl, z15⟩, hG.same (by decide)⟩
        simp only [Array.getD_eq_getD_getElem?] at e26 e34
        go_simp
      · intro listed σ w a hin hout hl hla hs hc hp hG hF
        refine Guarded.none rfl ?_
        have e35 := hin 16 35 rfl (hp ⟨16, .data⟩ (by simp) rfl)
        obtain ⟨s16, B16, m16, d16, ev16, z16⟩ := hF 16 (hp ⟨16, .data⟩ (by simp) rfl)
        rw [ev16] at e35
        refine Does.val (.slice (some ⟨w.heap.size, 0, none⟩) 1 1) (w' := w.alloc (.cells #[.int .i64 p.v, .bool s16, .slice B16 m16 d16] 60)) ?_ ⟨Tg.of_below (bl_alloc w _), ⟨w.heap.size, s16, B16, m16, d16, rfl, (hG.1 (un_next (k := 18) hc hl (by kernel_rfl))).size, Box.new _ _ _, z16.alloc _⟩, hG.call (by decide) (un_next (k := 18) hc hl (by kernel_rfl)) (bl_alloc w _)⟩
        simp only [Array.getD_eq_getD_getElem?] at e35
        go_simp
      · intro listed σ w a hin hout hl hla hs hc hp hG hF
        refine Guarded.none rfl ?_
        have e20 : a.tmps.getD 20 undef = .slice A4 q c4 := (hin 1 20 rfl (hp ⟨1, .data⟩ (by simp) rfl)).trans (hF 1 (hp ⟨1, .data⟩ (by simp) rfl))
        have e36 := hin 17 36 rfl (hp ⟨17, .data⟩ (by simp) rfl)
        obtain ⟨g17, s17, B17, m17, d17, ev17, hg17, x17, z17⟩ := hF 17 (hp ⟨17, .data⟩ (by simp) rfl)
        rw [ev17] at e36
        have hl0 := hl
        have hB := hG.1 hl
        have hl := HL.out.below hB
        obtain ⟨i0, hi0, hz0, hz1, hz2⟩ := info_parts part_info
        obtain ⟨v', w', hr, h2, h3⟩ := run_append_lrow (P := Tryz.prog) w W1.heap.size 22 22 60 i0 _ 3 40 Tryz.underlying22 hi0 hz0 hz1 hz2 rfl (by decide) part_zero_nls (.slice A4 q c4) q (flat rs) hl ⟨g17, 0, none⟩ 1 1 (flat [⟨p.v, s17, B17, m17, d17, (p.Z * N)⟩]) rfl (fun jj u hu => by rw [addr_add, Nat.zero_add]; exact x17.cell jj u (by simpa [flat, PV.cells] using hu)) (flat_one _) (flat_nls _) (by unfold maxLen; omega) (by omega) (Nat.le_trans HWS.out hB.size)
        have hk := hl.kp h3
        refine Does.val v' (w' := w') ?_ ⟨⟨h3, hk⟩, trivial, GA.on_ hl0 (by rw [hs]; decide) ⟨⟨p.v, s17, B17, m17, d17, (p.Z * N)⟩, rfl, rfl, ?_, z17.kp hk, ⟨World.grownBy.trans2 hB h3, (Kp.of_below hB).trans hk⟩⟩⟩
        · exact exec_append rfl e20 e36 hr
        · rw [flat_append, List.length_append, HRL.out]; exact h2
      · intro listed σ w a hin hout hl hla hs hc hp hG hF
        refine Guarded.none rfl ?_
        have e5 : a.tmps.getD 5 undef = .pointer (some ⟨w1.heap.size, 0, none⟩) := hout 5 (outB_spec (by kernel_rfl))
        refine Does.val (.pointer (some ⟨w1.heap.size, 0, none⟩)) (w' := w) ?_ ⟨Tg.refl _ _, rfl, hG.same (by decide)⟩
        simp only [Array.getD_eq_getD_getElem?] at e5
        go_simp
    · intro o ho
      injection ho with ho; subst ho
      intro listed σ w a hall hin hout hG hF
      refine Guarded.none rfl ?_
      have e38 : a.tmps.getD 38 undef = .pointer (some ⟨w1.heap.size, 0, none⟩) := (hin 19 38 rfl (by decide)).trans (hF 19 (by decide))
      have e37 := hin 18 37 rfl (by decide)
      have z18 := hF 18 (by decide)
      obtain ⟨p2, e1, e2, l2, z2, tg⟩ := hG.2 (hall 18 (by decide))
      have hlr := HL.out
      have x9 := HXG.out.grown tg.1 (fun e => hlr.offTerm HXG.out e.symm)
      obtain ⟨A2, c2, hv2, -, -, -⟩ := l2.len
      have hlen2 : (rs ++ [p2]).length = q + 1 := by simp [HRL.out]
      rw [hlen2] at hv2
      rw [hv2] at e37 l2
      have u0 := x9.c0
      have u1 := x9.fr 0
      refine Does.skip (w' := w.setCell ⟨w1.heap.size, 0, none⟩ (.slice A2 (q + 1) c2)) (by go_simp) ?_
      have HE2 := hide (EachRel2.step (f := fun z => z * N) HXG.out hlr HRL.out HLI.out HRZ.out HZK.out HOW.out HKW.out HLp.out e1 e2 l2 z2 tg)
      rw [show fin _ σ undef _ = (Act.put (Act.put (Act.put (Act.put (Act.put (Act.put (Act.put (Act.put (Act.put (Act.put (Act.put (Act.put (Act.put (Act.put (Act.put (Act.put (Act.put (Act.put (Act.put (Act.put (Act.put _ (some 19) (σ 0)) (some 20) (σ 1)) (some 21) (σ 2)) (some 22) (σ 3)) (some 23) (σ 4)) (some 24) (σ 5)) (some 25) (σ 6)) (some 26) (σ 7)) (some 27) (σ 8)) (some 28) (σ 9)) (some 29) (σ 10)) (some 30) (σ 11)) (some 31) (σ 12)) (some 32) (σ 13)) (some 33) (σ 14)) (some 34) (σ 15)) (some 35) (σ 16)) (some 36) (σ 17)) (some 37) (σ 18)) (some 38) (σ 19)) none undef) from (fin_all hall).trans rfl]
      simp only [Act.put, List.setIfInBounds_toArray, List.set_cons_zero, List.set_cons_succ]
      generalize σ 0 = tt0; generalize σ 1 = tt1; generalize σ 2 = tt2; generalize σ 3 = tt3; generalize σ 4 = tt4; generalize σ 5 = tt5; generalize σ 6 = tt6; generalize σ 7 = tt7; generalize σ 8 = tt8; generalize σ 9 = tt9; generalize σ 10 = tt10; generalize σ 11 = tt11; generalize σ 12 = tt12; generalize σ 13 = tt13; generalize σ 14 = tt14; generalize σ 15 = tt15; generalize σ 16 = tt16; generalize σ 17 = tt17; generalize σ 18 = tt18 at *; generalize σ 19 = tt19
      clear hF hG hall hin hout SOF HF6 HRW l2 z2 tg x9 u0 u1 hlen2
      generalize w.setCell ⟨w1.heap.size, 0, none⟩ (.slice A2 (q + 1) c2) = w8 at *
      go_wp2_with fail
      go_roundw
      case rel => exact ⟨q + 1, by omega, by go_num, HE2⟩
      case measure => simp [intOf] <;> omega
  · obtain rfl : q = n := by omega
    have hL2 := hide (show lin rs = L.map (fun p => (p.1, p.2 * N)) by
      rw [hlin, List.take_of_length_le (by have := HLN.out; omega)])
    have hR := XR.out.other oW (by have := HG8.out; omega)
    obtain ⟨A', c', hv', hc1', hc2', -⟩ := lr.len
    injection hv' with e1' e2' e3'
    subst e1' e3'
    have HT := hide (show TIn wr (.agg #[.slice A4 q c4, .bool s4, .slice B4 m4 d4]) (L.map fun p => (p.1, p.2 * N)) (K * N) (k + kn) from ⟨A4, q, c4, s4, B4, m4, d4, rfl, by rw [← hL2.out]; exact ⟨rs, lr.parts hrl (fun p hp => (hrz p hp).in_), rfl⟩, hc1', hc2', zK.in_⟩)
    have hpl := rplain_any _ _ _ _ _ HT.out (by rw [List.length_map]; exact hl) (by omega)
    rw [List.length_map] at hpl
    have HB := hide hT
    have x0 := xg.c0
    have x1 := xg.c1
    have x2 := xg.c2
    clear lr hrl hlin hrz zK oW kW HR xg hT
    go_wp2_with fail
    refine hpl.mono ?_
    rintro e w5 ⟨v5, rfl, r5, b5⟩
    obtain ⟨A5, n5, c5, s5, B5, m5, d5, rfl⟩ := r5.form
    have hR5 := hR.next b5
    go_wp2_with (with_reducible refine wpList_store_t rfl _ _ rfl (w0.heap.size + 1 + 1) _ _ _ _ _ _ _ rfl rfl _ _ _ hR5 ?_; intro w7 k7 ho7)
    refine bodyPost_t rfl rfl k7 rfl ?_
    exact ⟨_, rfl, r5.only hR5 ho7, zback (HB.out.next b5) (by omega) ho7⟩
end Go.Proofs.YtdeakieenppmiaaGreatDoor
/- plumblineref03.Sub. -/
namespace Go.Proofs.YtdeakieenppmiaaGreatDoor
open Go.RowKit
open Tm

theorem rtsub_any (v u : Value) (L M : List (Int × Int)) (K KM : Int) (k : Nat) (w0 : World) (hv : TIn w0 v L K k) (hu : TIn w0 u M KM k) (hl : L.length ≤ 500000) (hm : M.length ≤ 500000) (hk : k ≤ 10995116) :
   Calls Tryz.prog 52 #[v, u] w0 (TPost (norm (L ++ M.map fun p => (p.1, -1 * p.2))) (K - KM) (k + 2 + M.length + 1 + (L.length + M.length)) w0) := by
 have hv0 := hv
 have hu0 := hu
 obtain ⟨A, n, c, s, B, m, d, rfl, -⟩ := hv
 obtain ⟨A2, n2, c2, s2, B2, m2, d2, rfl, -⟩ := hu
 obtain ⟨z0, z1, z2, z3, z4⟩ := bstart3 28 28 28 w0 #[.slice A n c, .bool s, .slice B m d] #[.slice A2 n2 c2, .bool s2, .slice B2 m2 d2] #[.slice none 0 0, .bool false, .slice none 0 0]
 go_enter Tryz.func52, Tryz.ntmps52
 go_wp2_with fail
 generalize hW0 : (((w0.alloc (.cells #[.slice A n c, .bool s, .slice B m d] 28)).alloc (.cells #[.slice A2 n2 c2, .bool s2, .slice B2 m2 d2] 28)).alloc (.cells #[.slice none 0 0, .bool false, .slice none 0 0] 28)) = W0 at *
 clear hW0
 have HB := hide (hu0.below z3)
 have HA := hide (hv0.below z3)
 have R0 := hide z2
 have T0 := hide z3
 have HAD := hide (fun W v (h : TRes W v (norm (M.map fun p => (p.1, p.2 * -1))) (KM * -1) (k + 2 + M.length)) (hb : Below W0.heap.size W0 W) => (show Calls Tryz.prog 91 #[.agg #[.slice A n c, .bool s, .slice B m d], v] W (TPost (norm (L ++ (norm (M.map fun p => (p.1, p.2 * -1))))) (K + KM * -1) (k + 2 + M.length + 1 + (L.length + M.length)) W) from by
   have hq := norm_length (M.map fun p => (p.1, p.2 * -1))
   rw [List.length_map] at hq
   exact (rtadd_any _ v L _ K (KM * -1) (k + 2 + M.length) W ((HA.out.below hb).mono (by omega)) h.in_ hl (by omega) (by omega)).mono (fun e w' h => h.mono (by omega))))
 unfold TPost at HAD
 have SOF := hide (show ∀ W, Below W0.heap.size W0 W → (W.cell? ⟨w0.heap.size, 0, none⟩ = some (.slice A n c) ∧ W.cell? ⟨w0.heap.size, 1, none⟩ = some (.bool s) ∧ W.cell? ⟨w0.heap.size, 2, none⟩ = some (.slice B m d) ∧ W.cell? ⟨w0.heap.size + 1, 0, none⟩ = some (.slice A2 n2 c2) ∧ W.cell? ⟨w0.heap.size + 1, 1, none⟩ = some (.bool s2) ∧ W.cell? ⟨w0.heap.size + 1, 2, none⟩ = some (.slice B2 m2 d2)) from fun W h => ⟨(z0.next h).c0, (z0.next h).c1, (z0.next h).c2, (z1.next h).c0, (z1.next h).c1, (z1.next h).c2⟩)
 clear z0 z1 z2 z3 z4 hv0 hu0
 refine wp_drawnL (by kernel_rfl) (by kernel_rfl) (by kernel_rfl) (by kernel_rfl) (fun w w' => Below w.heap.size w w') (fun j v w => match j with | 0 => v = .agg #[.slice A n c, .bool s, .slice B m d] | 1 => v = .agg #[.slice A2 n2 c2, .bool s2, .slice B2 m2 d2] | 2 => ZRes w v (-1) 2 | 3 => TRes w v (norm (M.map fun p => (p.1, p.2 * -1))) (KM * -1) (k + 2 + M.length) | 4 => TRes w v (norm (L ++ (norm (M.map fun p => (p.1, p.2 * -1))))) (K + KM * -1) (k + 2 + M.length + 1 + (L.length + M.length)) | _ => True) (fun _ _ w => Below W0.heap.size W0 w) ?_ (fun _ => bl_drewN W0 1) ?_ ?_
 · intro j v w w' hT h
   match j, h with
   | 0, h => exact h
   | 1, h => exact h
   | 2, h => exact h.below hT
   | 3, h => exact h.below hT
   | 4, h => exact h.below hT
   | j + 5, h => trivial
 · refine ⟨?_, ?_, ?_, ?_, ?_, trivial⟩
   · intro listed σ w a hin hout hl hla hs hc hp hG hF
     refine Guarded.none rfl ?_
     have e2 : a.tmps.getD 2 undef = .pointer (some ⟨w0.heap.size, 0, none⟩) := hout 2 (outB_spec (by kernel_rfl))
     have CC := SOF.out w hG; obtain ⟨C0, C1, C2, D0, D1, D2⟩ := CC
     refine Does.val (.agg #[.slice A n c, .bool s, .slice B m d]) (w' := w) ?_ ⟨Below.refl _ _, rfl, hG⟩
     go_simp
   · intro listed σ w a hin hout hl hla hs hc hp hG hF
     refine Guarded.none rfl ?_
     have e3 : a.tmps.getD 3 undef = .pointer (some ⟨w0.heap.size + 1, 0, none⟩) := hout 3 (outB_spec (by kernel_rfl))
     have CC := SOF.out w hG; obtain ⟨C0, C1, C2, D0, D1, D2⟩ := CC
     refine Does.val (.agg #[.slice A2 n2 c2, .bool s2, .slice B2 m2 d2]) (w' := w) ?_ ⟨Below.refl _ _, rfl, hG⟩
     go_simp
   · intro listed σ w a hin hout hl hla hs hc hp hG hF
     refine Guarded.none rfl ?_
     refine Does.call ?_ (rof_z (-1) w (by omega) (by omega)) ?_
     · go_simp
     · rintro e w' ⟨v, rfl, z, hb⟩
       exact ⟨_, rfl, hb, z, hG.next hb⟩
   · intro listed σ w a hin hout hl hla hs hc hp hG hF
     refine Guarded.none rfl ?_
     have e6 : a.tmps.getD 6 undef = .agg #[.slice A2 n2 c2, .bool s2, .slice B2 m2 d2] := (hin 1 6 rfl (hp ⟨1, .data⟩ (by simp) rfl)).trans (hF 1 (hp ⟨1, .data⟩ (by simp) rfl))
     have e7 := hin 2 7 rfl (hp ⟨2, .data⟩ (by simp) rfl)
     have z2 := hF 2 (hp ⟨2, .data⟩ (by simp) rfl)
     refine Does.call ?_ (rtscale_any _ _ M KM (-1) k 2 w (HB.out.below hG) z2.in_ (by omega) (by omega) (by omega)) ?_
     · go_simp
     · rintro e w' ⟨v, rfl, z, hb⟩
       exact ⟨_, rfl, hb, z, hG.next hb⟩
   · intro listed σ w a hin hout hl hla hs hc hp hG hF
     refine Guarded.none rfl ?_
     have e5 : a.tmps.getD 5 undef = .agg #[.slice A n c, .bool s, .slice B m d] := (hin 0 5 rfl (hp ⟨0, .data⟩ (by simp) rfl)).trans (hF 0 (hp ⟨0, .data⟩ (by simp) rfl))
     have e8 := hin 3 8 rfl (hp ⟨3, .data⟩ (by simp) rfl)
     have z3 := hF 3 (hp ⟨3, .data⟩ (by simp) rfl)
     refine Does.call ?_ (HAD.out w _ z3 hG) ?_
     · go_simp
     · rintro e w' ⟨v, rfl, z, hb⟩
       exact ⟨_, rfl, hb, z, hG.next hb⟩
 · intro o ho
   injection ho with ho; subst ho
   intro listed σ w a hall hin hout hG hF
   refine Guarded.none rfl ?_
   have e4 : a.tmps.getD 4 undef = .pointer (some ⟨w0.heap.size + 1 + 1, 0, none⟩) := hout 4 (outL (by kernel_rfl))
   have e9 := hin 4 9 rfl (by decide)
   have z4 := hF 4 (by decide)
   have z4 := hF 4 (by decide)
   obtain ⟨A8, n8, c8, s8, B8, m8, d8, ev8⟩ := TRes.form z4
   rw [ev8] at e9 z4
   have HR8 := hide (R0.out.next hG)
   have HT8 := hide (T0.out.next hG)
   refine Does.store_box (T := 28) (cells := #[.slice A8 n8 c8, .bool s8, .slice B8 m8 d8]) rfl e4 e9 HR8.out (by kernel_rfl) rfl (by simp [Value.oneCell']) (fun w2 x9 o9 => ?_)
   rw [show fin _ σ undef _ = (Act.put (Act.put (Act.put (Act.put (Act.put (Act.put _ (some 5) (σ 0)) (some 6) (σ 1)) (some 7) (σ 2)) (some 8) (σ 3)) (some 9) (σ 4)) none undef) from (fin_all hall).trans rfl]
   simp only [Act.put, List.setIfInBounds_toArray, List.set_cons_zero, List.set_cons_succ]
   have HZ8 := hide (z4.only HR8.out o9)
   have HO := hide o9
   generalize σ 0 = tt0 at *; generalize σ 1 = tt1 at *; generalize σ 2 = tt2 at *; generalize σ 3 = tt3 at *; generalize σ 4 = tt4 at *
   clear hF hG hall hin hout SOF z4 o9 e4 e9 ev8
   go_wp2_with fail
   refine bodyPost_t rfl rfl x9 rfl ?_
   exact TPost.eq ⟨_, rfl, HZ8.out, zback HT8.out (by omega) HO.out⟩ (norm_append_congr (fun _ => rfl) (fun x => by rw [norm_coef]; simp)) (by omega)
end Go.Proofs.YtdeakieenppmiaaGreatDoor
/- plumblinelaw03.summing: the calls that add are alive. -/
namespace Go.Proofs.YtdeakieenppmiaaGreatDoor
open Go.RowKit
open Tm

theorem TRes.ofEq {w : World} {v : Value} {L M : List (Int × Int)} {K J : Int} {k : Nat} (h : TRes w v L K k) (e : L = M) (f : K = J) : TRes w v M J k := e ▸ f ▸ h
end Go.Proofs.YtdeakieenppmiaaGreatDoor
