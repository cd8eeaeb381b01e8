/- Texts of one seat, put together: RPlain. -/
import Derived.Test.YtdeakieenppmiaaGreatDoorC22
set_option linter.unusedVariables false
set_option linter.unusedSimpArgs false
set_option maxRecDepth 100000
set_option maxHeartbeats 16000000
/- plumblineref03.Plain. -/
namespace Go.Proofs.YtdeakieenppmiaaGreatDoor
open Go.RowKit
open Tm

theorem vars_length (L : List (Int × Int)) : (vars L).length ≤ L.length := by
 unfold vars
 rw [List.length_map]
 exact norm_length L
theorem norm_get (L : List (Int × Int)) (q : Nat) (x : Int) (h : (vars L)[q]? = some x) : (norm L)[q]? = some (x, coef L x) := by
 rw [norm_map, List.getElem?_map, h]
 rfl
/-- How far a loop has come that appends parts to the variable in box g; the loop began in W2. -/
def EachRel2 (W2 : World) (g : Nat) (L : List (Int × Int)) (K : Int) (f : Int → Int) (j q : Nat) (wr : World) : Prop :=
 ∃ (rs : List PV) (A : Option Addr) (c : Nat) (s : Bool) (B : Option Addr) (m d : Nat), Box 28 wr g #[.slice A q c, .bool s, .slice B m d] ∧ LRow 60 3 wr W2.heap.size (.slice A q c) q (flat rs) ∧ rs.length = q ∧
  lin rs = (L.take q).map (fun p => (p.1, f p.2)) ∧ (∀ p ∈ rs, ZRes wr p.num p.Z j) ∧ ZRes wr (.agg #[.bool s, .slice B m d]) (f K) j ∧ Only g W2 wr ∧ Kp W2 wr
theorem EachRel2.step {W2 W6 w : World} {g q c4 m4 d4 c2 kj : Nat} {A4 B4 A2 : Option Addr} {s4 : Bool} {L : List (Int × Int)} {K pv pZ : Int} {f : Int → Int} {rs : List PV} {p2 : PV}
   (xg : Box 28 W6 g #[.slice A4 q c4, .bool s4, .slice B4 m4 d4]) (lr : LRow 60 3 W6 W2.heap.size (.slice A4 q c4) q (flat rs)) (hrl : rs.length = q) (hlin : lin rs = (L.take q).map (fun p => (p.1, f p.2)))
   (hrz : ∀ p ∈ rs, ZRes W6 p.num p.Z kj) (zK : ZRes W6 (.agg #[.bool s4, .slice B4 m4 d4]) (f K) kj) (oW : Only g W2 W6) (kW : Kp W2 W6) (hL : L[q]? = some (pv, pZ)) (h1 : p2.v = pv) (h2 : p2.Z = f pZ)
   (l2 : LRow 60 3 w W2.heap.size (.slice A2 (q + 1) c2) (rs ++ [p2]).length (flat (rs ++ [p2]))) (z2 : ZRes w p2.num p2.Z kj) (tg : Tg (Value.slice A4 q c4).ownBlock W6 w) :
   EachRel2 W2 g L K f kj (q + 1) (w.setCell ⟨g, 0, none⟩ (.slice A2 (q + 1) c2)) := by
 have hne : some g ≠ (Value.slice A4 q c4).ownBlock := fun e => lr.offTerm xg e.symm
 have x9 := xg.grown tg.1 hne
 have o9 := only_set1 w g 0 (.slice A2 (q + 1) c2)
 have hk := x9.kp (nlT _ _ _ _ _ _ _) o9
 have hlen : (rs ++ [p2]).length = q + 1 := by simp [hrl]
 rw [hlen] at l2
 have oW9 : Only g W2 w := ⟨tg.1.os.trans oW.os, tg.1.tape.trans oW.tape, tg.1.output.trans oW.output, Nat.le_trans oW.size tg.1.size, fun b hb hbn =>
   (tg.1.block b (Nat.lt_of_lt_of_le hb oW.size) (fun e => by have := (lr.lt b e.symm).1; omega)).trans (oW.block b hb hbn)⟩
 refine ⟨rs ++ [p2], A2, c2, s4, B4, m4, d4, x9.set_0 _, l2.onlyTerm x9 o9, hlen, ?_, fun x hx => ?_, (zK.kp tg.2).kp hk, oW9.trans o9, (kW.trans tg.2).trans hk⟩
 · rw [lin_append, hlin, List.take_add_one, hL, List.map_append]
   simp [lin, PV.part, h1, h2]
 · rcases List.mem_append.1 hx with hx | hx
   · exact ((hrz x hx).kp tg.2).kp hk
   · simp at hx; subst hx; exact z2.kp hk
theorem IIn.keepT {w w' : World} {A : Option Addr} {n g m c d q : Nat} {xs : List Int} {B C : Option Addr} {s : Bool} {b0 : Array Value} (h : IIn w A n xs) (hb : Box 28 w g #[.slice B m c, .bool s, .slice C q d]) (ho : Only g w w') : IIn w' A n xs := by
 refine ⟨h.1, fun hn => ?_⟩
 obtain ⟨b, o, e, hc⟩ := h.2 hn
 refine ⟨b, o, e, fun j u hu => ?_⟩
 have h1 := hc j u hu
 refine ho.gb.cell h1 (fun hh => ?_)
 injection hh with hh
 have hh' : b = g := hh
 subst hh'
 have hu2 : ∃ x, u = .int .i64 x := by
  obtain ⟨x, -, hx⟩ := List.mem_map.1 (List.mem_of_getElem? hu)
  exact ⟨x, hx.symm⟩
 obtain ⟨x, rfl⟩ := hu2
 rw [cell_of_row w b _ _ _ _ hb] at h1
 match o + j, h1 with
 | 0, h1 => simp at h1
 | 1, h1 => simp at h1
 | 2, h1 => simp at h1
 | i + 3, h1 => simp at h1
theorem rplain_any (v : Value) (L : List (Int × Int)) (K : Int) (k : Nat) (w0 : World) (hv : TIn w0 v L K k) (hl : L.length ≤ 1099511) (hk : k ≤ 1099511627) : Calls Tryz.prog 13 #[v] w0 (TPost (norm L) K (k + L.length) w0) := by
 have hv0 := hv
 obtain ⟨A, n, c, s, B, m, d, rfl, hp, hc1, hc2, hK⟩ := hv
 obtain ⟨z0, z1, z2, z3⟩ := bstart2 28 28 w0 #[.slice A n c, .bool s, .slice B m d] #[.slice none 0 0, .bool false, .slice none 0 0]
 have x1 := z0.c1
 have x2 := z0.c2
 have hcl := clean_z _ K k _ (hK.below z2) (by omega)
 go_enter Tryz.func13, Tryz.ntmps13
 go_wp2_with fail
 refine hcl.mono ?_
 rintro e w1 ⟨v1, rfl, r1, b1⟩
 obtain ⟨s1, A1, n1, c1, rfl⟩ := r1.form
 have t1 := z2.next b1
 have q0 := z0.next b1
 have q1 := z1.next b1
 have hz3 := hide (show w0.heap.size + 2 ≤ w1.heap.size by have := b1.size; omega)
 obtain ⟨y0, y1, y2⟩ := bstart1 28 w1 #[.slice none 0 0, .bool s1, .slice A1 n1 c1]
 have p0 := q0.next y1
 have p1 := q1.next y1
 have tt := t1.next y1
 have x0 := p0.c0
 have x1' := p0.c1
 have x2' := p0.c2
 have hva := rvars_any _ L K k _ (hv0.below tt) hl hk
 have HR1 := hide (r1.below y1)
 have Y0 := hide y0
 have P1 := hide p1
 have P0 := hide p0
 have TT := hide tt
 have HY2 := hide y2
 clear hcl r1 t1 q0 q1 y0 y1 y2 p1 tt x1 x2 z0 z1 z2 z3 b1 hp hK
 go_wp2_with fail
 refine hva.mono ?_
 rintro e W1 ⟨AV, cV, rfl, iv, hv1, hv2, b2⟩
 have IV := hide iv
 have XB := hide (Y0.out.next b2)
 have HW1 := hide (TT.out.next b2)
 have XR := hide (P1.out.next b2)
 have XP := hide (P0.out.next b2)
 have HG8 := hide (show w0.heap.size + 1 < w1.heap.size by have := hz3.out; omega)
 have HE := hide (show EachRel2 W1 w1.heap.size (norm L) K (fun z => z) (k + L.length) 0 W1 from
  ⟨[], none, 0, s1, A1, n1, c1, XB.out, LRow.nil _ _ _ _, rfl, rfl, fun p hp => by simp at hp, (HR1.out.below b2).mono (by omega), Only.refl _ _, Kp.refl _⟩)
 have hm1 : (vars L).length ≤ 1099511 := by have := vars_length L; omega
 clear iv b2 x0 x1' x2' hva
 generalize hm : (vars L).length = m1 at *
 have HM := hide hm
 clear hm
 go_wp2_with fail
 go_loopw [5] (fun i wr => ∃ q : Nat, q ≤ m1 ∧ i = .int .i64 q ∧ Hid (EachRel2 W1 w1.heap.size (norm L) K (fun z => z) (k + L.length) q wr)) (fun i _ => m1 - (intOf i).toNat)
 case atStart => exact ⟨0, Nat.zero_le _, rfl, HE⟩
 case round =>
  obtain ⟨q, hq, rfl, HR⟩ := hrel
  obtain ⟨rs, A4, c4, s4, B4, m4, d4, xg, lr, hrl, hlin, hrz, zK, oW, kW⟩ := HR.out
  have hT : Below w0.heap.size w0 wr := HW1.out.trans (oW.below HW1.out.size (by have := HG8.out; omega))
  by_cases hqn : q < m1
  · obtain ⟨bb, o, x, rfl, hlt, hx, c0⟩ := (IV.out.keepT (b0 := #[]) XB.out oW).at_ hqn
    have HLp := hide (norm_get L q x hx)
    have HXG := hide xg
    have HL := hide lr
    have HRL := hide hrl
    have HLI := hide hlin
    have HRZ := hide hrz
    have HZK := hide zK
    have HOW := hide oW
    have HKW := hide kW
    have HWS := hide oW.size
    have HTT := hide hT
    have HRW := hide (show ∀ gs, (Value.slice A4 q c4).ownBlock = some gs → gs < wr.heap.size from fun gs e => (lr.lt gs e).2)
    have HF6 := hide (fun W (h : Below wr.heap.size wr W) => rcoef_any _ L K x k W (hv0.below (HTT.out.next h)) hl hk)
    have zt := XP.out.other oW (by have := HG8.out; omega)
    have SOF := hide (show ∀ W, Below wr.heap.size wr W → (W.cell? ⟨w1.heap.size, 0, none⟩ = some (.slice A4 q c4) ∧ W.cell? ⟨bb, o + q, none⟩ = some (.int .i64 x) ∧ W.cell? ⟨w0.heap.size, 0, none⟩ = some (.slice A n c) ∧ W.cell? ⟨w0.heap.size, 1, none⟩ = some (.bool s) ∧ W.cell? ⟨w0.heap.size, 2, none⟩ = some (.slice B m d)) from fun W h => ⟨(HXG.out.next h).c0, (h.cell (p := ⟨bb, o + q, none⟩) hlt).trans c0, (zt.next h).c0, (zt.next h).c1, (zt.next h).c2⟩)
    clear xg lr hrl hlin hrz zK oW kW hT hx c0 zt HR
    go_wp2_with fail
    refine wp_drawnL (by kernel_rfl) (by kernel_rfl) (by kernel_rfl) (by kernel_rfl) (Tg (Value.slice A4 q c4).ownBlock) (fun j v w => match j with | 0 => v = .pointer (some ⟨w1.heap.size, 0, none⟩) | 1 => v = .slice A4 q c4 | 2 => v = .slice (some ⟨bb, o, none⟩) m1 cV | 3 => v = .int .i64 (q : Int) | 4 => v = .pointer (some ⟨bb, o + q, none⟩) | 5 => v = .int .i64 x | 6 => v = .agg #[.slice A n c, .bool s, .slice B m d] | 7 => v = .slice (some ⟨bb, o, none⟩) m1 cV | 8 => v = .int .i64 (q : Int) | 9 => v = .pointer (some ⟨bb, o + q, none⟩) | 10 => v = .int .i64 x | 11 => ∃ s B m d, v = .agg #[.bool s, .slice B m d] ∧ ZRes w (.agg #[.bool s, .slice B m d]) (coef L x) (k + L.length) | 12 => ∃ s B m d, v = .agg #[.int .i64 x, .bool s, .slice B m d] ∧ ZRes w (.agg #[.bool s, .slice B m d]) (coef L x) (k + L.length) | 13 => ∃ gs s B m d, v = .slice (some ⟨gs, 0, none⟩) 1 1 ∧ wr.heap.size ≤ gs ∧ Box 60 w gs #[.int .i64 x, .bool s, .slice B m d] ∧ ZRes w (.agg #[.bool s, .slice B m d]) (coef L x) (k + L.length) | 14 => True | 15 => v = .pointer (some ⟨w1.heap.size, 0, none⟩) | _ => True) (GA 14 wr (fun v w => ∃ p2 : PV, p2.v = x ∧ p2.Z = (coef L x) ∧ LRow 60 3 w W1.heap.size v (rs ++ [p2]).length (flat (rs ++ [p2])) ∧ ZRes w p2.num p2.Z (k + L.length) ∧ Tg (Value.slice A4 q c4).ownBlock wr w)) ?_ (fun _ => GA.start _ (bl_drewN wr 1)) ?_ ?_
    · intro j v w w' hT h
      match j, h with
      | 0, h => exact h
      | 1, h => exact h
      | 2, h => exact h
      | 3, h => exact h
      | 4, h => exact h
      | 5, h => exact h
      | 6, h => exact h
      | 7, h => exact h
      | 8, h => exact h
      | 9, h => exact h
      | 10, h => exact h
      | 11, h => exact (by obtain ⟨s, B, m, d, e, z⟩ := h; exact ⟨s, B, m, d, e, z.kp hT.2⟩)
      | 12, h => exact (by obtain ⟨s, B, m, d, e, z⟩ := h; exact ⟨s, B, m, d, e, z.kp hT.2⟩)
      | 13, h => exact (by obtain ⟨gs, s, B, m, d, e, h1, h2, h3⟩ := h; exact ⟨gs, s, B, m, d, e, h1, h2.grown hT.1 (fun e => by have := HRW.out gs e.symm; omega), h3.kp hT.2⟩)
      | 14, h => exact trivial
      | 15, h => exact h
      | j + 16, h => trivial
    · refine ⟨?_, ?_, ?_, ?_, ?_, ?_, ?_, ?_, ?_, ?_, ?_, ?_, ?_, ?_, ?_, ?_, trivial⟩
      · intro listed σ w a hin hout hl hla hs hc hp hG hF
        refine Guarded.none rfl ?_
        have e3 : a.tmps.getD 3 undef = .pointer (some ⟨w1.heap.size, 0, none⟩) := hout 3 (outB_spec (by kernel_rfl))
        refine Does.val (.pointer (some ⟨w1.heap.size, 0, none⟩)) (w' := w) ?_ ⟨Tg.refl _ _, rfl, hG.same (by decide)⟩
        simp only [Array.getD_eq_getD_getElem?] at e3
        go_simp
      · intro listed σ w a hin hout hl hla hs hc hp hG hF
        refine Guarded.none rfl ?_
        have e18 : a.tmps.getD 18 undef = .pointer (some ⟨w1.heap.size, 0, none⟩) := (hin 0 18 rfl (hp ⟨0, .data⟩ (by simp) rfl)).trans (hF 0 (hp ⟨0, .data⟩ (by simp) rfl))
        have CC := SOF.out w (hG.1 (un_next (k := 14) hc hl (by kernel_rfl))); obtain ⟨C0, D0, E0, E1, E2⟩ := CC
        refine Does.val (.slice A4 q c4) (w' := w) ?_ ⟨Tg.refl _ _, rfl, hG.same (by decide)⟩
        go_simp
      · intro listed σ w a hin hout hl hla hs hc hp hG hF
        refine Guarded.none rfl ?_
        have e4 : a.tmps.getD 4 undef = .slice (some ⟨bb, o, none⟩) m1 cV := hout 4 (outB_spec (by kernel_rfl))
        refine Does.val (.slice (some ⟨bb, o, none⟩) m1 cV) (w' := w) ?_ ⟨Tg.refl _ _, rfl, hG.same (by decide)⟩
        simp only [Array.getD_eq_getD_getElem?] at e4
        go_simp
      · intro listed σ w a hin hout hl hla hs hc hp hG hF
        refine Guarded.none rfl ?_
        have e5 : a.tmps.getD 5 undef = .int .i64 (q : Int) := hout 5 (outB_spec (by kernel_rfl))
        refine Does.val (.int .i64 (q : Int)) (w' := w) ?_ ⟨Tg.refl _ _, rfl, hG.same (by decide)⟩
        simp only [Array.getD_eq_getD_getElem?] at e5
        go_simp
      · intro listed σ w a hin hout hl hla hs hc hp hG hF
        refine Guarded.none rfl ?_
        have e20 : a.tmps.getD 20 undef = .slice (some ⟨bb, o, none⟩) m1 cV := (hin 2 20 rfl (hp ⟨2, .data⟩ (by simp) rfl)).trans (hF 2 (hp ⟨2, .data⟩ (by simp) rfl))
        have e21 : a.tmps.getD 21 undef = .int .i64 (q : Int) := (hin 3 21 rfl (hp ⟨3, .data⟩ (by simp) rfl)).trans (hF 3 (hp ⟨3, .data⟩ (by simp) rfl))
        refine Does.val (.pointer (some ⟨bb, o + q, none⟩)) (w' := w) ?_ ⟨Tg.refl _ _, rfl, hG.same (by decide)⟩
        simp only [Array.getD_eq_getD_getElem?] at e20 e21
        go_simp
        (try (intro hh; exfalso; omega))
      · intro listed σ w a hin hout hl hla hs hc hp hG hF
        refine Guarded.none rfl ?_
        have e22 : a.tmps.getD 22 undef = .pointer (some ⟨bb, o + q, none⟩) := (hin 4 22 rfl (hp ⟨4, .data⟩ (by simp) rfl)).trans (hF 4 (hp ⟨4, .data⟩ (by simp) rfl))
        have CC := SOF.out w (hG.1 (un_next (k := 14) hc (un_next (k := 13) hc (un_next (k := 12) hc hl (by kernel_rfl)) (by kernel_rfl)) (by kernel_rfl))); obtain ⟨C0, D0, E0, E1, E2⟩ := CC
        refine Does.val (.int .i64 x) (w' := w) ?_ ⟨Tg.refl _ _, rfl, hG.same (by decide)⟩
        go_simp
      · intro listed σ w a hin hout hl hla hs hc hp hG hF
        refine Guarded.none rfl ?_
        have e1 : a.tmps.getD 1 undef = .pointer (some ⟨w0.heap.size, 0, none⟩) := hout 1 (outB_spec (by kernel_rfl))
        have CC := SOF.out w (hG.1 (un_next (k := 14) hc (un_next (k := 11) hc hl (by kernel_rfl)) (by kernel_rfl))); obtain ⟨C0, D0, E0, E1, E2⟩ := CC
        refine Does.val (.agg #[.slice A n c, .bool s, .slice B m d]) (w' := w) ?_ ⟨Tg.refl _ _, rfl, hG.same (by decide)⟩
        go_simp
      · intro listed σ w a hin hout hl hla hs hc hp hG hF
        refine Guarded.none rfl ?_
        have e4 : a.tmps.getD 4 undef = .slice (some ⟨bb, o, none⟩) m1 cV := hout 4 (outB_spec (by kernel_rfl))
        refine Does.val (.slice (some ⟨bb, o, none⟩) m1 cV) (w' := w) ?_ ⟨Tg.refl _ _, rfl, hG.same (by decide)⟩
        simp only [Array.getD_eq_getD_getElem?] at e4
        go_simp
      · intro listed σ w a hin hout hl hla hs hc hp hG hF
        refine Guarded.none rfl ?_
        have e5 : a.tmps.getD 5 undef = .int .i64 (q : Int) := hout 5 (outB_spec (by kernel_rfl))
        refine Does.val (.int .i64 (q : Int)) (w' := w) ?_ ⟨Tg.refl _ _, rfl, hG.same (by decide)⟩
        simp only [Array.getD_eq_getD_getElem?] at e5
        go_simp
      · intro listed σ w a hin hout hl hla hs hc hp hG hF
        refine Guarded.none rfl ?_
        have e25 : a.tmps.getD 25 undef = .slice (some ⟨bb, o, none⟩) m1 cV := (hin 7 25 rfl (hp ⟨7, .data⟩ (by simp) rfl)).trans (hF 7 (hp ⟨7, .data⟩ (by simp) rfl))
        have e26 : a.tmps.getD 26 undef = .int .i64 (q : Int) := (hin 8 26 rfl (hp ⟨8, .data⟩ (by simp) rfl)).trans (hF 8 (hp ⟨8, .data⟩ (by simp) rfl))
        refine Does.val (.pointer (some ⟨bb, o + q, none⟩)) (w' := w) ?_ ⟨Tg.refl _ _, rfl, hG.same (by decide)⟩
        simp only [Array.getD_eq_getD_getElem?] at e25 e26
        go_simp
        (try (intro hh; exfalso; omega))
      · intro listed σ w a hin hout hl hla hs hc hp hG hF
        refine Guarded.none rfl ?_
        have e27 : a.tmps.getD 27 undef = .pointer (some ⟨bb, o + q, none⟩) := (hin 9 27 rfl (hp ⟨9, .data⟩ (by simp) rfl)).trans (hF 9 (hp ⟨9, .data⟩ (by simp) rfl))
        have CC := SOF.out w (hG.1 (un_next (k := 14) hc (un_next (k := 11) hc hl (by kernel_rfl)) (by kernel_rfl))); obtain ⟨C0, D0, E0, E1, E2⟩ := CC
        refine Does.val (.int .i64 x) (w' := w) ?_ ⟨Tg.refl _ _, rfl, hG.same (by decide)⟩
        go_simp
      · intro listed σ w a hin hout hl hla hs hc hp hG hF
        refine Guarded.none rfl ?_
        have e24 : a.tmps.getD 24 undef = .agg #[.slice A n c, .bool s, .slice B m d] := (hin 6 24 rfl (hp ⟨6, .data⟩ (by simp) rfl)).trans (hF 6 (hp ⟨6, .data⟩ (by simp) rfl))
        have e28 : a.tmps.getD 28 undef = .int .i64 x := (hin 10 28 rfl (hp ⟨10, .data⟩ (by simp) rfl)).trans (hF 10 (hp ⟨10, .data⟩ (by simp) rfl))
        refine Does.call ?_ (HF6.out w (hG.1 (un_next (k := 14) hc hl (by kernel_rfl)))) ?_
        · go_simp; (try exact eg _ _)
        · rintro e w' ⟨v, rfl, z, hb⟩
          exact ⟨_, rfl, Tg.of_below hb, (by obtain ⟨s, B, m, d, rfl⟩ := z.form; exact ⟨s, B, m, d, rfl, z⟩), hG.call (by decide) (un_next (k := 14) hc hl (by kernel_rfl)) hb⟩
      · intro listed σ w a hin hout hl hla hs hc hp hG hF
        refine Guarded.none rfl ?_
        have e23 : a.tmps.getD 23 undef = .int .i64 x := (hin 5 23 rfl (hp ⟨5, .data⟩ (by simp) rfl)).trans (hF 5 (hp ⟨5, .data⟩ (by simp) rfl))
        have e29 := hin 11 29 rfl (hp ⟨11, .data⟩ (by simp) rfl)
        obtain ⟨s11, B11, m11, d11, ev11, z11⟩ := hF 11 (hp ⟨11, .data⟩ (by simp) rfl)
        rw [ev11] at e29
        refine Does.val (.agg #[.int .i64 x, .bool s11, .slice B11 m11 d11]) (w' := w) ?_ ⟨Tg.refl _ _, ⟨s11, B11, m11, d11, rfl, z11⟩, hG.same (by decide)⟩
        simp only [Array.getD_eq_getD_getElem?] at e23 e29
        go_simp
      · intro listed σ w a hin hout hl hla hs hc hp hG hF
        refine Guarded.none rfl ?_
        have e30 := hin 12 30 rfl (hp ⟨12, .data⟩ (by simp) rfl)
        obtain ⟨s12, B12, m12, d12, ev12, z12⟩ := hF 12 (hp ⟨12, .data⟩ (by simp) rfl)
        rw [ev12] at e30
        refine Does.val (.slice (some ⟨w.heap.size, 0, none⟩) 1 1) (w' := w.alloc (.cells #[.int .i64 x, .bool s12, .slice B12 m12 d12] 60)) ?_ ⟨Tg.of_below (bl_alloc w _), ⟨w.heap.size, s12, B12, m12, d12, rfl, (hG.1 (un_next (k := 14) hc hl (by kernel_rfl))).size, Box.new _ _ _, z12.alloc _⟩, hG.call (by decide) (un_next (k := 14) hc hl (by kernel_rfl)) (bl_alloc w _)⟩
        simp only [Array.getD_eq_getD_getElem?] at e30
        go_simp
      · intro listed σ w a hin hout hl hla hs hc hp hG hF
        refine Guarded.none rfl ?_
        have e19 : a.tmps.getD 19 undef = .slice A4 q c4 := (hin 1 19 rfl (hp ⟨1, .data⟩ (by simp) rfl)).trans (hF 1 (hp ⟨1, .data⟩ (by simp) rfl))
        have e31 := hin 13 31 rfl (hp ⟨13, .data⟩ (by simp) rfl)
        obtain ⟨g13, s13, B13, m13, d13, ev13, hg13, x13, z13⟩ := hF 13 (hp ⟨13, .data⟩ (by simp) rfl)
        rw [ev13] at e31
        have hl0 := hl
        have hB := hG.1 hl
        have hl := HL.out.below hB
        obtain ⟨i0, hi0, hz0, hz1, hz2⟩ := info_parts part_info
        obtain ⟨v', w', hr, h2, h3⟩ := run_append_lrow (P := Tryz.prog) w W1.heap.size 22 22 60 i0 _ 3 40 Tryz.underlying22 hi0 hz0 hz1 hz2 rfl (by decide) part_zero_nls (.slice A4 q c4) q (flat rs) hl ⟨g13, 0, none⟩ 1 1 (flat [⟨x, s13, B13, m13, d13, (coef L x)⟩]) rfl (fun jj u hu => by rw [addr_add, Nat.zero_add]; exact x13.cell jj u (by simpa [flat, PV.cells] using hu)) (flat_one _) (flat_nls _) (by unfold maxLen; omega) (by omega) (Nat.le_trans HWS.out hB.size)
        have hk := hl.kp h3
        refine Does.val v' (w' := w') ?_ ⟨⟨h3, hk⟩, trivial, GA.on_ hl0 (by rw [hs]; decide) ⟨⟨x, s13, B13, m13, d13, (coef L x)⟩, rfl, rfl, ?_, z13.kp hk, ⟨World.grownBy.trans2 hB h3, (Kp.of_below hB).trans hk⟩⟩⟩
        · exact exec_append rfl e19 e31 hr
        · rw [flat_append, List.length_append, HRL.out]; exact h2
      · intro listed σ w a hin hout hl hla hs hc hp hG hF
        refine Guarded.none rfl ?_
        have e3 : a.tmps.getD 3 undef = .pointer (some ⟨w1.heap.size, 0, none⟩) := hout 3 (outB_spec (by kernel_rfl))
        refine Does.val (.pointer (some ⟨w1.heap.size, 0, none⟩)) (w' := w) ?_ ⟨Tg.refl _ _, rfl, hG.same (by decide)⟩
        simp only [Array.getD_eq_getD_getElem?] at e3
        go_simp
    · intro o ho
      injection ho with ho; subst ho
      intro listed σ w a hall hin hout hG hF
      refine Guarded.none rfl ?_
      have e33 : a.tmps.getD 33 undef = .pointer (some ⟨w1.heap.size, 0, none⟩) := (hin 15 33 rfl (by decide)).trans (hF 15 (by decide))
      have e32 := hin 14 32 rfl (by decide)
      have z14 := hF 14 (by decide)
      obtain ⟨p2, e1, e2, l2, z2, tg⟩ := hG.2 (hall 14 (by decide))
      have hlr := HL.out
      have x9 := HXG.out.grown tg.1 (fun e => hlr.offTerm HXG.out e.symm)
      obtain ⟨A2, c2, hv2, -, -, -⟩ := l2.len
      have hlen2 : (rs ++ [p2]).length = q + 1 := by simp [HRL.out]
      rw [hlen2] at hv2
      rw [hv2] at e32 l2
      have u0 := x9.c0
      have u1 := x9.fr 0
      refine Does.skip (w' := w.setCell ⟨w1.heap.size, 0, none⟩ (.slice A2 (q + 1) c2)) (by go_simp) ?_
      have HE2 := hide (EachRel2.step (f := fun z => z) HXG.out hlr HRL.out HLI.out HRZ.out HZK.out HOW.out HKW.out HLp.out e1 e2 l2 z2 tg)
      rw [show fin _ σ undef _ = (Act.put (Act.put (Act.put (Act.put (Act.put (Act.put (Act.put (Act.put (Act.put (Act.put (Act.put (Act.put (Act.put (Act.put (Act.put (Act.put (Act.put _ (some 18) (σ 0)) (some 19) (σ 1)) (some 20) (σ 2)) (some 21) (σ 3)) (some 22) (σ 4)) (some 23) (σ 5)) (some 24) (σ 6)) (some 25) (σ 7)) (some 26) (σ 8)) (some 27) (σ 9)) (some 28) (σ 10)) (some 29) (σ 11)) (some 30) (σ 12)) (some 31) (σ 13)) (some 32) (σ 14)) (some 33) (σ 15)) none undef) from (fin_all hall).trans rfl]
      simp only [Act.put, List.setIfInBounds_toArray, List.set_cons_zero, List.set_cons_succ]
      generalize σ 0 = tt0; generalize σ 1 = tt1; generalize σ 2 = tt2; generalize σ 3 = tt3; generalize σ 4 = tt4; generalize σ 5 = tt5; generalize σ 6 = tt6; generalize σ 7 = tt7; generalize σ 8 = tt8; generalize σ 9 = tt9; generalize σ 10 = tt10; generalize σ 11 = tt11; generalize σ 12 = tt12; generalize σ 13 = tt13; generalize σ 14 = tt14 at *; generalize σ 15 = tt15
      clear hF hG hall hin hout SOF HF6 HRW l2 z2 tg x9 u0 u1 hlen2
      generalize w.setCell ⟨w1.heap.size, 0, none⟩ (.slice A2 (q + 1) c2) = w8 at *
      go_wp2_with fail
      go_roundw
      case rel => exact ⟨q + 1, by omega, by go_num, HE2⟩
      case measure => simp [intOf] <;> omega
  · obtain rfl : q = m1 := by omega
    have hL2 := hide (show lin rs = norm L by
      rw [hlin, List.take_of_length_le (by rw [← HM.out]; unfold vars; rw [List.length_map]; exact Nat.le_refl _)]
      simp)
    have hR := XR.out.other oW (by have := HG8.out; omega)
    obtain ⟨A', c', hv', hc1', hc2', -⟩ := lr.len
    injection hv' with e1' e2' e3'
    subst e1' e3'
    have HP := hide (show PRes wr A4 q (lin rs) (k + L.length) from ⟨rs, lr.parts hrl (fun p hp => (hrz p hp).in_), rfl, hrz⟩)
    have HZK := hide zK
    have HB := hide hT
    have x0 := xg.c0
    have x1 := xg.c1
    have x2 := xg.c2
    clear lr hrl hlin hrz zK oW kW HR xg hT
    go_wp2_with (with_reducible refine wpList_store_t rfl _ _ rfl (w0.heap.size + 1) _ _ _ _ _ _ _ rfl rfl _ _ _ hR ?_; intro w7 k7 ho7)
    refine bodyPost_t rfl rfl k7 rfl ?_
    refine ⟨_, rfl, TRes.only (⟨A4, q, c4, s4, B4, m4, d4, rfl, ?_, hc1', hc2', HZK.out⟩ : TRes wr _ _ _ _) hR ho7, zback HB.out (by omega) ho7⟩
    rw [← hL2.out]
    exact HP.out
end Go.Proofs.YtdeakieenppmiaaGreatDoor
