/- Texts of one seat, put together: RMove. -/
import Derived.Test.YtdeakieenppmiaaGreatB25
import Derived.Test.YtdeakieenppmiaaGreatB30
import Derived.Deep.DeepCutAuto
set_option linter.unusedVariables false
/- plumblineref03.Move. -/
namespace Go.Proofs.YtdeakieenppmiaaGreat
open Go.RowKit
open Tm

/-- How far a loop has come that appends some parts to the variable in box g; the loop began in W2. -/
def GoRel (W2 : World) (g : Nat) (R : List (Int × Int)) (K : Int) (k q : Nat) (wr : World) : Prop :=
  ∃ (rs : List PV) (A : Option Addr) (r c : Nat) (s : Bool) (B : Option Addr) (m d : Nat), Box 28 wr g #[.slice A r c, .bool s, .slice B m d] ∧ LRow 51 3 wr W2.heap.size (.slice A r c) r (flat rs) ∧ rs.length = r ∧ r ≤ q ∧
    lin rs = R ∧ (∀ p ∈ rs, ZIn wr p.num p.Z k) ∧ ZIn wr (.agg #[.bool s, .slice B m d]) K k ∧ Only g W2 wr ∧ Kp W2 wr
theorem GoRel.step {W2 W6 w : World} {g r q c4 m4 d4 c2 k : Nat} {A4 B4 A2 : Option Addr} {s4 : Bool} {R R' : List (Int × Int)} {K pv pZ : Int} {rs : List PV} {p2 : PV}
    (xg : Box 28 W6 g #[.slice A4 r c4, .bool s4, .slice B4 m4 d4]) (lr : LRow 51 3 W6 W2.heap.size (.slice A4 r c4) r (flat rs)) (hrl : rs.length = r) (hrq : r ≤ q) (hlin : lin rs = R)
    (hrz : ∀ p ∈ rs, ZIn W6 p.num p.Z k) (zK : ZIn W6 (.agg #[.bool s4, .slice B4 m4 d4]) K k) (oW : Only g W2 W6) (kW : Kp W2 W6) (hR : R' = R ++ [(pv, pZ)]) (h1 : p2.v = pv) (h2 : p2.Z = pZ)
    (l2 : LRow 51 3 w W2.heap.size (.slice A2 (r + 1) c2) (rs ++ [p2]).length (flat (rs ++ [p2]))) (z2 : ZRes w p2.num p2.Z k) (tg : Tg (Value.slice A4 r c4).ownBlock W6 w) :
    GoRel W2 g R' K k (q + 1) (w.setCell ⟨g, 0, none⟩ (.slice A2 (r + 1) c2)) := by
  have hne : some g ≠ (Value.slice A4 r c4).ownBlock := fun e => lr.offTerm xg e.symm
  have x9 := xg.grown tg.1 hne
  have o9 := only_set1 w g 0 (.slice A2 (r + 1) c2)
  have hk := x9.kp (nlT _ _ _ _ _ _ _) o9
  have hlen : (rs ++ [p2]).length = r + 1 := by simp [hrl]
  rw [hlen] at l2
  have oW9 : Only g W2 w := ⟨tg.1.os.trans oW.os, tg.1.tape.trans oW.tape, tg.1.output.trans oW.output, Nat.le_trans oW.size tg.1.size, fun b hb hbn =>
    (tg.1.block b (Nat.lt_of_lt_of_le hb oW.size) (fun e => by have := (lr.lt b e.symm).1; omega)).trans (oW.block b hb hbn)⟩
  refine ⟨rs ++ [p2], A2, r + 1, c2, s4, B4, m4, d4, x9.set_0 _, l2.onlyTerm x9 o9, hlen, by omega, ?_, fun y hy => ?_, (zK.kp tg.2).kp hk, oW9.trans o9, (kW.trans tg.2).trans hk⟩
  · rw [lin_append, hlin, hR]
    simp [lin, PV.part, h1, h2]
  · rcases List.mem_append.1 hy with hy | hy
    · exact ((hrz y hy).kp tg.2).kp hk
    · simp at hy; subst hy; exact (z2.kp hk).in_
theorem GoRel.skip {W2 W6 : World} {g q k : Nat} {R R' : List (Int × Int)} {K : Int} (h : GoRel W2 g R K k q W6) (hR : R' = R) : GoRel W2 g R' K k (q + 1) W6 := by
  obtain ⟨rs, A4, r, c4, s4, B4, m4, d4, xg, lr, hrl, hrq, hlin, hrz, zK, oW, kW⟩ := h
  exact ⟨rs, A4, r, c4, s4, B4, m4, d4, xg, lr, hrl, by omega, by rw [hlin, hR], hrz, zK, oW, kW⟩
theorem moved_length (sh : Int) (L : List (Int × Int)) : (moved sh L).length ≤ L.length := by
  unfold moved
  rw [List.length_map]
  exact List.length_filter_le _ _
def lowed (y : Int) : Int := if y < -2147483648 then -2147483648 else y
theorem clamp_low (y : Int) : (if 2147483647 < lowed y then 2147483647 else lowed y) = clamp y := by
  unfold lowed clamp
  by_cases h : y < -2147483648
  · rw [if_pos h, if_pos h]; rfl
  · rw [if_neg h, if_neg h]
set_option maxRecDepth 100000 in
set_option maxHeartbeats 8000000 in
theorem rmove_any (v : Value) (L : List (Int × Int)) (K y : Int) (k : Nat) (w0 : World) (hv : TIn w0 v L K k) (hl : L.length ≤ 1099511) (hrg : ∀ p ∈ L, p.1 ≤ 9223372036854775807) (hk : k ≤ 109951162) : Calls Tryz.prog 12 #[v, .int .i64 y] w0 (TPost (norm (moved (clamp y) (norm L))) K (k + L.length + L.length) w0) := by
  have hv0 := hv
  obtain ⟨A, n, c, s, B, m, d, rfl, hp, hc1, hc2, hK⟩ := hv
  obtain ⟨z0, z1, z2, z3, z4⟩ := bstart3 28 28 28 w0 #[.slice A n c, .bool s, .slice B m d] #[.slice none 0 0, .bool false, .slice none 0 0] #[.slice none 0 0, .bool s, .slice B m d]
  have y1 := (Box.new 28 w0 #[.slice A n c, .bool s, .slice B m d]).alloc (.cells #[.slice none 0 0, .bool false, .slice none 0 0] 28)
  have x1 := y1.c1
  have x2 := y1.c2
  have w1' := z0.c0
  have w2' := z0.c1
  have w3' := z0.c2
  have hva := rvars_any _ L K k _ (hv0.below z3) hl (by omega)
  have hsh := clamp_range y
  have HCL := hide (clamp_low y)
  obtain ⟨sh, hs⟩ : ∃ sh, sh = clamp y := ⟨_, rfl⟩
  rw [← hs] at hsh HCL ⊢
  have HR1 := hide (hK.below z3)
  have XB := hide z2
  have XP := hide z0
  have XR := hide z1
  have HW1 := hide z3
  have HRG := hide (norm_range hrg)
  have HV0 := hide hv0
  clear hs hp hK z0 z1 z2 z3 z4 y1 hrg hv0
  go_enter Tryz.func12, Tryz.ntmps12
  go_upto_if 9 with fail
  go_cut [1] (fun s1 wx => s1 = .int .i64 (lowed y) ∧ wx = (w0.alloc (.cells #[.slice A n c, .bool s, .slice B m d] 28)).alloc (.cells #[.slice none 0 0, .bool false, .slice none 0 0] 28))
  case first =>
    by_cases hy0 : y < -2147483648
    · go_wp2_with fail
      go_meet
      case rel => exact ⟨by unfold lowed; rw [if_pos hy0], rfl⟩
    · go_wp2_with fail
      go_meet
      case rel => exact ⟨by unfold lowed; rw [if_neg (by omega)], rfl⟩
  case rest =>
    obtain ⟨rfl, rfl⟩ := hcut
    go_upto_if 11 with fail
    go_cut [1] (fun s1 wx => s1 = .int .i64 sh ∧ wx = (w0.alloc (.cells #[.slice A n c, .bool s, .slice B m d] 28)).alloc (.cells #[.slice none 0 0, .bool false, .slice none 0 0] 28))
    case first =>
      by_cases hy1 : 2147483647 < lowed y
      · go_wp2_with fail
        go_meet
        case rel => exact ⟨by rw [← HCL.out, if_pos hy1], rfl⟩
      · go_wp2_with fail
        go_meet
        case rel => exact ⟨by rw [← HCL.out, if_neg (by omega)], rfl⟩
    case rest =>
      obtain ⟨rfl, rfl⟩ := hcut
      clear HCL
      go_wp2_with fail
      refine hva.mono ?_
      rintro e W1 ⟨AV, cV, rfl, iv, hv1, hv2, b2⟩
      have IV := hide iv
      have HXB := hide (XB.out.next b2)
      have HXP := hide (XP.out.next b2)
      have HXR := hide (XR.out.next b2)
      have HT1 := hide (HW1.out.next b2)
      have HG8 := hide (show w0.heap.size + 1 + 1 < W1.heap.size from HXB.out.lt)
      have HE := hide (show GoRel W1 (w0.heap.size + 1 + 1) (moved sh ((norm L).take 0)) K (k + L.length) 0 W1 from
        ⟨[], none, 0, 0, s, B, m, d, HXB.out, LRow.nil _ _ _ _, rfl, Nat.le_refl _, rfl, fun p hp => by simp at hp, (HR1.out.below b2).mono (by omega), Only.refl _ _, Kp.refl _⟩)
      have hm1 : (vars L).length ≤ 1099511 := by have := vars_length L; omega
      clear iv b2 x1 x2 w1' w2' w3' hva
      generalize hm : (vars L).length = m1 at *
      have HM := hide hm
      clear hm
      go_wp2_with fail
      go_loopw [7] (fun i wr => ∃ q : Nat, q ≤ m1 ∧ i = .int .i64 q ∧ Hid (GoRel W1 (w0.heap.size + 1 + 1) (moved sh ((norm L).take q)) K (k + L.length) q wr)) (fun i _ => m1 - (intOf i).toNat)
      case atStart => exact ⟨0, Nat.zero_le _, rfl, HE⟩
      case round =>
        obtain ⟨q, hq, rfl, HR⟩ := hrel
        obtain ⟨rs, A4, r, c4, s4, B4, m4, d4, xg, lr, hrl, hrq, hlin, hrz, zK, oW, kW⟩ := HR.out
        have hT : Below w0.heap.size w0 wr := HT1.out.trans (oW.below HT1.out.size (by have := HG8.out; omega))
        by_cases hqm : q < m1
        · obtain ⟨bb, o, x, rfl, hlt, hx, c0⟩ := (IV.out.keepT (b0 := #[]) HXB.out oW).at_ hqm
          have hgt := HRG.out _ (List.mem_of_getElem? (norm_get L q x hx))
          dsimp only at hgt
          have HMT := hide (moved_take sh (norm L) q _ _ (norm_get L q x hx))
          have hw1 : IntKind.i64.wrap (2147483647 - sh) = 2147483647 - sh := IntWalk.i64_in _ (by omega)
          have hw2 : IntKind.i64.wrap (0 - sh) = 0 - sh := IntWalk.i64_in _ (by omega)
          have hw2' : IntKind.i64.wrap (-sh) = -sh := IntWalk.i64_in _ (by omega)
          by_cases hin : 0 ≤ x + sh ∧ x + sh ≤ 2147483647
          · have hw3 : IntKind.i64.wrap (x + sh) = x + sh := IntWalk.i64_in _ (by omega)
            have hi1 : x ≤ 2147483647 - sh := by omega
            have hi2 : 0 - sh ≤ x := by omega
            have hi2' : -sh ≤ x := by omega
            have HMR := hide (show moved sh ((norm L).take (q + 1)) = moved sh ((norm L).take q) ++ [(x + sh, coef L x)] from by rw [HMT.out, if_pos hin])
            have HXG := hide xg
            have HL := hide lr
            have HRL := hide hrl
            have HQR := hide hrq
            have HLI := hide hlin
            have HRZ := hide hrz
            have HZK := hide zK
            have HOW := hide oW
            have HKW := hide kW
            have HWS := hide oW.size
            have HTT := hide hT
            have HRW := hide (show ∀ gs, (Value.slice A4 r c4).ownBlock = some gs → gs < wr.heap.size from fun gs e => (lr.lt gs e).2)
            have HF6 := hide (fun W (h : Below wr.heap.size wr W) => rcoef_any _ L K x k W (HV0.out.below (HTT.out.next h)) hl (by omega))
            have zt := HXP.out.other oW (by omega)
            have SOF := hide (show ∀ W, Below wr.heap.size wr W → (W.cell? ⟨w0.heap.size + 1 + 1, 0, none⟩ = some (.slice A4 r c4) ∧ W.cell? ⟨bb, o + q, none⟩ = some (.int .i64 x) ∧ W.cell? ⟨w0.heap.size, 0, none⟩ = some (.slice A n c) ∧ W.cell? ⟨w0.heap.size, 1, none⟩ = some (.bool s) ∧ W.cell? ⟨w0.heap.size, 2, none⟩ = some (.slice B m d)) from fun W h => ⟨(HXG.out.next h).c0, (h.cell (p := ⟨bb, o + q, none⟩) hlt).trans c0, (zt.next h).c0, (zt.next h).c1, (zt.next h).c2⟩)
            clear xg lr hrl hlin hrz zK oW kW hT hx zt HR hin
            go_wp2_with fail
            clear c0 hi1 hi2 hi2' hw1 hw2 hw2'
            refine wp_drawnL (by kernel_rfl) (by kernel_rfl) (by kernel_rfl) (by kernel_rfl) (Tg (Value.slice A4 r c4).ownBlock) (fun j v w => match j with | 0 => v = .pointer (some ⟨w0.heap.size + 1 + 1, 0, none⟩) | 1 => v = .slice A4 r c4 | 2 => v = .slice (some ⟨bb, o, none⟩) m1 cV | 3 => v = .int .i64 (q : Int) | 4 => v = .pointer (some ⟨bb, o + q, none⟩) | 5 => v = .int .i64 x | 6 => v = .int .i64 sh | 7 => v = .int .i64 (x + sh) | 8 => v = .agg #[.slice A n c, .bool s, .slice B m d] | 9 => v = .slice (some ⟨bb, o, none⟩) m1 cV | 10 => v = .int .i64 (q : Int) | 11 => v = .pointer (some ⟨bb, o + q, none⟩) | 12 => v = .int .i64 x | 13 => ∃ s B m d, v = .agg #[.bool s, .slice B m d] ∧ ZRes w (.agg #[.bool s, .slice B m d]) (coef L x) (k + L.length) | 14 => ∃ s B m d, v = .agg #[.int .i64 (x + sh), .bool s, .slice B m d] ∧ ZRes w (.agg #[.bool s, .slice B m d]) (coef L x) (k + L.length) | 15 => ∃ gs s B m d, v = .slice (some ⟨gs, 0, none⟩) 1 1 ∧ wr.heap.size ≤ gs ∧ Box 51 w gs #[.int .i64 (x + sh), .bool s, .slice B m d] ∧ ZRes w (.agg #[.bool s, .slice B m d]) (coef L x) (k + L.length) | 16 => True | 17 => v = .pointer (some ⟨w0.heap.size + 1 + 1, 0, none⟩) | _ => True) (GA 16 wr (fun v w => ∃ p2 : PV, p2.v = (x + sh) ∧ p2.Z = (coef L x) ∧ LRow 51 3 w W1.heap.size v (rs ++ [p2]).length (flat (rs ++ [p2])) ∧ ZRes w p2.num p2.Z (k + L.length) ∧ Tg (Value.slice A4 r c4).ownBlock wr w)) ?_ (fun _ => GA.start _ (bl_drewN wr 1)) ?_ ?_
            · intro j v w w' hT h
              match j, h with
              | 0, h => exact h
              | 1, h => exact h
              | 2, h => exact h
              | 3, h => exact h
              | 4, h => exact h
              | 5, h => exact h
              | 6, h => exact h
              | 7, h => exact h
              | 8, h => exact h
              | 9, h => exact h
              | 10, h => exact h
              | 11, h => exact h
              | 12, h => exact h
              | 13, h => exact (by obtain ⟨s, B, m, d, e, z⟩ := h; exact ⟨s, B, m, d, e, z.kp hT.2⟩)
              | 14, h => exact (by obtain ⟨s, B, m, d, e, z⟩ := h; exact ⟨s, B, m, d, e, z.kp hT.2⟩)
              | 15, h => exact (by obtain ⟨gs, s, B, m, d, e, h1, h2, h3⟩ := h; exact ⟨gs, s, B, m, d, e, h1, h2.grown hT.1 (fun e => by have := HRW.out gs e.symm; omega), h3.kp hT.2⟩)
              | 16, h => exact trivial
              | 17, h => exact h
              | j + 18, h => trivial
            · refine ⟨?_, ?_, ?_, ?_, ?_, ?_, ?_, ?_, ?_, ?_, ?_, ?_, ?_, ?_, ?_, ?_, ?_, ?_, trivial⟩
              · intro listed σ w a hin hout hl hla hs hc hp hG hF
                refine Guarded.none rfl ?_
                have e5 : a.tmps.getD 5 undef = .pointer (some ⟨w0.heap.size + 1 + 1, 0, none⟩) := hout 5 (outB_spec (by kernel_rfl))
                refine Does.val (.pointer (some ⟨w0.heap.size + 1 + 1, 0, none⟩)) (w' := w) ?_ ⟨Tg.refl _ _, rfl, hG.same (by decide)⟩
                simp only [Array.getD_eq_getD_getElem?] at e5
                go_simp
              · intro listed σ w a hin hout hl hla hs hc hp hG hF
                refine Guarded.none rfl ?_
                have e39 : a.tmps.getD 39 undef = .pointer (some ⟨w0.heap.size + 1 + 1, 0, none⟩) := (hin 0 39 rfl (hp ⟨0, .data⟩ (by simp) rfl)).trans (hF 0 (hp ⟨0, .data⟩ (by simp) rfl))
                have CC := SOF.out w (hG.1 (un_next (k := 16) hc hl (by kernel_rfl))); obtain ⟨C0, D0, E0, E1, E2⟩ := CC
                refine Does.val (.slice A4 r c4) (w' := w) ?_ ⟨Tg.refl _ _, rfl, hG.same (by decide)⟩
                go_simp
              · intro listed σ w a hin hout hl hla hs hc hp hG hF
                refine Guarded.none rfl ?_
                have e6 : a.tmps.getD 6 undef = .slice (some ⟨bb, o, none⟩) m1 cV := hout 6 (outB_spec (by kernel_rfl))
                refine Does.val (.slice (some ⟨bb, o, none⟩) m1 cV) (w' := w) ?_ ⟨Tg.refl _ _, rfl, hG.same (by decide)⟩
                simp only [Array.getD_eq_getD_getElem?] at e6
                go_simp
              · intro listed σ w a hin hout hl hla hs hc hp hG hF
                refine Guarded.none rfl ?_
                have e7 : a.tmps.getD 7 undef = .int .i64 (q : Int) := hout 7 (outB_spec (by kernel_rfl))
                refine Does.val (.int .i64 (q : Int)) (w' := w) ?_ ⟨Tg.refl _ _, rfl, hG.same (by decide)⟩
                simp only [Array.getD_eq_getD_getElem?] at e7
                go_simp
              · intro listed σ w a hin hout hl hla hs hc hp hG hF
                refine Guarded.none rfl ?_
                have e41 : a.tmps.getD 41 undef = .slice (some ⟨bb, o, none⟩) m1 cV := (hin 2 41 rfl (hp ⟨2, .data⟩ (by simp) rfl)).trans (hF 2 (hp ⟨2, .data⟩ (by simp) rfl))
                have e42 : a.tmps.getD 42 undef = .int .i64 (q : Int) := (hin 3 42 rfl (hp ⟨3, .data⟩ (by simp) rfl)).trans (hF 3 (hp ⟨3, .data⟩ (by simp) rfl))
                refine Does.val (.pointer (some ⟨bb, o + q, none⟩)) (w' := w) ?_ ⟨Tg.refl _ _, rfl, hG.same (by decide)⟩
                simp only [Array.getD_eq_getD_getElem?] at e41 e42
                go_simp
                (try (intro hh; exfalso; omega))
              · intro listed σ w a hin hout hl hla hs hc hp hG hF
                refine Guarded.none rfl ?_
                have e43 : a.tmps.getD 43 undef = .pointer (some ⟨bb, o + q, none⟩) := (hin 4 43 rfl (hp ⟨4, .data⟩ (by simp) rfl)).trans (hF 4 (hp ⟨4, .data⟩ (by simp) rfl))
                have CC := SOF.out w (hG.1 (un_next (k := 16) hc (un_next (k := 15) hc (un_next (k := 14) hc (un_next (k := 7) hc hl (by kernel_rfl)) (by kernel_rfl)) (by kernel_rfl)) (by kernel_rfl))); obtain ⟨C0, D0, E0, E1, E2⟩ := CC
                refine Does.val (.int .i64 x) (w' := w) ?_ ⟨Tg.refl _ _, rfl, hG.same (by decide)⟩
                go_simp
              · intro listed σ w a hin hout hl hla hs hc hp hG hF
                refine Guarded.none rfl ?_
                have e1 : a.tmps.getD 1 undef = .int .i64 sh := hout 1 (outB_spec (by kernel_rfl))
                refine Does.val (.int .i64 sh) (w' := w) ?_ ⟨Tg.refl _ _, rfl, hG.same (by decide)⟩
                simp only [Array.getD_eq_getD_getElem?] at e1
                go_simp
              · intro listed σ w a hin hout hl hla hs hc hp hG hF
                refine Guarded.none rfl ?_
                have e44 : a.tmps.getD 44 undef = .int .i64 x := (hin 5 44 rfl (hp ⟨5, .data⟩ (by simp) rfl)).trans (hF 5 (hp ⟨5, .data⟩ (by simp) rfl))
                have e45 : a.tmps.getD 45 undef = .int .i64 sh := (hin 6 45 rfl (hp ⟨6, .data⟩ (by simp) rfl)).trans (hF 6 (hp ⟨6, .data⟩ (by simp) rfl))
                refine Does.val (.int .i64 (x + sh)) (w' := w) ?_ ⟨Tg.refl _ _, rfl, hG.same (by decide)⟩
                simp only [Array.getD_eq_getD_getElem?] at e44 e45
                go_simp
              · intro listed σ w a hin hout hl hla hs hc hp hG hF
                refine Guarded.none rfl ?_
                have e2 : a.tmps.getD 2 undef = .pointer (some ⟨w0.heap.size, 0, none⟩) := hout 2 (outB_spec (by kernel_rfl))
                have CC := SOF.out w (hG.1 (un_next (k := 16) hc (un_next (k := 13) hc hl (by kernel_rfl)) (by kernel_rfl))); obtain ⟨C0, D0, E0, E1, E2⟩ := CC
                refine Does.val (.agg #[.slice A n c, .bool s, .slice B m d]) (w' := w) ?_ ⟨Tg.refl _ _, rfl, hG.same (by decide)⟩
                go_simp
              · intro listed σ w a hin hout hl hla hs hc hp hG hF
                refine Guarded.none rfl ?_
                have e6 : a.tmps.getD 6 undef = .slice (some ⟨bb, o, none⟩) m1 cV := hout 6 (outB_spec (by kernel_rfl))
                refine Does.val (.slice (some ⟨bb, o, none⟩) m1 cV) (w' := w) ?_ ⟨Tg.refl _ _, rfl, hG.same (by decide)⟩
                simp only [Array.getD_eq_getD_getElem?] at e6
                go_simp
              · intro listed σ w a hin hout hl hla hs hc hp hG hF
                refine Guarded.none rfl ?_
                have e7 : a.tmps.getD 7 undef = .int .i64 (q : Int) := hout 7 (outB_spec (by kernel_rfl))
                refine Does.val (.int .i64 (q : Int)) (w' := w) ?_ ⟨Tg.refl _ _, rfl, hG.same (by decide)⟩
                simp only [Array.getD_eq_getD_getElem?] at e7
                go_simp
              · intro listed σ w a hin hout hl hla hs hc hp hG hF
                refine Guarded.none rfl ?_
                have e48 : a.tmps.getD 48 undef = .slice (some ⟨bb, o, none⟩) m1 cV := (hin 9 48 rfl (hp ⟨9, .data⟩ (by simp) rfl)).trans (hF 9 (hp ⟨9, .data⟩ (by simp) rfl))
                have e49 : a.tmps.getD 49 undef = .int .i64 (q : Int) := (hin 10 49 rfl (hp ⟨10, .data⟩ (by simp) rfl)).trans (hF 10 (hp ⟨10, .data⟩ (by simp) rfl))
                refine Does.val (.pointer (some ⟨bb, o + q, none⟩)) (w' := w) ?_ ⟨Tg.refl _ _, rfl, hG.same (by decide)⟩
                simp only [Array.getD_eq_getD_getElem?] at e48 e49
                go_simp
                (try (intro hh; exfalso; omega))
              · intro listed σ w a hin hout hl hla hs hc hp hG hF
                refine Guarded.none rfl ?_
                have e50 : a.tmps.getD 50 undef = .pointer (some ⟨bb, o + q, none⟩) := (hin 11 50 rfl (hp ⟨11, .data⟩ (by simp) rfl)).trans (hF 11 (hp ⟨11, .data⟩ (by simp) rfl))
                have CC := SOF.out w (hG.1 (un_next (k := 16) hc (un_next (k := 13) hc hl (by kernel_rfl)) (by kernel_rfl))); obtain ⟨C0, D0, E0, E1, E2⟩ := CC
                refine Does.val (.int .i64 x) (w' := w) ?_ ⟨Tg.refl _ _, rfl, hG.same (by decide)⟩
                go_simp
              · intro listed σ w a hin hout hl hla hs hc hp hG hF
                refine Guarded.none rfl ?_
                have e47 : a.tmps.getD 47 undef = .agg #[.slice A n c, .bool s, .slice B m d] := (hin 8 47 rfl (hp ⟨8, .data⟩ (by simp) rfl)).trans (hF 8 (hp ⟨8, .data⟩ (by simp) rfl))
                have e51 : a.tmps.getD 51 undef = .int .i64 x := (hin 12 51 rfl (hp ⟨12, .data⟩ (by simp) rfl)).trans (hF 12 (hp ⟨12, .data⟩ (by simp) rfl))
                refine Does.call ?_ (HF6.out w (hG.1 (un_next (k := 16) hc hl (by kernel_rfl)))) ?_
                · go_simp; (try exact eg _ _)
                · rintro e w' ⟨v, rfl, z, hb⟩
                  exact ⟨_, rfl, Tg.of_below hb, (by obtain ⟨s, B, m, d, rfl⟩ := z.form; exact ⟨s, B, m, d, rfl, z⟩), hG.call (by decide) (un_next (k := 16) hc hl (by kernel_rfl)) hb⟩
              · intro listed σ w a hin hout hl hla hs hc hp hG hF
                refine Guarded.none rfl ?_
                have e46 : a.tmps.getD 46 undef = .int .i64 (x + sh) := (hin 7 46 rfl (hp ⟨7, .data⟩ (by simp) rfl)).trans (hF 7 (hp ⟨7, .data⟩ (by simp) rfl))
                have e52 := hin 13 52 rfl (hp ⟨13, .data⟩ (by simp) rfl)
                obtain ⟨s13, B13, m13, d13, ev13, z13⟩ := hF 13 (hp ⟨13, .data⟩ (by simp) rfl)
                rw [ev13] at e52
                refine Does.val (.agg #[.int .i64 (x + sh), .bool s13, .slice B13 m13 d13]) (w' := w) ?_ ⟨Tg.refl _ _, ⟨s13, B13, m13, d13, rfl, z13⟩, hG.same (by decide)⟩
                simp only [Array.getD_eq_getD_getElem?] at e46 e52
                go_simp
              · intro listed σ w a hin hout hl hla hs hc hp hG hF
                refine Guarded.none rfl ?_
                have e53 := hin 14 53 rfl (hp ⟨14, .data⟩ (by simp) rfl)
                obtain ⟨s14, B14, m14, d14, ev14, z14⟩ := hF 14 (hp ⟨14, .data⟩ (by simp) rfl)
                rw [ev14] at e53
                refine Does.val (.slice (some ⟨w.heap.size, 0, none⟩) 1 1) (w' := w.alloc (.cells #[.int .i64 (x + sh), .bool s14, .slice B14 m14 d14] 51)) ?_ ⟨Tg.of_below (bl_alloc w _), ⟨w.heap.size, s14, B14, m14, d14, rfl, (hG.1 (un_next (k := 16) hc hl (by kernel_rfl))).size, Box.new _ _ _, z14.alloc _⟩, hG.call (by decide) (un_next (k := 16) hc hl (by kernel_rfl)) (bl_alloc w _)⟩
                simp only [Array.getD_eq_getD_getElem?] at e53
                go_simp
              · intro listed σ w a hin hout hl hla hs hc hp hG hF
                refine Guarded.none rfl ?_
                have e40 : a.tmps.getD 40 undef = .slice A4 r c4 := (hin 1 40 rfl (hp ⟨1, .data⟩ (by simp) rfl)).trans (hF 1 (hp ⟨1, .data⟩ (by simp) rfl))
                have e54 := hin 15 54 rfl (hp ⟨15, .data⟩ (by simp) rfl)
                obtain ⟨g15, s15, B15, m15, d15, ev15, hg15, x15, z15⟩ := hF 15 (hp ⟨15, .data⟩ (by simp) rfl)
                rw [ev15] at e54
                have hl0 := hl
                have hB := hG.1 hl
                have hl := HL.out.below hB
                obtain ⟨i0, hi0, hz0, hz1, hz2⟩ := info_parts part_info
                obtain ⟨v', w', hr, h2, h3⟩ := run_append_lrow (P := Tryz.prog) w W1.heap.size 22 22 51 i0 _ 3 40 Tryz.underlying22 hi0 hz0 hz1 hz2 rfl (by decide) part_zero_nls (.slice A4 r c4) r (flat rs) hl ⟨g15, 0, none⟩ 1 1 (flat [⟨(x + sh), s15, B15, m15, d15, (coef L x)⟩]) rfl (fun jj u hu => by rw [addr_add, Nat.zero_add]; exact x15.cell jj u (by simpa [flat, PV.cells] using hu)) (flat_one _) (flat_nls _) (by unfold maxLen; omega) (by omega) (Nat.le_trans HWS.out hB.size)
                have hk := hl.kp h3
                refine Does.val v' (w' := w') ?_ ⟨⟨h3, hk⟩, trivial, GA.on_ hl0 (by rw [hs]; decide) ⟨⟨(x + sh), s15, B15, m15, d15, (coef L x)⟩, rfl, rfl, ?_, z15.kp hk, ⟨World.grownBy.trans2 hB h3, (Kp.of_below hB).trans hk⟩⟩⟩
                · exact exec_append rfl e40 e54 hr
                · rw [flat_append, List.length_append, HRL.out]; exact h2
              · intro listed σ w a hin hout hl hla hs hc hp hG hF
                refine Guarded.none rfl ?_
                have e5 : a.tmps.getD 5 undef = .pointer (some ⟨w0.heap.size + 1 + 1, 0, none⟩) := hout 5 (outB_spec (by kernel_rfl))
                refine Does.val (.pointer (some ⟨w0.heap.size + 1 + 1, 0, none⟩)) (w' := w) ?_ ⟨Tg.refl _ _, rfl, hG.same (by decide)⟩
                simp only [Array.getD_eq_getD_getElem?] at e5
                go_simp
            · intro o ho
              injection ho with ho; subst ho
              intro listed σ w a hall hin hout hG hF
              refine Guarded.none rfl ?_
              have e56 : a.tmps.getD 56 undef = .pointer (some ⟨w0.heap.size + 1 + 1, 0, none⟩) := (hin 17 56 rfl (by decide)).trans (hF 17 (by decide))
              have e55 := hin 16 55 rfl (by decide)
              have z16 := hF 16 (by decide)
              obtain ⟨p2, e1, e2, l2, z2, tg⟩ := hG.2 (hall 16 (by decide))
              have hlr := HL.out
              have x9 := HXG.out.grown tg.1 (fun e => hlr.offTerm HXG.out e.symm)
              obtain ⟨A2, c2, hv2, -, -, -⟩ := l2.len
              have hlen2 : (rs ++ [p2]).length = r + 1 := by simp [HRL.out]
              rw [hlen2] at hv2
              rw [hv2] at e55 l2
              have u0 := x9.c0
              have u1 := x9.fr 0
              refine Does.skip (w' := w.setCell ⟨w0.heap.size + 1 + 1, 0, none⟩ (.slice A2 (r + 1) c2)) (by go_simp) ?_
              have HE2 := hide (GoRel.step HXG.out hlr HRL.out HQR.out HLI.out HRZ.out HZK.out HOW.out HKW.out HMR.out e1 e2 l2 z2 tg)
              rw [show fin _ σ undef _ = (Act.put (Act.put (Act.put (Act.put (Act.put (Act.put (Act.put (Act.put (Act.put (Act.put (Act.put (Act.put (Act.put (Act.put (Act.put (Act.put (Act.put (Act.put (Act.put _ (some 39) (σ 0)) (some 40) (σ 1)) (some 41) (σ 2)) (some 42) (σ 3)) (some 43) (σ 4)) (some 44) (σ 5)) (some 45) (σ 6)) (some 46) (σ 7)) (some 47) (σ 8)) (some 48) (σ 9)) (some 49) (σ 10)) (some 50) (σ 11)) (some 51) (σ 12)) (some 52) (σ 13)) (some 53) (σ 14)) (some 54) (σ 15)) (some 55) (σ 16)) (some 56) (σ 17)) none undef) from (fin_all hall).trans rfl]
              simp only [Act.put, List.setIfInBounds_toArray, List.set_cons_zero, List.set_cons_succ]
              generalize σ 0 = tt0; generalize σ 1 = tt1; generalize σ 2 = tt2; generalize σ 3 = tt3; generalize σ 4 = tt4; generalize σ 5 = tt5; generalize σ 6 = tt6; generalize σ 7 = tt7; generalize σ 8 = tt8; generalize σ 9 = tt9; generalize σ 10 = tt10; generalize σ 11 = tt11; generalize σ 12 = tt12; generalize σ 13 = tt13; generalize σ 14 = tt14; generalize σ 15 = tt15; generalize σ 16 = tt16 at *; generalize σ 17 = tt17
              clear hF hG hall hin hout SOF HF6 HRW l2 z2 tg x9 u0 u1 hlen2
              generalize w.setCell ⟨w0.heap.size + 1 + 1, 0, none⟩ (.slice A2 (r + 1) c2) = w8 at *
              go_wp2_with fail
              go_roundw
              case rel => exact ⟨q + 1, by omega, by go_num, HE2⟩
              case measure => simp [intOf] <;> omega
          · have HE2 := hide (GoRel.skip HR.out (R' := moved sh ((norm L).take (q + 1))) (by rw [HMT.out, if_neg hin, List.append_nil]))
            clear xg lr hrl hrq hlin hrz zK oW kW hT hx HR
            by_cases hi1 : x ≤ 2147483647 - sh
            · have hi2 : ¬ 0 - sh ≤ x := by omega
              have hi2' : ¬ -sh ≤ x := by omega
              clear hin
              go_wp2_with fail
              go_roundw
              case rel => exact ⟨q + 1, by omega, by go_num, HE2⟩
              case measure => simp [intOf] <;> omega
            · clear hin
              go_wp2_with fail
              go_roundw
              case rel => exact ⟨q + 1, by omega, by go_num, HE2⟩
              case measure => simp [intOf] <;> omega
        · obtain rfl : q = m1 := by omega
          have hall := List.take_of_length_le (l := norm L) (i := q) (by rw [← HM.out]; unfold vars; rw [List.length_map]; exact Nat.le_refl _)
          rw [hall] at hlin
          have hR := HXR.out.other oW (by omega)
          obtain ⟨A', c', hv', hc1', hc2', -⟩ := lr.len
          injection hv' with e1' e2' e3'
          subst e1' e3'
          have HT := hide (show TIn wr (.agg #[.slice A4 r c4, .bool s4, .slice B4 m4 d4]) (moved sh (norm L)) K (k + L.length) from ⟨A4, r, c4, s4, B4, m4, d4, rfl, by rw [← hlin]; exact ⟨rs, lr.parts hrl hrz, rfl⟩, hc1', hc2', zK⟩)
          have hwl := moved_length sh (norm L)
          have hwn := norm_length L
          have hpl := rplain_any _ _ _ _ _ HT.out (by omega) (by omega)
          have HB := hide hT
          have x0 := xg.c0
          have x1 := xg.c1
          have x2 := xg.c2
          clear lr hrl hlin hrz zK oW kW HR xg hT hall
          go_wp2_with fail
          refine hpl.mono ?_
          rintro e w5 ⟨v5, rfl, r5, b5⟩
          obtain ⟨A5, n5, c5, s5, B5, m5, d5, rfl⟩ := r5.form
          have hR5 := hR.next b5
          go_wp2_with (with_reducible refine wpList_store_t rfl _ _ rfl (w0.heap.size + 1) _ _ _ _ _ _ _ rfl rfl _ _ _ hR5 ?_; intro w7 k7 ho7)
          refine bodyPost_t rfl rfl k7 rfl ?_
          exact TPost.mono ⟨_, rfl, r5.only hR5 ho7, zback (HB.out.next b5) (by omega) ho7⟩ (by omega)
end Go.Proofs.YtdeakieenppmiaaGreat
