/- Texts of one seat, put together: RelDeny. -/
import Derived.Test.YtdeakieenppmiaaGreatDoorC36
import Derived.Test.YtdeakieenppmiaaGreatDoorC21
import Derived.Test.YtdeakieenppmiaaGreatDoorC37
import Derived.Test.YtdeakieenppmiaaGreatDoorC24
set_option linter.unusedVariables false
set_option linter.unusedSimpArgs false
set_option maxRecDepth 100000
set_option maxHeartbeats 16000000
/- rel.Deny, plumblineref04.Deny. -/
namespace Go.Proofs.YtdeakieenppmiaaGreatDoor
open Go.RowKit
open Tm

theorem rneg_map (L : List (Int × Int)) : norm (L.map fun p => (p.1, p.2 * -1)) = negL L := by
 unfold negL
 congr 1
 apply List.map_congr_left
 intro p _
 rw [Int.mul_comm]
theorem relDeny_any (v : Value) (L : List (Int × Int)) (K : Int) (e : Bool) (k : Nat) (w0 : World) (hv : RIn w0 v L K e k) (hle : L.length ≤ 100000) (hk : k ≤ 100000) : Calls Tryz.prog 16 #[v] w0 (RelsPost (den L K e) (k + L.length + 3 + L.length) w0) := by
 obtain ⟨A, n, c, s, B, m, d, rfl, ht⟩ := hv
 obtain ⟨z0, z1, -⟩ := bstart1 30 w0 #[.slice A n c, .bool s, .slice B m d, .bool e]
 have HNG := hide (show (negL L).length ≤ L.length by unfold negL; refine Nat.le_trans (norm_length _) ?_; rw [List.length_map]; exact Nat.le_refl _)
 have HNL := hide (norm_length L)
 go_enter Tryz.func16, Tryz.ntmps16
 go_wp2_with fail
 refine (of_z 1 _ (by decide) (by decide)).mono ?_
 rintro en wa ⟨va, rfl, ra, ba⟩
 have hnm := number_t va 1 2 wa ra.in_ (by decide)
 have Z0 := hide (z0.next ba)
 have Z1 := hide (z1.next ba)
 have HT0 := hide ht
 clear ra ba z0 z1 ht
 go_wp2_with fail
 refine hnm.mono ?_
 rintro en w1 ⟨v1, rfl, r1, b1⟩
 obtain ⟨A1, n1, c1, s1, B1, m1, d1, rfl⟩ := r1.form
 have y1 := bl_alloc w1 (.cells #[.slice A1 n1 c1, .bool s1, .slice B1 m1 d1] 28)
 have HT := hide ((Z1.out.next b1).next y1)
 have XR := hide ((Z0.out.next b1).next y1)
 have X1 := hide (Box.new 28 w1 #[.slice A1 n1 c1, .bool s1, .slice B1 m1 d1])
 have HONE := hide (r1.below y1)
 have HV := hide (HT0.out.below HT.out)
 clear hnm r1 b1 y1 Z0 Z1
 go_upto_region 2 with fail
 generalize hW : (w1.alloc (.cells #[.slice A1 n1 c1, .bool s1, .slice B1 m1 d1] 28)) = W0 at *
 clear hW
 have SOF := hide (show ∀ W, Below W0.heap.size W0 W → (W.cell? ⟨w0.heap.size, 0, none⟩ = some (.slice A n c) ∧ W.cell? ⟨w0.heap.size, 1, none⟩ = some (.bool s) ∧ W.cell? ⟨w0.heap.size, 2, none⟩ = some (.slice B m d) ∧ W.cell? ⟨w1.heap.size, 0, none⟩ = some (.slice A1 n1 c1) ∧ W.cell? ⟨w1.heap.size, 1, none⟩ = some (.bool s1) ∧ W.cell? ⟨w1.heap.size, 2, none⟩ = some (.slice B1 m1 d1)) from fun W h => ⟨(XR.out.next h).r0, (XR.out.next h).r1, (XR.out.next h).r2, (X1.out.next h).c0, (X1.out.next h).c1, (X1.out.next h).c2⟩)
 refine wp_drawnL (by kernel_rfl) (by kernel_rfl) (by kernel_rfl) (by kernel_rfl) (fun w w' => Below w.heap.size w w') (fun j v w => match j with | 0 => v = .pointer (some ⟨w0.heap.size, 0, none⟩) | 1 => v = .agg #[.slice A n c, .bool s, .slice B m d] | 2 => TRes w v (negL L) (-K) (k + L.length) | 3 => v = .agg #[.slice A1 n1 c1, .bool s1, .slice B1 m1 d1] | 4 => TRes w v (negL L) (-K - 1) (k + L.length + 3 + L.length) | 5 => RRes w v (negL L) (-K - 1) false (k + L.length + 3 + L.length) | 6 => ∃ g, v = .pointer (some ⟨g, 0, none⟩) ∧ W0.heap.size ≤ g ∧ Box 30 w g #[.slice none 0 0, .bool false, .slice none 0 0, .bool false] | _ => True) (fun _ _ w => Below W0.heap.size W0 w) ?_ (fun _ => bl_drewN W0 1) ?_ ?_
 · intro j v w w' hT h
   match j, h with
   | 0, h => exact h
   | 1, h => exact h
   | 2, h => exact h.below hT
   | 3, h => exact h
   | 4, h => exact h.below hT
   | 5, h => exact h.below hT
   | 6, h => exact (by obtain ⟨g, e, h1, h2⟩ := h; exact ⟨g, e, h1, h2.next hT⟩)
   | j + 7, h => trivial
 · refine ⟨?_, ?_, ?_, ?_, ?_, ?_, ?_, trivial⟩
   · intro listed σ w a hin hout hl hla hs hc hp hG hF
     refine Guarded.none rfl ?_
     have e1 : a.tmps.getD 1 undef = .pointer (some ⟨w0.heap.size, 0, none⟩) := hout 1 (outB_spec (by kernel_rfl))
     refine Does.val (.pointer (some ⟨w0.heap.size, 0, none⟩)) (w' := w) ?_ ⟨Below.refl _ _, rfl, hG⟩
     simp only [Array.getD_eq_getD_getElem?] at e1
     go_simp
   · intro listed σ w a hin hout hl hla hs hc hp hG hF
     refine Guarded.none rfl ?_
     have e7 : a.tmps.getD 7 undef = .pointer (some ⟨w0.heap.size, 0, none⟩) := (hin 0 7 rfl (hp ⟨0, .data⟩ (by simp) rfl)).trans (hF 0 (hp ⟨0, .data⟩ (by simp) rfl))
     have CC := SOF.out w hG; obtain ⟨C0, C1, C2, D0, D1, D2⟩ := CC
     refine Does.val (.agg #[.slice A n c, .bool s, .slice B m d]) (w' := w) ?_ ⟨Below.refl _ _, rfl, hG⟩
     go_simp
   · intro listed σ w a hin hout hl hla hs hc hp hG hF
     refine Guarded.none rfl ?_
     have e8 : a.tmps.getD 8 undef = .agg #[.slice A n c, .bool s, .slice B m d] := (hin 1 8 rfl (hp ⟨1, .data⟩ (by simp) rfl)).trans (hF 1 (hp ⟨1, .data⟩ (by simp) rfl))
     refine Does.call ?_ (tneg_any _ L K k w (HV.out.below hG) (by omega) (by omega)) ?_
     · go_simp
     · rintro e w' ⟨v, rfl, z, hb⟩
       exact ⟨_, rfl, hb, z, hG.next hb⟩
   · intro listed σ w a hin hout hl hla hs hc hp hG hF
     refine Guarded.none rfl ?_
     have e3 : a.tmps.getD 3 undef = .pointer (some ⟨w1.heap.size, 0, none⟩) := hout 3 (outB_spec (by kernel_rfl))
     have CC := SOF.out w hG; obtain ⟨C0, C1, C2, D0, D1, D2⟩ := CC
     refine Does.val (.agg #[.slice A1 n1 c1, .bool s1, .slice B1 m1 d1]) (w' := w) ?_ ⟨Below.refl _ _, rfl, hG⟩
     go_simp
   · intro listed σ w a hin hout hl hla hs hc hp hG hF
     refine Guarded.none rfl ?_
     have e9 := hin 2 9 rfl (hp ⟨2, .data⟩ (by simp) rfl)
     have z2 := hF 2 (hp ⟨2, .data⟩ (by simp) rfl)
     have e10 : a.tmps.getD 10 undef = .agg #[.slice A1 n1 c1, .bool s1, .slice B1 m1 d1] := (hin 3 10 rfl (hp ⟨3, .data⟩ (by simp) rfl)).trans (hF 3 (hp ⟨3, .data⟩ (by simp) rfl))
     refine Does.call ?_ (tsub_any _ _ (negL L) [] (-K) 1 (k + L.length + 2) w (z2.in_.mono (by omega)) ((HONE.out.below hG).in_.mono (by omega)) (by have := HNG.out; omega) (by simp) (by omega)) ?_
     · go_simp
     · rintro e w' ⟨v, rfl, z, hb⟩
       exact ⟨_, rfl, hb, (z.ofEq (by rw [List.map_nil, List.append_nil]; exact norm_norm _) rfl).mono (by have := HNG.out; simp; omega), hG.next hb⟩
   · intro listed σ w a hin hout hl hla hs hc hp hG hF
     refine Guarded.none rfl ?_
     have e11 := hin 4 11 rfl (hp ⟨4, .data⟩ (by simp) rfl)
     have z4 := hF 4 (hp ⟨4, .data⟩ (by simp) rfl)
     obtain ⟨A7, n7, c7, s7, B7, m7, d7, ev7⟩ := TRes.form z4
     rw [ev7] at e11 z4
     refine Does.val (.agg #[.slice A7 n7 c7, .bool s7, .slice B7 m7 d7, .bool false]) (w' := w) ?_ ⟨Below.refl _ _, ⟨A7, n7, c7, s7, B7, m7, d7, rfl, z4⟩, hG⟩
     simp only [Array.getD_eq_getD_getElem?] at e11
     go_simp
   · intro listed σ w a hin hout hl hla hs hc hp hG hF
     refine Guarded.none rfl ?_
     refine Does.val (.pointer (some ⟨w.heap.size, 0, none⟩)) (w' := w.alloc (.cells #[.slice none 0 0, .bool false, .slice none 0 0, .bool false] 30)) ?_ ⟨bl_alloc w _, ⟨w.heap.size, rfl, hG.size, Box.new _ _ _⟩, hG.next (bl_alloc w _)⟩
     go_simp
 · intro o ho
   injection ho with ho; subst ho
   intro listed σ w a hall hin hout hG hF
   refine Guarded.none rfl ?_
   have e4 := hin 6 4 rfl (by decide)
   obtain ⟨g6, ev6, hg6, x6⟩ := hF 6 (by decide)
   rw [ev6] at e4
   have e12 := hin 5 12 rfl (by decide)
   have z5 := hF 5 (by decide)
   obtain ⟨A8, n8, c8, s8, B8, m8, d8, ev8, t8⟩ := z5
   rw [ev8] at e12
   have hne : w0.heap.size ≠ g6 := by have := XR.out.lt; omega
   refine Does.store_box (T := 30) (cells := #[.slice A8 n8 c8, .bool s8, .slice B8 m8 d8, .bool false]) rfl e4 e12 x6 (by kernel_rfl) rfl (by simp [Value.oneCell']) (fun w2 x9 o9 => ?_)
   rw [show fin _ σ undef _ = (Act.put (Act.put (Act.put (Act.put (Act.put (Act.put (Act.put (Act.put _ (some 7) (σ 0)) (some 8) (σ 1)) (some 9) (σ 2)) (some 10) (σ 3)) (some 11) (σ 4)) (some 12) (σ 5)) (some 4) (σ 6)) none undef) from (fin_all hall).trans rfl]
   simp only [Act.put, List.setIfInBounds_toArray, List.set_cons_zero, List.set_cons_succ]
   rw [ev6]
   have b9 : Below W0.heap.size W0 w2 := hG.trans (o9.below hG.size hg6)
   have HLOW := hide (t8.onlyR x6 o9)
   have X9 := hide x9
   have HT9 := hide (HT.out.next b9)
   have XR9 := hide (XR.out.next b9)
   have X19 := hide (X1.out.next b9)
   have HV9 := hide (HV.out.below b9)
   have HONE9 := hide (HONE.out.below b9)
   generalize σ 0 = tt0 at *; generalize σ 1 = tt1 at *; generalize σ 2 = tt2 at *; generalize σ 3 = tt3 at *; generalize σ 4 = tt4 at *; generalize σ 5 = tt5 at *
   clear hF hG hall hin hout SOF t8 o9 e4 e12 ev8 ev6 hg6 x6 b9 x9
   have HV := HV9
   have HONE := HONE9
   generalize w2 = W0 at *
   have q3 := XR9.out.r3
   cases e with
   | false =>
     have y0 := X9.out.r0
     have y1 := X9.out.r1
     have y2 := X9.out.r2
     have y3 := X9.out.r3
     go_wp2_with fail
     go_ret
     exact relsPost_one (Box.new _ _ _) (HLOW.out.below (bl_alloc _ _)) (HT9.out.next (bl_alloc _ _))
   | true =>
     go_upto_region 5 with fail


     have SOF := hide (show ∀ W, Below W0.heap.size W0 W → (W.cell? ⟨w0.heap.size, 0, none⟩ = some (.slice A n c) ∧ W.cell? ⟨w0.heap.size, 1, none⟩ = some (.bool s) ∧ W.cell? ⟨w0.heap.size, 2, none⟩ = some (.slice B m d) ∧ W.cell? ⟨w1.heap.size, 0, none⟩ = some (.slice A1 n1 c1) ∧ W.cell? ⟨w1.heap.size, 1, none⟩ = some (.bool s1) ∧ W.cell? ⟨w1.heap.size, 2, none⟩ = some (.slice B1 m1 d1) ∧ W.cell? ⟨g6, 0, none⟩ = some (.slice A8 n8 c8) ∧ W.cell? ⟨g6, 1, none⟩ = some (.bool s8) ∧ W.cell? ⟨g6, 2, none⟩ = some (.slice B8 m8 d8) ∧ W.cell? ⟨g6, 3, none⟩ = some (.bool false)) from fun W h => ⟨(XR9.out.next h).r0, (XR9.out.next h).r1, (XR9.out.next h).r2, (X19.out.next h).c0, (X19.out.next h).c1, (X19.out.next h).c2, (X9.out.next h).r0, (X9.out.next h).r1, (X9.out.next h).r2, (X9.out.next h).r3⟩)
     clear q3
     refine wp_drawn (by kernel_rfl) (by kernel_rfl) (by kernel_rfl) (fun w w' => Below w.heap.size w w') (fun j v w => match j with | 0 => v = .pointer (some ⟨w0.heap.size, 0, none⟩) | 1 => v = .agg #[.slice A n c, .bool s, .slice B m d] | 2 => v = .agg #[.slice A1 n1 c1, .bool s1, .slice B1 m1 d1] | 3 => TRes w v (norm L) (K - 1) (k + L.length + 3 + L.length) | 4 => RRes w v (norm L) (K - 1) false (k + L.length + 3 + L.length) | 5 => v = .agg #[.slice A8 n8 c8, .bool s8, .slice B8 m8 d8, .bool false] | 6 => ∃ g A n c s B m d A2 n2 c2 s2 B2 m2 d2, v = .slice (some ⟨g, 0, none⟩) 2 2 ∧ Box 30 w g #[.slice A n c, .bool s, .slice B m d, .bool false, .slice A2 n2 c2, .bool s2, .slice B2 m2 d2, .bool false] ∧ TRes w (.agg #[.slice A n c, .bool s, .slice B m d]) (norm L) (K - 1) (k + L.length + 3 + L.length) ∧ TRes w (.agg #[.slice A2 n2 c2, .bool s2, .slice B2 m2 d2]) (negL L) (-K - 1) (k + L.length + 3 + L.length) | 7 => ∃ g A n c s B m d A2 n2 c2 s2 B2 m2 d2, v = .slice (some ⟨g, 0, none⟩) 2 2 ∧ Box 30 w g #[.slice A n c, .bool s, .slice B m d, .bool false, .slice A2 n2 c2, .bool s2, .slice B2 m2 d2, .bool false] ∧ TRes w (.agg #[.slice A n c, .bool s, .slice B m d]) (norm L) (K - 1) (k + L.length + 3 + L.length) ∧ TRes w (.agg #[.slice A2 n2 c2, .bool s2, .slice B2 m2 d2]) (negL L) (-K - 1) (k + L.length + 3 + L.length) | _ => True) (fun _ _ w => Below W0.heap.size W0 w) ?_ (fun _ => bl_drewN W0 1) ?_ ?_
     · intro j v w w' hT h
       match j, h with
       | 0, h => exact h
       | 1, h => exact h
       | 2, h => exact h
       | 3, h => exact h.below hT
       | 4, h => exact h.below hT
       | 5, h => exact h
       | 6, h => exact (by obtain ⟨g, A, n, c, s, B, m, d, A2, n2, c2, s2, B2, m2, d2, e, h1, h2, h3⟩ := h; exact ⟨g, A, n, c, s, B, m, d, A2, n2, c2, s2, B2, m2, d2, e, h1.next hT, h2.below hT, h3.below hT⟩)
       | 7, h => exact (by obtain ⟨g, A, n, c, s, B, m, d, A2, n2, c2, s2, B2, m2, d2, e, h1, h2, h3⟩ := h; exact ⟨g, A, n, c, s, B, m, d, A2, n2, c2, s2, B2, m2, d2, e, h1.next hT, h2.below hT, h3.below hT⟩)
       | j + 8, h => trivial
     · refine ⟨?_, ?_, ?_, ?_, ?_, ?_, ?_, ?_, trivial⟩
       · intro listed σ w a hin hout hl hc hp hG hF
         refine Guarded.none rfl ?_
         have e1 : a.tmps.getD 1 undef = .pointer (some ⟨w0.heap.size, 0, none⟩) := hout 1 (outB_spec (by kernel_rfl))
         refine Does.val (.pointer (some ⟨w0.heap.size, 0, none⟩)) (w' := w) ?_ ⟨Below.refl _ _, rfl, hG⟩
         simp only [Array.getD_eq_getD_getElem?] at e1
         go_simp
       · intro listed σ w a hin hout hl hc hp hG hF
         refine Guarded.none rfl ?_
         have e18 : a.tmps.getD 18 undef = .pointer (some ⟨w0.heap.size, 0, none⟩) := (hin 0 18 rfl (hp ⟨0, .data⟩ (by simp) rfl)).trans (hF 0 (hp ⟨0, .data⟩ (by simp) rfl))
         have CC := SOF.out w hG; obtain ⟨C0, C1, C2, D0, D1, D2, E0, E1, E2, E3⟩ := CC
         refine Does.val (.agg #[.slice A n c, .bool s, .slice B m d]) (w' := w) ?_ ⟨Below.refl _ _, rfl, hG⟩
         go_simp
       · intro listed σ w a hin hout hl hc hp hG hF
         refine Guarded.none rfl ?_
         have e3 : a.tmps.getD 3 undef = .pointer (some ⟨w1.heap.size, 0, none⟩) := hout 3 (outB_spec (by kernel_rfl))
         have CC := SOF.out w hG; obtain ⟨C0, C1, C2, D0, D1, D2, E0, E1, E2, E3⟩ := CC
         refine Does.val (.agg #[.slice A1 n1 c1, .bool s1, .slice B1 m1 d1]) (w' := w) ?_ ⟨Below.refl _ _, rfl, hG⟩
         go_simp
       · intro listed σ w a hin hout hl hc hp hG hF
         refine Guarded.none rfl ?_
         have e19 : a.tmps.getD 19 undef = .agg #[.slice A n c, .bool s, .slice B m d] := (hin 1 19 rfl (hp ⟨1, .data⟩ (by simp) rfl)).trans (hF 1 (hp ⟨1, .data⟩ (by simp) rfl))
         have e20 : a.tmps.getD 20 undef = .agg #[.slice A1 n1 c1, .bool s1, .slice B1 m1 d1] := (hin 2 20 rfl (hp ⟨2, .data⟩ (by simp) rfl)).trans (hF 2 (hp ⟨2, .data⟩ (by simp) rfl))
         refine Does.call ?_ (tsub_any _ _ L [] K 1 (k + L.length + 2) w ((HV.out.below hG).mono (by omega)) ((HONE.out.below hG).in_.mono (by omega)) (by omega) (by simp) (by omega)) ?_
         · go_simp
         · rintro e w' ⟨v, rfl, z, hb⟩
           exact ⟨_, rfl, hb, (z.ofEq (by rw [List.map_nil, List.append_nil]) rfl).mono (by simp <;> omega), hG.next hb⟩
       · intro listed σ w a hin hout hl hc hp hG hF
         refine Guarded.none rfl ?_
         have e21 := hin 3 21 rfl (hp ⟨3, .data⟩ (by simp) rfl)
         have z3 := hF 3 (hp ⟨3, .data⟩ (by simp) rfl)
         obtain ⟨A7, n7, c7, s7, B7, m7, d7, ev7⟩ := TRes.form z3
         rw [ev7] at e21 z3
         refine Does.val (.agg #[.slice A7 n7 c7, .bool s7, .slice B7 m7 d7, .bool false]) (w' := w) ?_ ⟨Below.refl _ _, ⟨A7, n7, c7, s7, B7, m7, d7, rfl, z3⟩, hG⟩
         simp only [Array.getD_eq_getD_getElem?] at e21
         go_simp
       · intro listed σ w a hin hout hl hc hp hG hF
         refine Guarded.none rfl ?_
         have e4 : a.tmps.getD 4 undef = .pointer (some ⟨g6, 0, none⟩) := hout 4 (outB_spec (by kernel_rfl))
         have CC := SOF.out w hG; obtain ⟨C0, C1, C2, D0, D1, D2, E0, E1, E2, E3⟩ := CC
         refine Does.val (.agg #[.slice A8 n8 c8, .bool s8, .slice B8 m8 d8, .bool false]) (w' := w) ?_ ⟨Below.refl _ _, rfl, hG⟩
         go_simp
       · intro listed σ w a hin hout hl hc hp hG hF
         refine Guarded.none rfl ?_
         have e22 := hin 4 22 rfl (hp ⟨4, .data⟩ (by simp) rfl)
         have z4 := hF 4 (hp ⟨4, .data⟩ (by simp) rfl)
         have e23 : a.tmps.getD 23 undef = .agg #[.slice A8 n8 c8, .bool s8, .slice B8 m8 d8, .bool false] := (hin 5 23 rfl (hp ⟨5, .data⟩ (by simp) rfl)).trans (hF 5 (hp ⟨5, .data⟩ (by simp) rfl))
         obtain ⟨A7, n7, c7, s7, B7, m7, d7, ev7, z7⟩ := z4
         rw [ev7] at e22
         refine Does.val (.slice (some ⟨w.heap.size, 0, none⟩) 2 2) (w' := w.alloc (.cells #[.slice A7 n7 c7, .bool s7, .slice B7 m7 d7, .bool false, .slice A8 n8 c8, .bool s8, .slice B8 m8 d8, .bool false] 30)) ?_ ⟨bl_alloc w _, ⟨w.heap.size, A7, n7, c7, s7, B7, m7, d7, A8, n8, c8, s8, B8, m8, d8, rfl, Box.new _ _ _, z7.below (bl_alloc w _), (HLOW.out.below hG).below (bl_alloc w _)⟩, hG.next (bl_alloc w _)⟩
         simp only [Array.getD_eq_getD_getElem?] at e22 e23
         go_simp
       · intro listed σ w a hin hout hl hc hp hG hF
         refine Guarded.none rfl ?_
         have e24 := hin 6 24 rfl (hp ⟨6, .data⟩ (by simp) rfl)
         have z6 := hF 6 (hp ⟨6, .data⟩ (by simp) rfl)
         obtain ⟨g, A, n, c, s, B, m, d, A2, n2, c2, s2, B2, m2, d2, ev, h1, h2, h3⟩ := z6
         rw [ev] at e24
         refine Does.val (.slice (some ⟨g, 0, none⟩) 2 2) (w' := w) ?_ ⟨Below.refl _ _, ⟨g, A, n, c, s, B, m, d, A2, n2, c2, s2, B2, m2, d2, rfl, h1, h2, h3⟩, hG⟩
         simp only [Array.getD_eq_getD_getElem?] at e24
         go_simp
     · intro listed σ W9 hall hG hF
       have F7 := hF 7 (by decide)
       rw [show mid _ σ listed _ = (Act.put (Act.put (Act.put (Act.put (Act.put (Act.put (Act.put (Act.put _ (some 18) (σ 0)) (some 19) (σ 1)) (some 20) (σ 2)) (some 21) (σ 3)) (some 22) (σ 4)) (some 23) (σ 5)) (some 24) (σ 6)) (some 2) (σ 7)) from (mid_all hall).trans rfl]
       generalize σ 0 = tt0
       generalize σ 1 = tt1
       generalize σ 2 = tt2
       generalize σ 3 = tt3
       generalize σ 4 = tt4
       generalize σ 5 = tt5
       generalize σ 6 = tt6
       generalize σ 7 = tt7 at F7 ⊢
       simp only [Act.put, List.setIfInBounds_toArray, List.set_cons_zero, List.set_cons_succ]
       have TG := hG
       clear hF hG hall
       clear σ
       obtain ⟨g, A', n', c', s', B', m', d', A2, n2, c2, s2, B2, m2, d2, ev, h1, h2, h3⟩ := F7
       subst ev
       go_wp2_with fail
       go_ret
       exact relsPost_two h1 h2 h3 (HT9.out.next TG)
theorem rdeny_any (v : Value) (L : List (Int × Int)) (K : Int) (e : Bool) (k : Nat) (w0 : World) (hv : RIn w0 v L K e k) (hle : L.length ≤ 100000) (hk : k ≤ 100000) : Calls Tryz.prog 17 #[v] w0 (RelsPost (den L K e) (k + L.length + 6 + L.length) w0) := by
 obtain ⟨A, n, c, s, B, m, d, rfl, ht⟩ := hv
 obtain ⟨z0, z1, -⟩ := bstart1 30 w0 #[.slice A n c, .bool s, .slice B m d, .bool e]
 have HNG := hide (show (negL L).length ≤ L.length by unfold negL; refine Nat.le_trans (norm_length _) ?_; rw [List.length_map]; exact Nat.le_refl _)
 have HNL := hide (norm_length L)
 go_enter Tryz.func17, Tryz.ntmps17
 go_wp2_with fail
 refine (rof_z 1 _ (by decide) (by decide)).mono ?_
 rintro en wa ⟨va, rfl, ra, ba⟩
 have hnm := rnumber_t va 1 2 wa ra.in_ (by decide)
 have Z0 := hide (z0.next ba)
 have Z1 := hide (z1.next ba)
 have HT0 := hide ht
 clear ra ba z0 z1 ht
 go_wp2_with fail
 refine hnm.mono ?_
 rintro en w1 ⟨v1, rfl, r1, b1⟩
 obtain ⟨A1, n1, c1, s1, B1, m1, d1, rfl⟩ := r1.form
 have y1 := bl_alloc w1 (.cells #[.slice A1 n1 c1, .bool s1, .slice B1 m1 d1] 28)
 have HT := hide ((Z1.out.next b1).next y1)
 have XR := hide ((Z0.out.next b1).next y1)
 have X1 := hide (Box.new 28 w1 #[.slice A1 n1 c1, .bool s1, .slice B1 m1 d1])
 have HONE := hide (r1.below y1)
 have HV := hide (HT0.out.below HT.out)
 clear hnm r1 b1 y1 Z0 Z1
 go_upto_region 2 with fail
 generalize hW : (w1.alloc (.cells #[.slice A1 n1 c1, .bool s1, .slice B1 m1 d1] 28)) = W0 at *
 clear hW
 have SOF := hide (show ∀ W, Below W0.heap.size W0 W → (W.cell? ⟨w0.heap.size, 0, none⟩ = some (.slice A n c) ∧ W.cell? ⟨w0.heap.size, 1, none⟩ = some (.bool s) ∧ W.cell? ⟨w0.heap.size, 2, none⟩ = some (.slice B m d)) from fun W h => ⟨(XR.out.next h).r0, (XR.out.next h).r1, (XR.out.next h).r2⟩)
 refine wp_drawnL (by kernel_rfl) (by kernel_rfl) (by kernel_rfl) (by kernel_rfl) (fun w w' => Below w.heap.size w w') (fun j v w => match j with | 0 => v = .pointer (some ⟨w0.heap.size, 0, none⟩) | 1 => v = .agg #[.slice A n c, .bool s, .slice B m d] | 2 => ZRes w v (-1) 2 | 3 => TRes w v (negL L) (-K) (k + 2 + L.length) | 4 => ∃ g, v = .pointer (some ⟨g, 0, none⟩) ∧ W0.heap.size ≤ g ∧ Box 28 w g #[.slice none 0 0, .bool false, .slice none 0 0] | _ => True) (fun _ _ w => Below W0.heap.size W0 w) ?_ (fun _ => bl_drewN W0 1) ?_ ?_
 · intro j v w w' hT h
   match j, h with
   | 0, h => exact h
   | 1, h => exact h
   | 2, h => exact h.below hT
   | 3, h => exact h.below hT
   | 4, h => exact (by obtain ⟨g, e, h1, h2⟩ := h; exact ⟨g, e, h1, h2.next hT⟩)
   | j + 5, h => trivial
 · refine ⟨?_, ?_, ?_, ?_, ?_, trivial⟩
   · intro listed σ w a hin hout hl hla hs hc hp hG hF
     refine Guarded.none rfl ?_
     have e1 : a.tmps.getD 1 undef = .pointer (some ⟨w0.heap.size, 0, none⟩) := hout 1 (outB_spec (by kernel_rfl))
     refine Does.val (.pointer (some ⟨w0.heap.size, 0, none⟩)) (w' := w) ?_ ⟨Below.refl _ _, rfl, hG⟩
     simp only [Array.getD_eq_getD_getElem?] at e1
     go_simp
   · intro listed σ w a hin hout hl hla hs hc hp hG hF
     refine Guarded.none rfl ?_
     have e8 : a.tmps.getD 8 undef = .pointer (some ⟨w0.heap.size, 0, none⟩) := (hin 0 8 rfl (hp ⟨0, .data⟩ (by simp) rfl)).trans (hF 0 (hp ⟨0, .data⟩ (by simp) rfl))
     have CC := SOF.out w hG; obtain ⟨C0, C1, C2⟩ := CC
     refine Does.val (.agg #[.slice A n c, .bool s, .slice B m d]) (w' := w) ?_ ⟨Below.refl _ _, rfl, hG⟩
     go_simp
   · intro listed σ w a hin hout hl hla hs hc hp hG hF
     refine Guarded.none rfl ?_
     refine Does.call ?_ (rof_z (-1) w (by decide) (by decide)) ?_
     · go_simp
     · rintro e w' ⟨v, rfl, z, hb⟩
       exact ⟨_, rfl, hb, z, hG.next hb⟩
   · intro listed σ w a hin hout hl hla hs hc hp hG hF
     refine Guarded.none rfl ?_
     have e9 : a.tmps.getD 9 undef = .agg #[.slice A n c, .bool s, .slice B m d] := (hin 1 9 rfl (hp ⟨1, .data⟩ (by simp) rfl)).trans (hF 1 (hp ⟨1, .data⟩ (by simp) rfl))
     have e10 := hin 2 10 rfl (hp ⟨2, .data⟩ (by simp) rfl)
     have z2 := hF 2 (hp ⟨2, .data⟩ (by simp) rfl)
     refine Does.call ?_ (rtscale_any _ _ L K (-1) k 2 w (HV.out.below hG) z2.in_ (by omega) (by omega) (by decide)) ?_
     · go_simp
     · rintro e w' ⟨v, rfl, z, hb⟩
       exact ⟨_, rfl, hb, (z.ofEq (rneg_map L) (by omega)), hG.next hb⟩
   · intro listed σ w a hin hout hl hla hs hc hp hG hF
     refine Guarded.none rfl ?_
     refine Does.val (.pointer (some ⟨w.heap.size, 0, none⟩)) (w' := w.alloc (.cells #[.slice none 0 0, .bool false, .slice none 0 0] 28)) ?_ ⟨bl_alloc w _, ⟨w.heap.size, rfl, hG.size, Box.new _ _ _⟩, hG.next (bl_alloc w _)⟩
     go_simp
 · intro o ho
   injection ho with ho; subst ho
   intro listed σ w a hall hin hout hG hF
   refine Guarded.none rfl ?_
   have e4 := hin 4 4 rfl (by decide)
   obtain ⟨g4, ev4, hg4, x4⟩ := hF 4 (by decide)
   rw [ev4] at e4
   have e11 := hin 3 11 rfl (by decide)
   have z3 := hF 3 (by decide)
   obtain ⟨A6, n6, c6, s6, B6, m6, d6, ev8⟩ := TRes.form z3
   rw [ev8] at e11 z3
   refine Does.store_box (T := 28) (cells := #[.slice A6 n6 c6, .bool s6, .slice B6 m6 d6]) rfl e4 e11 x4 (by kernel_rfl) rfl (by simp [Value.oneCell']) (fun w2 x9 o9 => ?_)
   rw [show fin _ σ undef _ = (Act.put (Act.put (Act.put (Act.put (Act.put (Act.put _ (some 8) (σ 0)) (some 9) (σ 1)) (some 10) (σ 2)) (some 11) (σ 3)) (some 4) (σ 4)) none undef) from (fin_all hall).trans rfl]
   simp only [Act.put, List.setIfInBounds_toArray, List.set_cons_zero, List.set_cons_succ]
   rw [ev4]
   have b9 : Below W0.heap.size W0 w2 := hG.trans (o9.below hG.size hg4)
   have HNEG := hide (z3.only x4 o9)
   have X9 := hide x9
   have HT9 := hide (HT.out.next b9)
   have XR9 := hide (XR.out.next b9)
   have X19 := hide (X1.out.next b9)
   have HV9 := hide (HV.out.below b9)
   have HONE9 := hide (HONE.out.below b9)
   generalize σ 0 = tt0 at *; generalize σ 1 = tt1 at *; generalize σ 2 = tt2 at *; generalize σ 3 = tt3 at *
   clear hF hG hall hin hout SOF z3 o9 e4 e11 ev8 ev4 hg4 x4 b9 x9
   have hsb := rtsub_any _ _ (negL L) [] (-K) 1 (k + L.length + 2) w2 (HNEG.out.in_.mono (by omega)) (HONE9.out.in_.mono (by omega)) (by have := HNG.out; omega) (by simp) (by omega)
   have y0 := X9.out.c0
   have y1 := X9.out.c1
   have y2 := X9.out.c2
   have u0 := X19.out.c0
   have u1 := X19.out.c1
   have u2 := X19.out.c2
   go_wp2_with fail
   refine hsb.mono ?_
   rintro e w3 ⟨v3, rfl, r3, b3⟩
   obtain ⟨A8, n8, c8, s8, B8, m8, d8, rfl⟩ := r3.form
   have y3 := bl_alloc w3 (.cells #[.slice A8 n8 c8, .bool s8, .slice B8 m8 d8, .bool false] 30)
   have hB := b3.next y3
   have HLOW := hide (((TRes.ofEq r3 (by rw [List.map_nil, List.append_nil]; exact norm_norm _) rfl : TRes w3 _ (negL L) (-K - 1) _).mono (show _ ≤ k + L.length + 6 + L.length by have := HNG.out; simp; omega)).below y3)
   have X8 := hide (Box.new 30 w3 #[.slice A8 n8 c8, .bool s8, .slice B8 m8 d8, .bool false])
   have HT10 := hide (HT9.out.next hB)
   have XR10 := hide (XR9.out.next hB)
   have X110 := hide (X19.out.next hB)
   have HV := hide (HV9.out.below hB)
   have HONE := hide (HONE9.out.below hB)
   have q3 := XR10.out.r3
   clear hsb r3 b3 y3 hB y0 y1 y2 u0 u1 u2
   cases e with
   | false =>
     have y0 := X8.out.r0
     have y1 := X8.out.r1
     have y2 := X8.out.r2
     have y3 := X8.out.r3
     go_wp2_with fail
     go_ret
     exact relsPost_one (by have h := Box.new 30 (w3.alloc (.cells #[.slice A8 n8 c8, .bool s8, .slice B8 m8 d8, .bool false] 30)) #[.slice A8 n8 c8, .bool s8, .slice B8 m8 d8, .bool false]; rwa [size_alloc] at h) (HLOW.out.below (bl_alloc _ _)) (HT10.out.next (bl_alloc _ _))
   | true =>
     go_upto_region 6 with fail
     generalize hW : (w3.alloc (.cells #[.slice A8 n8 c8, .bool s8, .slice B8 m8 d8, .bool false] 30)) = W0 at *
     clear hW
     have SOF := hide (show ∀ W, Below W0.heap.size W0 W → (W.cell? ⟨w0.heap.size, 0, none⟩ = some (.slice A n c) ∧ W.cell? ⟨w0.heap.size, 1, none⟩ = some (.bool s) ∧ W.cell? ⟨w0.heap.size, 2, none⟩ = some (.slice B m d) ∧ W.cell? ⟨w1.heap.size, 0, none⟩ = some (.slice A1 n1 c1) ∧ W.cell? ⟨w1.heap.size, 1, none⟩ = some (.bool s1) ∧ W.cell? ⟨w1.heap.size, 2, none⟩ = some (.slice B1 m1 d1) ∧ W.cell? ⟨w3.heap.size, 0, none⟩ = some (.slice A8 n8 c8) ∧ W.cell? ⟨w3.heap.size, 1, none⟩ = some (.bool s8) ∧ W.cell? ⟨w3.heap.size, 2, none⟩ = some (.slice B8 m8 d8) ∧ W.cell? ⟨w3.heap.size, 3, none⟩ = some (.bool false)) from fun W h => ⟨(XR10.out.next h).r0, (XR10.out.next h).r1, (XR10.out.next h).r2, (X110.out.next h).c0, (X110.out.next h).c1, (X110.out.next h).c2, (X8.out.next h).r0, (X8.out.next h).r1, (X8.out.next h).r2, (X8.out.next h).r3⟩)
     clear q3
     refine wp_drawn (by kernel_rfl) (by kernel_rfl) (by kernel_rfl) (fun w w' => Below w.heap.size w w') (fun j v w => match j with | 0 => v = .pointer (some ⟨w0.heap.size, 0, none⟩) | 1 => v = .agg #[.slice A n c, .bool s, .slice B m d] | 2 => TRes w v (norm L) K (k + L.length) | 3 => v = .agg #[.slice A1 n1 c1, .bool s1, .slice B1 m1 d1] | 4 => TRes w v (norm L) (K - 1) (k + L.length + 6 + L.length) | 5 => RRes w v (norm L) (K - 1) false (k + L.length + 6 + L.length) | 6 => v = .agg #[.slice A8 n8 c8, .bool s8, .slice B8 m8 d8, .bool false] | 7 => ∃ g A n c s B m d A2 n2 c2 s2 B2 m2 d2, v = .slice (some ⟨g, 0, none⟩) 2 2 ∧ Box 30 w g #[.slice A n c, .bool s, .slice B m d, .bool false, .slice A2 n2 c2, .bool s2, .slice B2 m2 d2, .bool false] ∧ TRes w (.agg #[.slice A n c, .bool s, .slice B m d]) (norm L) (K - 1) (k + L.length + 6 + L.length) ∧ TRes w (.agg #[.slice A2 n2 c2, .bool s2, .slice B2 m2 d2]) (negL L) (-K - 1) (k + L.length + 6 + L.length) | 8 => ∃ g A n c s B m d A2 n2 c2 s2 B2 m2 d2, v = .slice (some ⟨g, 0, none⟩) 2 2 ∧ Box 30 w g #[.slice A n c, .bool s, .slice B m d, .bool false, .slice A2 n2 c2, .bool s2, .slice B2 m2 d2, .bool false] ∧ TRes w (.agg #[.slice A n c, .bool s, .slice B m d]) (norm L) (K - 1) (k + L.length + 6 + L.length) ∧ TRes w (.agg #[.slice A2 n2 c2, .bool s2, .slice B2 m2 d2]) (negL L) (-K - 1) (k + L.length + 6 + L.length) | _ => True) (fun _ _ w => Below W0.heap.size W0 w) ?_ (fun _ => bl_drewN W0 1) ?_ ?_
     · intro j v w w' hT h
       match j, h with
       | 0, h => exact h
       | 1, h => exact h
       | 2, h => exact h.below hT
       | 3, h => exact h
       | 4, h => exact h.below hT
       | 5, h => exact h.below hT
       | 6, h => exact h
       | 7, h => exact (by obtain ⟨g, A, n, c, s, B, m, d, A2, n2, c2, s2, B2, m2, d2, e, h1, h2, h3⟩ := h; exact ⟨g, A, n, c, s, B, m, d, A2, n2, c2, s2, B2, m2, d2, e, h1.next hT, h2.below hT, h3.below hT⟩)
       | 8, h => exact (by obtain ⟨g, A, n, c, s, B, m, d, A2, n2, c2, s2, B2, m2, d2, e, h1, h2, h3⟩ := h; exact ⟨g, A, n, c, s, B, m, d, A2, n2, c2, s2, B2, m2, d2, e, h1.next hT, h2.below hT, h3.below hT⟩)
       | j + 9, h => trivial
     · refine ⟨?_, ?_, ?_, ?_, ?_, ?_, ?_, ?_, ?_, trivial⟩
       · intro listed σ w a hin hout hl hc hp hG hF
         refine Guarded.none rfl ?_
         have e1 : a.tmps.getD 1 undef = .pointer (some ⟨w0.heap.size, 0, none⟩) := hout 1 (outB_spec (by kernel_rfl))
         refine Does.val (.pointer (some ⟨w0.heap.size, 0, none⟩)) (w' := w) ?_ ⟨Below.refl _ _, rfl, hG⟩
         simp only [Array.getD_eq_getD_getElem?] at e1
         go_simp
       · intro listed σ w a hin hout hl hc hp hG hF
         refine Guarded.none rfl ?_
         have e21 : a.tmps.getD 21 undef = .pointer (some ⟨w0.heap.size, 0, none⟩) := (hin 0 21 rfl (hp ⟨0, .data⟩ (by simp) rfl)).trans (hF 0 (hp ⟨0, .data⟩ (by simp) rfl))
         have CC := SOF.out w hG; obtain ⟨C0, C1, C2, D0, D1, D2, E0, E1, E2, E3⟩ := CC
         refine Does.val (.agg #[.slice A n c, .bool s, .slice B m d]) (w' := w) ?_ ⟨Below.refl _ _, rfl, hG⟩
         go_simp
       · intro listed σ w a hin hout hl hc hp hG hF
         refine Guarded.none rfl ?_
         have e22 : a.tmps.getD 22 undef = .agg #[.slice A n c, .bool s, .slice B m d] := (hin 1 22 rfl (hp ⟨1, .data⟩ (by simp) rfl)).trans (hF 1 (hp ⟨1, .data⟩ (by simp) rfl))
         refine Does.call ?_ (rplain_any _ L K k w (HV.out.below hG) (by omega) (by omega)) ?_
         · go_simp
         · rintro e w' ⟨v, rfl, z, hb⟩
           exact ⟨_, rfl, hb, z, hG.next hb⟩
       · intro listed σ w a hin hout hl hc hp hG hF
         refine Guarded.none rfl ?_
         have e3 : a.tmps.getD 3 undef = .pointer (some ⟨w1.heap.size, 0, none⟩) := hout 3 (outB_spec (by kernel_rfl))
         have CC := SOF.out w hG; obtain ⟨C0, C1, C2, D0, D1, D2, E0, E1, E2, E3⟩ := CC
         refine Does.val (.agg #[.slice A1 n1 c1, .bool s1, .slice B1 m1 d1]) (w' := w) ?_ ⟨Below.refl _ _, rfl, hG⟩
         go_simp
       · intro listed σ w a hin hout hl hc hp hG hF
         refine Guarded.none rfl ?_
         have e23 := hin 2 23 rfl (hp ⟨2, .data⟩ (by simp) rfl)
         have z2 := hF 2 (hp ⟨2, .data⟩ (by simp) rfl)
         have e24 : a.tmps.getD 24 undef = .agg #[.slice A1 n1 c1, .bool s1, .slice B1 m1 d1] := (hin 3 24 rfl (hp ⟨3, .data⟩ (by simp) rfl)).trans (hF 3 (hp ⟨3, .data⟩ (by simp) rfl))
         refine Does.call ?_ (rtsub_any _ _ (norm L) [] K 1 (k + L.length + 2) w (z2.in_.mono (by omega)) ((HONE.out.below hG).in_.mono (by omega)) (by have := HNL.out; omega) (by simp) (by omega)) ?_
         · go_simp
         · rintro e w' ⟨v, rfl, z, hb⟩
           exact ⟨_, rfl, hb, (z.ofEq (by rw [List.map_nil, List.append_nil]; exact norm_norm _) rfl).mono (by have := HNL.out; simp; omega), hG.next hb⟩
       · intro listed σ w a hin hout hl hc hp hG hF
         refine Guarded.none rfl ?_
         have e25 := hin 4 25 rfl (hp ⟨4, .data⟩ (by simp) rfl)
         have z4 := hF 4 (hp ⟨4, .data⟩ (by simp) rfl)
         obtain ⟨A7, n7, c7, s7, B7, m7, d7, ev7⟩ := TRes.form z4
         rw [ev7] at e25 z4
         refine Does.val (.agg #[.slice A7 n7 c7, .bool s7, .slice B7 m7 d7, .bool false]) (w' := w) ?_ ⟨Below.refl _ _, ⟨A7, n7, c7, s7, B7, m7, d7, rfl, z4⟩, hG⟩
         simp only [Array.getD_eq_getD_getElem?] at e25
         go_simp
       · intro listed σ w a hin hout hl hc hp hG hF
         refine Guarded.none rfl ?_
         have e5 : a.tmps.getD 5 undef = .pointer (some ⟨w3.heap.size, 0, none⟩) := hout 5 (outB_spec (by kernel_rfl))
         have CC := SOF.out w hG; obtain ⟨C0, C1, C2, D0, D1, D2, E0, E1, E2, E3⟩ := CC
         refine Does.val (.agg #[.slice A8 n8 c8, .bool s8, .slice B8 m8 d8, .bool false]) (w' := w) ?_ ⟨Below.refl _ _, rfl, hG⟩
         go_simp
       · intro listed σ w a hin hout hl hc hp hG hF
         refine Guarded.none rfl ?_
         have e26 := hin 5 26 rfl (hp ⟨5, .data⟩ (by simp) rfl)
         have z5 := hF 5 (hp ⟨5, .data⟩ (by simp) rfl)
         have e27 : a.tmps.getD 27 undef = .agg #[.slice A8 n8 c8, .bool s8, .slice B8 m8 d8, .bool false] := (hin 6 27 rfl (hp ⟨6, .data⟩ (by simp) rfl)).trans (hF 6 (hp ⟨6, .data⟩ (by simp) rfl))
         obtain ⟨A7, n7, c7, s7, B7, m7, d7, ev7, z7⟩ := z5
         rw [ev7] at e26
         refine Does.val (.slice (some ⟨w.heap.size, 0, none⟩) 2 2) (w' := w.alloc (.cells #[.slice A7 n7 c7, .bool s7, .slice B7 m7 d7, .bool false, .slice A8 n8 c8, .bool s8, .slice B8 m8 d8, .bool false] 30)) ?_ ⟨bl_alloc w _, ⟨w.heap.size, A7, n7, c7, s7, B7, m7, d7, A8, n8, c8, s8, B8, m8, d8, rfl, Box.new _ _ _, z7.below (bl_alloc w _), (HLOW.out.below hG).below (bl_alloc w _)⟩, hG.next (bl_alloc w _)⟩
         simp only [Array.getD_eq_getD_getElem?] at e26 e27
         go_simp
       · intro listed σ w a hin hout hl hc hp hG hF
         refine Guarded.none rfl ?_
         have e28 := hin 7 28 rfl (hp ⟨7, .data⟩ (by simp) rfl)
         have z7 := hF 7 (hp ⟨7, .data⟩ (by simp) rfl)
         obtain ⟨g, A, n, c, s, B, m, d, A2, n2, c2, s2, B2, m2, d2, ev, h1, h2, h3⟩ := z7
         rw [ev] at e28
         refine Does.val (.slice (some ⟨g, 0, none⟩) 2 2) (w' := w) ?_ ⟨Below.refl _ _, ⟨g, A, n, c, s, B, m, d, A2, n2, c2, s2, B2, m2, d2, rfl, h1, h2, h3⟩, hG⟩
         simp only [Array.getD_eq_getD_getElem?] at e28
         go_simp
     · intro listed σ W9 hall hG hF
       have F8 := hF 8 (by decide)
       rw [show mid _ σ listed _ = (Act.put (Act.put (Act.put (Act.put (Act.put (Act.put (Act.put (Act.put (Act.put _ (some 21) (σ 0)) (some 22) (σ 1)) (some 23) (σ 2)) (some 24) (σ 3)) (some 25) (σ 4)) (some 26) (σ 5)) (some 27) (σ 6)) (some 28) (σ 7)) (some 2) (σ 8)) from (mid_all hall).trans rfl]
       generalize σ 0 = tt0
       generalize σ 1 = tt1
       generalize σ 2 = tt2
       generalize σ 3 = tt3
       generalize σ 4 = tt4
       generalize σ 5 = tt5
       generalize σ 6 = tt6
       generalize σ 7 = tt7
       generalize σ 8 = tt8 at F8 ⊢
       simp only [Act.put, List.setIfInBounds_toArray, List.set_cons_zero, List.set_cons_succ]
       have TG := hG
       clear hF hG hall
       clear σ
       obtain ⟨g, A', n', c', s', B', m', d', A2, n2, c2, s2, B2, m2, d2, ev, h1, h2, h3⟩ := F8
       subst ev
       go_wp2_with fail
       go_ret
       exact relsPost_two h1 h2 h3 (HT10.out.next TG)
end Go.Proofs.YtdeakieenppmiaaGreatDoor
