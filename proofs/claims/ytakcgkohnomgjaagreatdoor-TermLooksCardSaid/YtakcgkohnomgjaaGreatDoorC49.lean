/- Texts of one seat, put together: TermLooks. -/
import Derived.Test.YtakcgkohnomgjaaGreatDoorC45
import Derived.Test.YtakcgkohnomgjaaGreatDoorC32
import Derived.Test.YtakcgkohnomgjaaGreatDoorC46
import Derived.Test.YtakcgkohnomgjaaGreatDoorC30
import Derived.Test.YtakcgkohnomgjaaGreatDoorC47
import Derived.Test.YtakcgkohnomgjaaGreatDoorC48
set_option linter.unusedVariables false
set_option linter.unusedSimpArgs false
/- TermLooks: the walk. -/
namespace Go.Proofs.YtakcgkohnomgjaaGreatDoor
open Go.RowKit
open Tm

theorem lsame_normed (v u : Value) (L : List (Int × Int)) (K : Int) (k ku : Nat) (w0 : World) (hv : TRes w0 v (norm L) K k) (hu : TRes w0 u (norm L) K ku) (hl : L.length ≤ 1099511) (hk : k ≤ 1099511627) : Calls Tryz.prog 16 #[v, u] w0 (YesPost w0) :=
  lsame_yes v u (norm L) K k ku w0 hv hu (norm_id (norm_plain L)) (Nat.le_trans (norm_length L) hl) hk
theorem quot_norm (L : List (Int × Int)) : norm (quot (content L) (norm L)) = quot (content L) (norm L) := by
  by_cases h : content L = 0
  · rw [content_zero.1 h]; rfl
  · exact quot_plain L h
theorem sign_bne (Z : Int) : decide (Z ≠ 0) = (Z.sign != 0) := by
  by_cases h : Z = 0
  · subst h; rfl
  · have h1 : Z.sign ≠ 0 := fun e => h (Int.sign_eq_zero_iff_zero.1 e)
    simp [h, bne]
set_option maxRecDepth 100000 in
set_option maxHeartbeats 8000000 in
theorem termLooks_walk (v : Value) (L : List (Int × Int)) (K x : Int) (w0 : World) (hv : TIn w0 v L K big) (hrg : ∀ p ∈ L, -9223372036854775808 ≤ p.1 ∧ p.1 ≤ 9223372036854775807) (hx1 : -9223372036854775808 ≤ x) (hx2 : x ≤ 9223372036854775807) : Calls Tryz.prog 3 #[v, .int .i64 x] w0 (YesPost w0) := by
  have hv0 := hv
  obtain ⟨A, n, c, s, B, m, d, rfl, hp, hc1, hc2, hK⟩ := hv
  have HLn := hide hp.len
  have HRG := hide hrg
  obtain ⟨z0, z1, -⟩ := bstart1 28 w0 #[.slice A n c, .bool s, .slice B m d]
  have H1 := hide hv0
  clear hv0 hp hK hrg
  go_enter Tryz.func3, Tryz.ntmps3
  go_wp2_with fail
  refine (looking_yes _).mono ?_
  rintro e w1 ⟨rfl, b1⟩
  go_wp2_with fail
  refine (summing_yes _).mono ?_
  rintro e w2 ⟨rfl, b2⟩
  have q0 := (z0.next b1).next b2
  have HT2 := hide ((z1.next b1).next b2)
  have x0 := q0.c0
  have x1 := q0.c1
  have x2 := q0.c2
  have bA := bl_alloc w2 (.cells #[.slice A n c, .bool s, .slice B m d] 28)
  have hbx : Box 28 (w2.alloc (.cells #[.slice A n c, .bool s, .slice B m d] 28)) w2.heap.size (flatT [⟨A, n, c, s, B, m, d, L, K⟩]).toArray := Box.new _ _ _
  have hfw := few_any (some ⟨w2.heap.size, 0, none⟩) 1 1 _ _ (TermsIn.box (k := big) hbx (fun t ht => by
    simp only [List.mem_cons, List.not_mem_nil, or_false] at ht
    subst ht
    exact (H1.out.below HT2.out).below bA)) (by decide)
  have Q0 := hide (q0.next bA)
  have HT3 := hide (HT2.out.next bA)
  clear z0 z1 b1 b2 q0 hbx bA
  go_wp2_with fail
  refine hfw.mono ?_
  rintro e w3 ⟨r, rfl, hr, b3⟩
  have HR := hide hr
  have HT4 := hide (HT3.out.next b3)
  have p0 := Q0.out.next b3
  have HB3 := hide b3
  clear x0 x1 x2 hfw hr b3
  cases r with
  | false =>
    go_wp2_with fail
    go_ret
    exact ⟨rfl, HT4.out⟩
  | true =>
    have F1 := hide (HR.out rfl ⟨A, n, c, s, B, m, d, L, K⟩ (by simp))
    have HA := hide (show TIn w3 (.agg #[.slice A n c, .bool s, .slice B m d]) L K 20 from F1.out.2.below HB3.out)
    have HL := hide (show L.length ≤ 30 by rw [HLn.out]; exact F1.out.1)
    have hl := HL.out
    have hsh := tshrink_any _ L K 20 w3 HA.out (by omega) (by decide)
    have x0 := p0.c0
    have x1 := p0.c1
    have x2 := p0.c2
    have l0 := p0.lt
    have P0 := hide p0
    clear p0
    go_wp2_with fail
    refine hsh.mono ?_
    rintro e w4 ⟨v4, u4, rfl, r4, z4, b4⟩
    obtain ⟨As, ns, cs, ss, Bs, ms, ds, rfl⟩ := r4.form
    obtain ⟨sg, Bg, mg, dg, rfl⟩ := z4.form
    obtain ⟨g0, g1, a4, a5⟩ := bstart2 28 26 w4 #[.slice As ns cs, .bool ss, .slice Bs ms ds] #[.bool sg, .slice Bg mg dg]
    have l4 := b4.size
    have HS := hide (r4.below a4)
    have HG := hide (z4.below a4)
    have HA := hide ((HA.out.below b4).below a4)
    have HT5 := hide ((HT4.out.next b4).next a4)
    have p1 := (P0.out.next b4).next a4
    have hrs := rshrink_any _ L K 20 _ HA.out (by omega) (by decide)
    have y0 := p1.c0
    have y1 := p1.c1
    have y2 := p1.c2
    have P1 := hide p1
    have G0 := hide g0
    have G1 := hide (show Blk _ _ _ from g1)
    clear hsh x0 x1 x2 b4 r4 z4 p1 g0 g1 a4 a5
    go_wp2_with fail
    refine hrs.mono ?_
    rintro e w5 ⟨v5, u5, rfl, r5, z5, b5⟩
    obtain ⟨At, nt, ct, st, Bt, mt, dt, rfl⟩ := r5.form
    obtain ⟨sh, Bh, mh, dh, rfl⟩ := z5.form
    obtain ⟨g2, g3, a6, a7⟩ := bstart2 28 26 w5 #[.slice At nt ct, .bool st, .slice Bt mt dt] #[.bool sh, .slice Bh mh dh]
    have HS := hide ((HS.out.below b5).below a6)
    have HG := hide ((HG.out.below b5).below a6)
    have HT2 := hide (r5.below a6)
    have HH := hide (z5.below a6)
    have HA := hide ((HA.out.below b5).below a6)
    have HT6 := hide ((HT5.out.next b5).next a6)
    have p2 := (P1.out.next b5).next a6
    have k0 := (G0.out.next b5).next a6
    have k1 := (Blk.next G1.out b5).next a6
    clear hrs y0 y1 y2 b5 r5 z5 a6 a7
    go_wp2_with fail
    generalize hW6 : (w5.alloc (.cells #[.slice At nt ct, .bool st, .slice Bt mt dt] 28)).alloc (.cells #[.bool sh, .slice Bh mh dh] 26) = W6 at *
    clear hW6
    have HQP := hide (quot_norm L)
    have HQL := hide (show (quot (content L) (norm L)).length ≤ 1099511 by unfold quot; rw [List.length_map]; exact Nat.le_trans (norm_length L) (by omega))
    have HHS := hide (fun W (h : Below W6.heap.size W6 W) => (show Calls Tryz.prog 22 #[.agg #[.slice A n c, .bool s, .slice B m d], .int .i64 x] W (BoolIs ((coef L x).sign != 0) W) from by rw [← sign_bne]; exact thas_any _ L K x 20 W (HA.out.below h) (by omega) (by decide)))
    have HSG := hide (fun W v (z : ZRes W v (coef L x) (20 + L.length)) => rsign_z v (coef L x) (20 + L.length) W z.in_ (by omega))
    unfold BoolIs at HHS
    unfold RSignPost at HSG
    generalize (coef L x).sign = sg0 at *
    have SOF := hide (show ∀ W, Below W6.heap.size W6 W → (W.cell? ⟨w0.heap.size, 0, none⟩ = some (.slice A n c) ∧ W.cell? ⟨w0.heap.size, 1, none⟩ = some (.bool s) ∧ W.cell? ⟨w0.heap.size, 2, none⟩ = some (.slice B m d) ∧ W.cell? ⟨w4.heap.size, 0, none⟩ = some (.slice As ns cs) ∧ W.cell? ⟨w4.heap.size, 1, none⟩ = some (.bool ss) ∧ W.cell? ⟨w4.heap.size, 2, none⟩ = some (.slice Bs ms ds) ∧ W.cell? ⟨w4.heap.size + 1, 0, none⟩ = some (.bool sg) ∧ W.cell? ⟨w4.heap.size + 1, 1, none⟩ = some (.slice Bg mg dg) ∧ W.cell? ⟨w5.heap.size, 0, none⟩ = some (.slice At nt ct) ∧ W.cell? ⟨w5.heap.size, 1, none⟩ = some (.bool st) ∧ W.cell? ⟨w5.heap.size, 2, none⟩ = some (.slice Bt mt dt) ∧ W.cell? ⟨w5.heap.size + 1, 0, none⟩ = some (.bool sh) ∧ W.cell? ⟨w5.heap.size + 1, 1, none⟩ = some (.slice Bh mh dh)) from fun W h => ⟨(p2.next h).c0, (p2.next h).c1, (p2.next h).c2, (k0.next h).c0, (k0.next h).c1, (k0.next h).c2, (Blk.next k1 h).c0, (Blk.next k1 h).c1, (g2.next h).c0, (g2.next h).c1, (g2.next h).c2, (Blk.next (show Blk _ _ _ from g3) h).c0, (Blk.next (show Blk _ _ _ from g3) h).c1⟩)
    clear p2 k0 k1 g2 g3 l0 l4 hc1 hc2
    refine wp_drawn (by kernel_rfl) (by kernel_rfl) (by kernel_rfl) (fun w w' => Below w.heap.size w w') (fun j v w => match j with | 0 => v = .agg #[.slice A n c, .bool s, .slice B m d] | 1 => v = .int .i64 x | 2 => ZRes w v (coef L x) (20 + L.length) | 3 => v = .agg #[.slice A n c, .bool s, .slice B m d] | 4 => v = .int .i64 x | 5 => ZRes w v (coef L x) (20 + L.length) | 6 => v = .bool true | 7 => v = .bool true | 8 => v = .agg #[.slice A n c, .bool s, .slice B m d] | 9 => v = .int .i64 x | 10 => TRes w v (norm (without L x)) K (20 + 1010000) | 11 => v = .agg #[.slice A n c, .bool s, .slice B m d] | 12 => v = .int .i64 x | 13 => TRes w v (norm (without L x)) K (20 + L.length) | 14 => v = .bool true | 15 => v = .bool true | 16 => v = .bool true | 17 => v = .agg #[.slice A n c, .bool s, .slice B m d] | 18 => ∃ A c, v = .slice A (vars L).length c ∧ IIn w A (vars L).length (vars L) | 19 => v = .agg #[.slice A n c, .bool s, .slice B m d] | 20 => ∃ A c, v = .slice A (vars L).length c ∧ IIn w A (vars L).length (vars L) | 21 => v = .bool true | 22 => v = .bool true | 23 => v = .bool true | 24 => v = .agg #[.slice A n c, .bool s, .slice B m d] | 25 => v = .int .i64 x | 26 => v = .bool (sg0 != 0) | 27 => v = .agg #[.slice A n c, .bool s, .slice B m d] | 28 => v = .int .i64 x | 29 => ZRes w v (coef L x) (20 + L.length) | 30 => v = .int .i64 sg0 | 31 => v = .bool (sg0 != 0) | 32 => v = .bool true | 33 => v = .bool true | 34 => v = .bool true | 35 => v = .agg #[.slice A n c, .bool s, .slice B m d] | 36 => ZRes w v (content L) (20 + L.length) | 37 => v = .agg #[.slice A n c, .bool s, .slice B m d] | 38 => ZRes w v (content L) (20 + L.length) | 39 => v = .bool true | 40 => v = .bool true | 41 => v = .bool true | 42 => v = .agg #[.slice As ns cs, .bool ss, .slice Bs ms ds] | 43 => v = .agg #[.slice At nt ct, .bool st, .slice Bt mt dt] | 44 => v = .bool true | 45 => v = .bool true | 46 => v = .bool true | 47 => v = .agg #[.bool sg, .slice Bg mg dg] | 48 => v = .agg #[.bool sh, .slice Bh mh dh] | 49 => v = .bool true | 50 => v = .bool true | 51 => v = .bool true | 52 => v = .int .i64 x | 53 => TRes w v (norm [(x, 1)]) 0 3 | 54 => v = .int .i64 x | 55 => TRes w v (norm [(x, 1)]) 0 3 | 56 => v = .bool true | 57 => v = .bool true | 58 => v = .bool true | _ => True) (fun _ _ w => Below W6.heap.size W6 w) ?_ (fun _ => bl_drewN W6 1) ?_ ?_
    · intro j v w w' hT h
      match j, h with
      | 0, h => exact h
      | 1, h => exact h
      | 2, h => exact h.below hT
      | 3, h => exact h
      | 4, h => exact h
      | 5, h => exact h.below hT
      | 6, h => exact h
      | 7, h => exact h
      | 8, h => exact h
      | 9, h => exact h
      | 10, h => exact h.below hT
      | 11, h => exact h
      | 12, h => exact h
      | 13, h => exact h.below hT
      | 14, h => exact h
      | 15, h => exact h
      | 16, h => exact h
      | 17, h => exact h
      | 18, h => exact (by obtain ⟨A, c, e, h1⟩ := h; exact ⟨A, c, e, h1.below hT⟩)
      | 19, h => exact h
      | 20, h => exact (by obtain ⟨A, c, e, h1⟩ := h; exact ⟨A, c, e, h1.below hT⟩)
      | 21, h => exact h
      | 22, h => exact h
      | 23, h => exact h
      | 24, h => exact h
      | 25, h => exact h
      | 26, h => exact h
      | 27, h => exact h
      | 28, h => exact h
      | 29, h => exact h.below hT
      | 30, h => exact h
      | 31, h => exact h
      | 32, h => exact h
      | 33, h => exact h
      | 34, h => exact h
      | 35, h => exact h
      | 36, h => exact h.below hT
      | 37, h => exact h
      | 38, h => exact h.below hT
      | 39, h => exact h
      | 40, h => exact h
      | 41, h => exact h
      | 42, h => exact h
      | 43, h => exact h
      | 44, h => exact h
      | 45, h => exact h
      | 46, h => exact h
      | 47, h => exact h
      | 48, h => exact h
      | 49, h => exact h
      | 50, h => exact h
      | 51, h => exact h
      | 52, h => exact h
      | 53, h => exact h.below hT
      | 54, h => exact h
      | 55, h => exact h.below hT
      | 56, h => exact h
      | 57, h => exact h
      | 58, h => exact h
      | j + 59, h => trivial
    · refine ⟨?_, ?_, ?_, ?_, ?_, ?_, ?_, ?_, ?_, ?_, ?_, ?_, ?_, ?_, ?_, ?_, ?_, ?_, ?_, ?_, ?_, ?_, ?_, ?_, ?_, ?_, ?_, ?_, ?_, ?_, ?_, ?_, ?_, ?_, ?_, ?_, ?_, ?_, ?_, ?_, ?_, ?_, ?_, ?_, ?_, ?_, ?_, ?_, ?_, ?_, ?_, ?_, ?_, ?_, ?_, ?_, ?_, ?_, ?_, trivial⟩
      · intro listed σ w a hin hout hl hc hp hG hF
        refine Guarded.none rfl ?_
        have e2 : a.tmps.getD 2 undef = .pointer (some ⟨w0.heap.size, 0, none⟩) := hout 2 (outB_spec (by kernel_rfl))
        have CC := SOF.out w hG; obtain ⟨C0, C1, C2, D0, D1, D2, E0, E1, F0, F1, F2, I0, I1⟩ := CC
        refine Does.val (.agg #[.slice A n c, .bool s, .slice B m d]) (w' := w) ?_ ⟨Below.refl _ _, rfl, hG⟩
        go_simp
      · intro listed σ w a hin hout hl hc hp hG hF
        refine Guarded.none rfl ?_
        have e1 : a.tmps.getD 1 undef = .int .i64 x := hout 1 (outB_spec (by kernel_rfl))
        refine Does.val (.int .i64 x) (w' := w) ?_ ⟨Below.refl _ _, rfl, hG⟩
        simp only [Array.getD_eq_getD_getElem?] at e1
        go_simp
      · intro listed σ w a hin hout hl hc hp hG hF
        refine Guarded.none rfl ?_
        have e29 : a.tmps.getD 29 undef = .agg #[.slice A n c, .bool s, .slice B m d] := (hin 0 29 rfl (hp ⟨0, .data⟩ (by simp) rfl)).trans (hF 0 (hp ⟨0, .data⟩ (by simp) rfl))
        have e30 : a.tmps.getD 30 undef = .int .i64 x := (hin 1 30 rfl (hp ⟨1, .data⟩ (by simp) rfl)).trans (hF 1 (hp ⟨1, .data⟩ (by simp) rfl))
        refine Does.call ?_ (tcoef_any _ L K x 20 w (HA.out.below hG) (by have := HL.out; omega) (by decide)) ?_
        · go_simp
        · rintro e w' ⟨v, rfl, z, hb⟩
          exact ⟨_, rfl, hb, z, hG.next hb⟩
      · intro listed σ w a hin hout hl hc hp hG hF
        refine Guarded.none rfl ?_
        have e2 : a.tmps.getD 2 undef = .pointer (some ⟨w0.heap.size, 0, none⟩) := hout 2 (outB_spec (by kernel_rfl))
        have CC := SOF.out w hG; obtain ⟨C0, C1, C2, D0, D1, D2, E0, E1, F0, F1, F2, I0, I1⟩ := CC
        refine Does.val (.agg #[.slice A n c, .bool s, .slice B m d]) (w' := w) ?_ ⟨Below.refl _ _, rfl, hG⟩
        go_simp
      · intro listed σ w a hin hout hl hc hp hG hF
        refine Guarded.none rfl ?_
        have e1 : a.tmps.getD 1 undef = .int .i64 x := hout 1 (outB_spec (by kernel_rfl))
        refine Does.val (.int .i64 x) (w' := w) ?_ ⟨Below.refl _ _, rfl, hG⟩
        simp only [Array.getD_eq_getD_getElem?] at e1
        go_simp
      · intro listed σ w a hin hout hl hc hp hG hF
        refine Guarded.none rfl ?_
        have e32 : a.tmps.getD 32 undef = .agg #[.slice A n c, .bool s, .slice B m d] := (hin 3 32 rfl (hp ⟨3, .data⟩ (by simp) rfl)).trans (hF 3 (hp ⟨3, .data⟩ (by simp) rfl))
        have e33 : a.tmps.getD 33 undef = .int .i64 x := (hin 4 33 rfl (hp ⟨4, .data⟩ (by simp) rfl)).trans (hF 4 (hp ⟨4, .data⟩ (by simp) rfl))
        refine Does.call ?_ (rcoef_any _ L K x 20 w (HA.out.below hG) (by have := HL.out; omega) (by decide)) ?_
        · go_simp
        · rintro e w' ⟨v, rfl, z, hb⟩
          exact ⟨_, rfl, hb, z, hG.next hb⟩
      · intro listed σ w a hin hout hl hc hp hG hF
        refine Guarded.none rfl ?_
        have e31 := hin 2 31 rfl (hp ⟨2, .data⟩ (by simp) rfl)
        have z2 := hF 2 (hp ⟨2, .data⟩ (by simp) rfl)
        have e34 := hin 5 34 rfl (hp ⟨5, .data⟩ (by simp) rfl)
        have z5 := hF 5 (hp ⟨5, .data⟩ (by simp) rfl)
        refine Does.call ?_ (zsame_yes _ _ (coef L x) (20 + L.length) (20 + L.length) w z2 z5) ?_
        · go_simp
        · rintro e w' ⟨rfl, hb⟩
          exact ⟨_, rfl, hb, rfl, hG.next hb⟩
      · intro listed σ w a hin hout hl hc hp hG hF
        refine Guarded.none rfl ?_
        have e35 : a.tmps.getD 35 undef = .bool true := (hin 6 35 rfl (hp ⟨6, .data⟩ (by simp) rfl)).trans (hF 6 (hp ⟨6, .data⟩ (by simp) rfl))
        refine Does.val (.bool true) (w' := w) ?_ ⟨Below.refl _ _, rfl, hG⟩
        simp only [Array.getD_eq_getD_getElem?] at e35
        go_simp
      · intro listed σ w a hin hout hl hc hp hG hF
        refine Guarded.some (d := 36) (b := true) rfl rfl ((hin 7 36 rfl (hp ⟨7, .guard⟩ (by simp) rfl)).trans (hF 7 (hp ⟨7, .guard⟩ (by simp) rfl))) ?_
        refine Or.inl ⟨rfl, ?_⟩
        have e2 : a.tmps.getD 2 undef = .pointer (some ⟨w0.heap.size, 0, none⟩) := hout 2 (outB_spec (by kernel_rfl))
        have CC := SOF.out w hG; obtain ⟨C0, C1, C2, D0, D1, D2, E0, E1, F0, F1, F2, I0, I1⟩ := CC
        refine Does.val (.agg #[.slice A n c, .bool s, .slice B m d]) (w' := w) ?_ ⟨Below.refl _ _, rfl, hG⟩
        go_simp
      · intro listed σ w a hin hout hl hc hp hG hF
        refine Guarded.some (d := 36) (b := true) rfl rfl ((hin 7 36 rfl (hp ⟨7, .guard⟩ (by simp) rfl)).trans (hF 7 (hp ⟨7, .guard⟩ (by simp) rfl))) ?_
        refine Or.inl ⟨rfl, ?_⟩
        have e1 : a.tmps.getD 1 undef = .int .i64 x := hout 1 (outB_spec (by kernel_rfl))
        refine Does.val (.int .i64 x) (w' := w) ?_ ⟨Below.refl _ _, rfl, hG⟩
        simp only [Array.getD_eq_getD_getElem?] at e1
        go_simp
      · intro listed σ w a hin hout hl hc hp hG hF
        refine Guarded.some (d := 36) (b := true) rfl rfl ((hin 7 36 rfl (hp ⟨7, .guard⟩ (by simp) rfl)).trans (hF 7 (hp ⟨7, .guard⟩ (by simp) rfl))) ?_
        refine Or.inl ⟨rfl, ?_⟩
        have e37 : a.tmps.getD 37 undef = .agg #[.slice A n c, .bool s, .slice B m d] := (hin 8 37 rfl (hp ⟨8, .data⟩ (by simp) rfl)).trans (hF 8 (hp ⟨8, .data⟩ (by simp) rfl))
        have e38 : a.tmps.getD 38 undef = .int .i64 x := (hin 9 38 rfl (hp ⟨9, .data⟩ (by simp) rfl)).trans (hF 9 (hp ⟨9, .data⟩ (by simp) rfl))
        refine Does.call ?_ (twithout_any _ L K x 20 w (HA.out.below hG) hx1 hx2 (by have := HL.out; omega) (fun p hp => (HRG.out p hp).2) (by decide)) ?_
        · go_simp
        · rintro e w' ⟨v, rfl, z, hb⟩
          exact ⟨_, rfl, hb, z, hG.next hb⟩
      · intro listed σ w a hin hout hl hc hp hG hF
        refine Guarded.some (d := 36) (b := true) rfl rfl ((hin 7 36 rfl (hp ⟨7, .guard⟩ (by simp) rfl)).trans (hF 7 (hp ⟨7, .guard⟩ (by simp) rfl))) ?_
        refine Or.inl ⟨rfl, ?_⟩
        have e2 : a.tmps.getD 2 undef = .pointer (some ⟨w0.heap.size, 0, none⟩) := hout 2 (outB_spec (by kernel_rfl))
        have CC := SOF.out w hG; obtain ⟨C0, C1, C2, D0, D1, D2, E0, E1, F0, F1, F2, I0, I1⟩ := CC
        refine Does.val (.agg #[.slice A n c, .bool s, .slice B m d]) (w' := w) ?_ ⟨Below.refl _ _, rfl, hG⟩
        go_simp
      · intro listed σ w a hin hout hl hc hp hG hF
        refine Guarded.some (d := 36) (b := true) rfl rfl ((hin 7 36 rfl (hp ⟨7, .guard⟩ (by simp) rfl)).trans (hF 7 (hp ⟨7, .guard⟩ (by simp) rfl))) ?_
        refine Or.inl ⟨rfl, ?_⟩
        have e1 : a.tmps.getD 1 undef = .int .i64 x := hout 1 (outB_spec (by kernel_rfl))
        refine Does.val (.int .i64 x) (w' := w) ?_ ⟨Below.refl _ _, rfl, hG⟩
        simp only [Array.getD_eq_getD_getElem?] at e1
        go_simp
      · intro listed σ w a hin hout hl hc hp hG hF
        refine Guarded.some (d := 36) (b := true) rfl rfl ((hin 7 36 rfl (hp ⟨7, .guard⟩ (by simp) rfl)).trans (hF 7 (hp ⟨7, .guard⟩ (by simp) rfl))) ?_
        refine Or.inl ⟨rfl, ?_⟩
        have e40 : a.tmps.getD 40 undef = .agg #[.slice A n c, .bool s, .slice B m d] := (hin 11 40 rfl (hp ⟨11, .data⟩ (by simp) rfl)).trans (hF 11 (hp ⟨11, .data⟩ (by simp) rfl))
        have e41 : a.tmps.getD 41 undef = .int .i64 x := (hin 12 41 rfl (hp ⟨12, .data⟩ (by simp) rfl)).trans (hF 12 (hp ⟨12, .data⟩ (by simp) rfl))
        refine Does.call ?_ (rwithout_any _ L K x 20 w (HA.out.below hG) (by have := HL.out; omega) (by decide)) ?_
        · go_simp
        · rintro e w' ⟨v, rfl, z, hb⟩
          exact ⟨_, rfl, hb, z, hG.next hb⟩
      · intro listed σ w a hin hout hl hc hp hG hF
        refine Guarded.some (d := 36) (b := true) rfl rfl ((hin 7 36 rfl (hp ⟨7, .guard⟩ (by simp) rfl)).trans (hF 7 (hp ⟨7, .guard⟩ (by simp) rfl))) ?_
        refine Or.inl ⟨rfl, ?_⟩
        have e39 := hin 10 39 rfl (hp ⟨10, .data⟩ (by simp) rfl)
        have z10 := hF 10 (hp ⟨10, .data⟩ (by simp) rfl)
        have e42 := hin 13 42 rfl (hp ⟨13, .data⟩ (by simp) rfl)
        have z13 := hF 13 (hp ⟨13, .data⟩ (by simp) rfl)
        refine Does.call ?_ (lsame_normed _ _ (without L x) K (20 + 1010000) (20 + L.length) w z10 z13 (by have := without_length L x; have := HL.out; omega) (by decide)) ?_
        · go_simp
        · rintro e w' ⟨rfl, hb⟩
          exact ⟨_, rfl, hb, rfl, hG.next hb⟩
      · intro listed σ w a hin hout hl hc hp hG hF
        refine Guarded.none rfl ?_
        have e36 : a.tmps.getD 36 undef = .bool true := (hin 7 36 rfl (hp ⟨7, .data⟩ (by simp) rfl)).trans (hF 7 (hp ⟨7, .data⟩ (by simp) rfl))
        have e43 : a.tmps.getD 43 undef = .bool true := (hin 14 43 rfl (hp ⟨14, .data⟩ (by simp) rfl)).trans (hF 14 (hp ⟨14, .data⟩ (by simp) rfl))
        refine Does.val (.bool true) (w' := w) ?_ ⟨Below.refl _ _, rfl, hG⟩
        simp only [Array.getD_eq_getD_getElem?] at e36 e43
        go_simp
      · intro listed σ w a hin hout hl hc hp hG hF
        refine Guarded.none rfl ?_
        have e44 : a.tmps.getD 44 undef = .bool true := (hin 15 44 rfl (hp ⟨15, .data⟩ (by simp) rfl)).trans (hF 15 (hp ⟨15, .data⟩ (by simp) rfl))
        refine Does.val (.bool true) (w' := w) ?_ ⟨Below.refl _ _, rfl, hG⟩
        simp only [Array.getD_eq_getD_getElem?] at e44
        go_simp
      · intro listed σ w a hin hout hl hc hp hG hF
        refine Guarded.some (d := 45) (b := true) rfl rfl ((hin 16 45 rfl (hp ⟨16, .guard⟩ (by simp) rfl)).trans (hF 16 (hp ⟨16, .guard⟩ (by simp) rfl))) ?_
        refine Or.inl ⟨rfl, ?_⟩
        have e2 : a.tmps.getD 2 undef = .pointer (some ⟨w0.heap.size, 0, none⟩) := hout 2 (outB_spec (by kernel_rfl))
        have CC := SOF.out w hG; obtain ⟨C0, C1, C2, D0, D1, D2, E0, E1, F0, F1, F2, I0, I1⟩ := CC
        refine Does.val (.agg #[.slice A n c, .bool s, .slice B m d]) (w' := w) ?_ ⟨Below.refl _ _, rfl, hG⟩
        go_simp
      · intro listed σ w a hin hout hl hc hp hG hF
        refine Guarded.some (d := 45) (b := true) rfl rfl ((hin 16 45 rfl (hp ⟨16, .guard⟩ (by simp) rfl)).trans (hF 16 (hp ⟨16, .guard⟩ (by simp) rfl))) ?_
        refine Or.inl ⟨rfl, ?_⟩
        have e46 : a.tmps.getD 46 undef = .agg #[.slice A n c, .bool s, .slice B m d] := (hin 17 46 rfl (hp ⟨17, .data⟩ (by simp) rfl)).trans (hF 17 (hp ⟨17, .data⟩ (by simp) rfl))
        refine Does.call ?_ (tvars_any _ L K 20 w (HA.out.below hG) (by have := HL.out; omega) (by decide)) ?_
        · go_simp
        · rintro e w' ⟨A, c, rfl, z, h1, h2, hb⟩
          exact ⟨_, rfl, hb, ⟨A, c, rfl, z⟩, hG.next hb⟩
      · intro listed σ w a hin hout hl hc hp hG hF
        refine Guarded.some (d := 45) (b := true) rfl rfl ((hin 16 45 rfl (hp ⟨16, .guard⟩ (by simp) rfl)).trans (hF 16 (hp ⟨16, .guard⟩ (by simp) rfl))) ?_
        refine Or.inl ⟨rfl, ?_⟩
        have e2 : a.tmps.getD 2 undef = .pointer (some ⟨w0.heap.size, 0, none⟩) := hout 2 (outB_spec (by kernel_rfl))
        have CC := SOF.out w hG; obtain ⟨C0, C1, C2, D0, D1, D2, E0, E1, F0, F1, F2, I0, I1⟩ := CC
        refine Does.val (.agg #[.slice A n c, .bool s, .slice B m d]) (w' := w) ?_ ⟨Below.refl _ _, rfl, hG⟩
        go_simp
      · intro listed σ w a hin hout hl hc hp hG hF
        refine Guarded.some (d := 45) (b := true) rfl rfl ((hin 16 45 rfl (hp ⟨16, .guard⟩ (by simp) rfl)).trans (hF 16 (hp ⟨16, .guard⟩ (by simp) rfl))) ?_
        refine Or.inl ⟨rfl, ?_⟩
        have e48 : a.tmps.getD 48 undef = .agg #[.slice A n c, .bool s, .slice B m d] := (hin 19 48 rfl (hp ⟨19, .data⟩ (by simp) rfl)).trans (hF 19 (hp ⟨19, .data⟩ (by simp) rfl))
        refine Does.call ?_ (rvars_any _ L K 20 w (HA.out.below hG) (by have := HL.out; omega) (by decide)) ?_
        · go_simp
        · rintro e w' ⟨A, c, rfl, z, h1, h2, hb⟩
          exact ⟨_, rfl, hb, ⟨A, c, rfl, z⟩, hG.next hb⟩
      · intro listed σ w a hin hout hl hc hp hG hF
        refine Guarded.some (d := 45) (b := true) rfl rfl ((hin 16 45 rfl (hp ⟨16, .guard⟩ (by simp) rfl)).trans (hF 16 (hp ⟨16, .guard⟩ (by simp) rfl))) ?_
        refine Or.inl ⟨rfl, ?_⟩
        have e47 := hin 18 47 rfl (hp ⟨18, .data⟩ (by simp) rfl)
        obtain ⟨A18, c18, ev18, z18⟩ := hF 18 (hp ⟨18, .data⟩ (by simp) rfl)
        rw [ev18] at e47
        have e49 := hin 20 49 rfl (hp ⟨20, .data⟩ (by simp) rfl)
        obtain ⟨A20, c20, ev20, z20⟩ := hF 20 (hp ⟨20, .data⟩ (by simp) rfl)
        rw [ev20] at e49
        refine Does.call ?_ (sameInts_yes A18 A20 (vars L).length c18 c20 (vars L) w z18 z20 (by have := vars_length L; have := HL.out; omega)) ?_
        · go_simp
        · rintro e w' ⟨rfl, hb⟩
          exact ⟨_, rfl, hb, rfl, hG.next hb⟩
      · intro listed σ w a hin hout hl hc hp hG hF
        refine Guarded.none rfl ?_
        have e45 : a.tmps.getD 45 undef = .bool true := (hin 16 45 rfl (hp ⟨16, .data⟩ (by simp) rfl)).trans (hF 16 (hp ⟨16, .data⟩ (by simp) rfl))
        have e50 : a.tmps.getD 50 undef = .bool true := (hin 21 50 rfl (hp ⟨21, .data⟩ (by simp) rfl)).trans (hF 21 (hp ⟨21, .data⟩ (by simp) rfl))
        refine Does.val (.bool true) (w' := w) ?_ ⟨Below.refl _ _, rfl, hG⟩
        simp only [Array.getD_eq_getD_getElem?] at e45 e50
        go_simp
      · intro listed σ w a hin hout hl hc hp hG hF
        refine Guarded.none rfl ?_
        have e51 : a.tmps.getD 51 undef = .bool true := (hin 22 51 rfl (hp ⟨22, .data⟩ (by simp) rfl)).trans (hF 22 (hp ⟨22, .data⟩ (by simp) rfl))
        refine Does.val (.bool true) (w' := w) ?_ ⟨Below.refl _ _, rfl, hG⟩
        simp only [Array.getD_eq_getD_getElem?] at e51
        go_simp
      · intro listed σ w a hin hout hl hc hp hG hF
        refine Guarded.some (d := 52) (b := true) rfl rfl ((hin 23 52 rfl (hp ⟨23, .guard⟩ (by simp) rfl)).trans (hF 23 (hp ⟨23, .guard⟩ (by simp) rfl))) ?_
        refine Or.inl ⟨rfl, ?_⟩
        have e2 : a.tmps.getD 2 undef = .pointer (some ⟨w0.heap.size, 0, none⟩) := hout 2 (outB_spec (by kernel_rfl))
        have CC := SOF.out w hG; obtain ⟨C0, C1, C2, D0, D1, D2, E0, E1, F0, F1, F2, I0, I1⟩ := CC
        refine Does.val (.agg #[.slice A n c, .bool s, .slice B m d]) (w' := w) ?_ ⟨Below.refl _ _, rfl, hG⟩
        go_simp
      · intro listed σ w a hin hout hl hc hp hG hF
        refine Guarded.some (d := 52) (b := true) rfl rfl ((hin 23 52 rfl (hp ⟨23, .guard⟩ (by simp) rfl)).trans (hF 23 (hp ⟨23, .guard⟩ (by simp) rfl))) ?_
        refine Or.inl ⟨rfl, ?_⟩
        have e1 : a.tmps.getD 1 undef = .int .i64 x := hout 1 (outB_spec (by kernel_rfl))
        refine Does.val (.int .i64 x) (w' := w) ?_ ⟨Below.refl _ _, rfl, hG⟩
        simp only [Array.getD_eq_getD_getElem?] at e1
        go_simp
      · intro listed σ w a hin hout hl hc hp hG hF
        refine Guarded.some (d := 52) (b := true) rfl rfl ((hin 23 52 rfl (hp ⟨23, .guard⟩ (by simp) rfl)).trans (hF 23 (hp ⟨23, .guard⟩ (by simp) rfl))) ?_
        refine Or.inl ⟨rfl, ?_⟩
        have e53 : a.tmps.getD 53 undef = .agg #[.slice A n c, .bool s, .slice B m d] := (hin 24 53 rfl (hp ⟨24, .data⟩ (by simp) rfl)).trans (hF 24 (hp ⟨24, .data⟩ (by simp) rfl))
        have e54 : a.tmps.getD 54 undef = .int .i64 x := (hin 25 54 rfl (hp ⟨25, .data⟩ (by simp) rfl)).trans (hF 25 (hp ⟨25, .data⟩ (by simp) rfl))
        refine Does.call ?_ (HHS.out w hG) ?_
        · go_simp
        · rintro e w' ⟨rfl, hb⟩
          exact ⟨_, rfl, hb, rfl, hG.next hb⟩
      · intro listed σ w a hin hout hl hc hp hG hF
        refine Guarded.some (d := 52) (b := true) rfl rfl ((hin 23 52 rfl (hp ⟨23, .guard⟩ (by simp) rfl)).trans (hF 23 (hp ⟨23, .guard⟩ (by simp) rfl))) ?_
        refine Or.inl ⟨rfl, ?_⟩
        have e2 : a.tmps.getD 2 undef = .pointer (some ⟨w0.heap.size, 0, none⟩) := hout 2 (outB_spec (by kernel_rfl))
        have CC := SOF.out w hG; obtain ⟨C0, C1, C2, D0, D1, D2, E0, E1, F0, F1, F2, I0, I1⟩ := CC
        refine Does.val (.agg #[.slice A n c, .bool s, .slice B m d]) (w' := w) ?_ ⟨Below.refl _ _, rfl, hG⟩
        go_simp
      · intro listed σ w a hin hout hl hc hp hG hF
        refine Guarded.some (d := 52) (b := true) rfl rfl ((hin 23 52 rfl (hp ⟨23, .guard⟩ (by simp) rfl)).trans (hF 23 (hp ⟨23, .guard⟩ (by simp) rfl))) ?_
        refine Or.inl ⟨rfl, ?_⟩
        have e1 : a.tmps.getD 1 undef = .int .i64 x := hout 1 (outB_spec (by kernel_rfl))
        refine Does.val (.int .i64 x) (w' := w) ?_ ⟨Below.refl _ _, rfl, hG⟩
        simp only [Array.getD_eq_getD_getElem?] at e1
        go_simp
      · intro listed σ w a hin hout hl hc hp hG hF
        refine Guarded.some (d := 52) (b := true) rfl rfl ((hin 23 52 rfl (hp ⟨23, .guard⟩ (by simp) rfl)).trans (hF 23 (hp ⟨23, .guard⟩ (by simp) rfl))) ?_
        refine Or.inl ⟨rfl, ?_⟩
        have e56 : a.tmps.getD 56 undef = .agg #[.slice A n c, .bool s, .slice B m d] := (hin 27 56 rfl (hp ⟨27, .data⟩ (by simp) rfl)).trans (hF 27 (hp ⟨27, .data⟩ (by simp) rfl))
        have e57 : a.tmps.getD 57 undef = .int .i64 x := (hin 28 57 rfl (hp ⟨28, .data⟩ (by simp) rfl)).trans (hF 28 (hp ⟨28, .data⟩ (by simp) rfl))
        refine Does.call ?_ (rcoef_any _ L K x 20 w (HA.out.below hG) (by have := HL.out; omega) (by decide)) ?_
        · go_simp
        · rintro e w' ⟨v, rfl, z, hb⟩
          exact ⟨_, rfl, hb, z, hG.next hb⟩
      · intro listed σ w a hin hout hl hc hp hG hF
        refine Guarded.some (d := 52) (b := true) rfl rfl ((hin 23 52 rfl (hp ⟨23, .guard⟩ (by simp) rfl)).trans (hF 23 (hp ⟨23, .guard⟩ (by simp) rfl))) ?_
        refine Or.inl ⟨rfl, ?_⟩
        have e58 := hin 29 58 rfl (hp ⟨29, .data⟩ (by simp) rfl)
        have z29 := hF 29 (hp ⟨29, .data⟩ (by simp) rfl)
        refine Does.call ?_ (HSG.out w _ z29) ?_
        · go_simp
        · rintro e w' ⟨rfl, hb⟩
          exact ⟨_, rfl, hb, rfl, hG.next hb⟩
      · intro listed σ w a hin hout hl hc hp hG hF
        refine Guarded.some (d := 52) (b := true) rfl rfl ((hin 23 52 rfl (hp ⟨23, .guard⟩ (by simp) rfl)).trans (hF 23 (hp ⟨23, .guard⟩ (by simp) rfl))) ?_
        refine Or.inl ⟨rfl, ?_⟩
        have e59 : a.tmps.getD 59 undef = .int .i64 sg0 := (hin 30 59 rfl (hp ⟨30, .data⟩ (by simp) rfl)).trans (hF 30 (hp ⟨30, .data⟩ (by simp) rfl))
        refine Does.val (.bool (sg0 != 0)) (w' := w) ?_ ⟨Below.refl _ _, rfl, hG⟩
        simp only [Array.getD_eq_getD_getElem?] at e59
        go_simp
      · intro listed σ w a hin hout hl hc hp hG hF
        refine Guarded.some (d := 52) (b := true) rfl rfl ((hin 23 52 rfl (hp ⟨23, .guard⟩ (by simp) rfl)).trans (hF 23 (hp ⟨23, .guard⟩ (by simp) rfl))) ?_
        refine Or.inl ⟨rfl, ?_⟩
        have e55 : a.tmps.getD 55 undef = .bool (sg0 != 0) := (hin 26 55 rfl (hp ⟨26, .data⟩ (by simp) rfl)).trans (hF 26 (hp ⟨26, .data⟩ (by simp) rfl))
        have e60 : a.tmps.getD 60 undef = .bool (sg0 != 0) := (hin 31 60 rfl (hp ⟨31, .data⟩ (by simp) rfl)).trans (hF 31 (hp ⟨31, .data⟩ (by simp) rfl))
        refine Does.val (.bool true) (w' := w) ?_ ⟨Below.refl _ _, rfl, hG⟩
        simp only [Array.getD_eq_getD_getElem?] at e55 e60
        go_simp
      · intro listed σ w a hin hout hl hc hp hG hF
        refine Guarded.none rfl ?_
        have e52 : a.tmps.getD 52 undef = .bool true := (hin 23 52 rfl (hp ⟨23, .data⟩ (by simp) rfl)).trans (hF 23 (hp ⟨23, .data⟩ (by simp) rfl))
        have e61 : a.tmps.getD 61 undef = .bool true := (hin 32 61 rfl (hp ⟨32, .data⟩ (by simp) rfl)).trans (hF 32 (hp ⟨32, .data⟩ (by simp) rfl))
        refine Does.val (.bool true) (w' := w) ?_ ⟨Below.refl _ _, rfl, hG⟩
        simp only [Array.getD_eq_getD_getElem?] at e52 e61
        go_simp
      · intro listed σ w a hin hout hl hc hp hG hF
        refine Guarded.none rfl ?_
        have e62 : a.tmps.getD 62 undef = .bool true := (hin 33 62 rfl (hp ⟨33, .data⟩ (by simp) rfl)).trans (hF 33 (hp ⟨33, .data⟩ (by simp) rfl))
        refine Does.val (.bool true) (w' := w) ?_ ⟨Below.refl _ _, rfl, hG⟩
        simp only [Array.getD_eq_getD_getElem?] at e62
        go_simp
      · intro listed σ w a hin hout hl hc hp hG hF
        refine Guarded.some (d := 63) (b := true) rfl rfl ((hin 34 63 rfl (hp ⟨34, .guard⟩ (by simp) rfl)).trans (hF 34 (hp ⟨34, .guard⟩ (by simp) rfl))) ?_
        refine Or.inl ⟨rfl, ?_⟩
        have e2 : a.tmps.getD 2 undef = .pointer (some ⟨w0.heap.size, 0, none⟩) := hout 2 (outB_spec (by kernel_rfl))
        have CC := SOF.out w hG; obtain ⟨C0, C1, C2, D0, D1, D2, E0, E1, F0, F1, F2, I0, I1⟩ := CC
        refine Does.val (.agg #[.slice A n c, .bool s, .slice B m d]) (w' := w) ?_ ⟨Below.refl _ _, rfl, hG⟩
        go_simp
      · intro listed σ w a hin hout hl hc hp hG hF
        refine Guarded.some (d := 63) (b := true) rfl rfl ((hin 34 63 rfl (hp ⟨34, .guard⟩ (by simp) rfl)).trans (hF 34 (hp ⟨34, .guard⟩ (by simp) rfl))) ?_
        refine Or.inl ⟨rfl, ?_⟩
        have e64 : a.tmps.getD 64 undef = .agg #[.slice A n c, .bool s, .slice B m d] := (hin 35 64 rfl (hp ⟨35, .data⟩ (by simp) rfl)).trans (hF 35 (hp ⟨35, .data⟩ (by simp) rfl))
        refine Does.call ?_ (tcontent_any _ L K 20 w (HA.out.below hG) (by have := HL.out; omega) (by decide)) ?_
        · go_simp
        · rintro e w' ⟨v, rfl, z, hb⟩
          exact ⟨_, rfl, hb, z, hG.next hb⟩
      · intro listed σ w a hin hout hl hc hp hG hF
        refine Guarded.some (d := 63) (b := true) rfl rfl ((hin 34 63 rfl (hp ⟨34, .guard⟩ (by simp) rfl)).trans (hF 34 (hp ⟨34, .guard⟩ (by simp) rfl))) ?_
        refine Or.inl ⟨rfl, ?_⟩
        have e2 : a.tmps.getD 2 undef = .pointer (some ⟨w0.heap.size, 0, none⟩) := hout 2 (outB_spec (by kernel_rfl))
        have CC := SOF.out w hG; obtain ⟨C0, C1, C2, D0, D1, D2, E0, E1, F0, F1, F2, I0, I1⟩ := CC
        refine Does.val (.agg #[.slice A n c, .bool s, .slice B m d]) (w' := w) ?_ ⟨Below.refl _ _, rfl, hG⟩
        go_simp
      · intro listed σ w a hin hout hl hc hp hG hF
        refine Guarded.some (d := 63) (b := true) rfl rfl ((hin 34 63 rfl (hp ⟨34, .guard⟩ (by simp) rfl)).trans (hF 34 (hp ⟨34, .guard⟩ (by simp) rfl))) ?_
        refine Or.inl ⟨rfl, ?_⟩
        have e66 : a.tmps.getD 66 undef = .agg #[.slice A n c, .bool s, .slice B m d] := (hin 37 66 rfl (hp ⟨37, .data⟩ (by simp) rfl)).trans (hF 37 (hp ⟨37, .data⟩ (by simp) rfl))
        refine Does.call ?_ (rcontent_any _ L K 20 w (HA.out.below hG) (by have := HL.out; omega) (by decide)) ?_
        · go_simp
        · rintro e w' ⟨v, rfl, z, hb⟩
          exact ⟨_, rfl, hb, z, hG.next hb⟩
      · intro listed σ w a hin hout hl hc hp hG hF
        refine Guarded.some (d := 63) (b := true) rfl rfl ((hin 34 63 rfl (hp ⟨34, .guard⟩ (by simp) rfl)).trans (hF 34 (hp ⟨34, .guard⟩ (by simp) rfl))) ?_
        refine Or.inl ⟨rfl, ?_⟩
        have e65 := hin 36 65 rfl (hp ⟨36, .data⟩ (by simp) rfl)
        have z36 := hF 36 (hp ⟨36, .data⟩ (by simp) rfl)
        have e67 := hin 38 67 rfl (hp ⟨38, .data⟩ (by simp) rfl)
        have z38 := hF 38 (hp ⟨38, .data⟩ (by simp) rfl)
        refine Does.call ?_ (zsame_yes _ _ (content L) (20 + L.length) (20 + L.length) w z36 z38) ?_
        · go_simp
        · rintro e w' ⟨rfl, hb⟩
          exact ⟨_, rfl, hb, rfl, hG.next hb⟩
      · intro listed σ w a hin hout hl hc hp hG hF
        refine Guarded.none rfl ?_
        have e63 : a.tmps.getD 63 undef = .bool true := (hin 34 63 rfl (hp ⟨34, .data⟩ (by simp) rfl)).trans (hF 34 (hp ⟨34, .data⟩ (by simp) rfl))
        have e68 : a.tmps.getD 68 undef = .bool true := (hin 39 68 rfl (hp ⟨39, .data⟩ (by simp) rfl)).trans (hF 39 (hp ⟨39, .data⟩ (by simp) rfl))
        refine Does.val (.bool true) (w' := w) ?_ ⟨Below.refl _ _, rfl, hG⟩
        simp only [Array.getD_eq_getD_getElem?] at e63 e68
        go_simp
      · intro listed σ w a hin hout hl hc hp hG hF
        refine Guarded.none rfl ?_
        have e69 : a.tmps.getD 69 undef = .bool true := (hin 40 69 rfl (hp ⟨40, .data⟩ (by simp) rfl)).trans (hF 40 (hp ⟨40, .data⟩ (by simp) rfl))
        refine Does.val (.bool true) (w' := w) ?_ ⟨Below.refl _ _, rfl, hG⟩
        simp only [Array.getD_eq_getD_getElem?] at e69
        go_simp
      · intro listed σ w a hin hout hl hc hp hG hF
        refine Guarded.some (d := 70) (b := true) rfl rfl ((hin 41 70 rfl (hp ⟨41, .guard⟩ (by simp) rfl)).trans (hF 41 (hp ⟨41, .guard⟩ (by simp) rfl))) ?_
        refine Or.inl ⟨rfl, ?_⟩
        have e5 : a.tmps.getD 5 undef = .pointer (some ⟨w4.heap.size, 0, none⟩) := hout 5 (outB_spec (by kernel_rfl))
        have CC := SOF.out w hG; obtain ⟨C0, C1, C2, D0, D1, D2, E0, E1, F0, F1, F2, I0, I1⟩ := CC
        refine Does.val (.agg #[.slice As ns cs, .bool ss, .slice Bs ms ds]) (w' := w) ?_ ⟨Below.refl _ _, rfl, hG⟩
        go_simp
      · intro listed σ w a hin hout hl hc hp hG hF
        refine Guarded.some (d := 70) (b := true) rfl rfl ((hin 41 70 rfl (hp ⟨41, .guard⟩ (by simp) rfl)).trans (hF 41 (hp ⟨41, .guard⟩ (by simp) rfl))) ?_
        refine Or.inl ⟨rfl, ?_⟩
        have e7 : a.tmps.getD 7 undef = .pointer (some ⟨w5.heap.size, 0, none⟩) := hout 7 (outB_spec (by kernel_rfl))
        have CC := SOF.out w hG; obtain ⟨C0, C1, C2, D0, D1, D2, E0, E1, F0, F1, F2, I0, I1⟩ := CC
        refine Does.val (.agg #[.slice At nt ct, .bool st, .slice Bt mt dt]) (w' := w) ?_ ⟨Below.refl _ _, rfl, hG⟩
        go_simp
      · intro listed σ w a hin hout hl hc hp hG hF
        refine Guarded.some (d := 70) (b := true) rfl rfl ((hin 41 70 rfl (hp ⟨41, .guard⟩ (by simp) rfl)).trans (hF 41 (hp ⟨41, .guard⟩ (by simp) rfl))) ?_
        refine Or.inl ⟨rfl, ?_⟩
        have e71 : a.tmps.getD 71 undef = .agg #[.slice As ns cs, .bool ss, .slice Bs ms ds] := (hin 42 71 rfl (hp ⟨42, .data⟩ (by simp) rfl)).trans (hF 42 (hp ⟨42, .data⟩ (by simp) rfl))
        have e72 : a.tmps.getD 72 undef = .agg #[.slice At nt ct, .bool st, .slice Bt mt dt] := (hin 43 72 rfl (hp ⟨43, .data⟩ (by simp) rfl)).trans (hF 43 (hp ⟨43, .data⟩ (by simp) rfl))
        refine Does.call ?_ (lsame_yes _ _ (quot (content L) (norm L)) (shrK L K) (20 + L.length) (20 + L.length) w (HS.out.below hG) (HT2.out.below hG) HQP.out HQL.out (by have := HL.out; omega)) ?_
        · go_simp
        · rintro e w' ⟨rfl, hb⟩
          exact ⟨_, rfl, hb, rfl, hG.next hb⟩
      · intro listed σ w a hin hout hl hc hp hG hF
        refine Guarded.none rfl ?_
        have e70 : a.tmps.getD 70 undef = .bool true := (hin 41 70 rfl (hp ⟨41, .data⟩ (by simp) rfl)).trans (hF 41 (hp ⟨41, .data⟩ (by simp) rfl))
        have e73 : a.tmps.getD 73 undef = .bool true := (hin 44 73 rfl (hp ⟨44, .data⟩ (by simp) rfl)).trans (hF 44 (hp ⟨44, .data⟩ (by simp) rfl))
        refine Does.val (.bool true) (w' := w) ?_ ⟨Below.refl _ _, rfl, hG⟩
        simp only [Array.getD_eq_getD_getElem?] at e70 e73
        go_simp
      · intro listed σ w a hin hout hl hc hp hG hF
        refine Guarded.none rfl ?_
        have e74 : a.tmps.getD 74 undef = .bool true := (hin 45 74 rfl (hp ⟨45, .data⟩ (by simp) rfl)).trans (hF 45 (hp ⟨45, .data⟩ (by simp) rfl))
        refine Does.val (.bool true) (w' := w) ?_ ⟨Below.refl _ _, rfl, hG⟩
        simp only [Array.getD_eq_getD_getElem?] at e74
        go_simp
      · intro listed σ w a hin hout hl hc hp hG hF
        refine Guarded.some (d := 75) (b := true) rfl rfl ((hin 46 75 rfl (hp ⟨46, .guard⟩ (by simp) rfl)).trans (hF 46 (hp ⟨46, .guard⟩ (by simp) rfl))) ?_
        refine Or.inl ⟨rfl, ?_⟩
        have e6 : a.tmps.getD 6 undef = .pointer (some ⟨w4.heap.size + 1, 0, none⟩) := hout 6 (outB_spec (by kernel_rfl))
        have CC := SOF.out w hG; obtain ⟨C0, C1, C2, D0, D1, D2, E0, E1, F0, F1, F2, I0, I1⟩ := CC
        refine Does.val (.agg #[.bool sg, .slice Bg mg dg]) (w' := w) ?_ ⟨Below.refl _ _, rfl, hG⟩
        go_simp
      · intro listed σ w a hin hout hl hc hp hG hF
        refine Guarded.some (d := 75) (b := true) rfl rfl ((hin 46 75 rfl (hp ⟨46, .guard⟩ (by simp) rfl)).trans (hF 46 (hp ⟨46, .guard⟩ (by simp) rfl))) ?_
        refine Or.inl ⟨rfl, ?_⟩
        have e8 : a.tmps.getD 8 undef = .pointer (some ⟨w5.heap.size + 1, 0, none⟩) := hout 8 (outB_spec (by kernel_rfl))
        have CC := SOF.out w hG; obtain ⟨C0, C1, C2, D0, D1, D2, E0, E1, F0, F1, F2, I0, I1⟩ := CC
        refine Does.val (.agg #[.bool sh, .slice Bh mh dh]) (w' := w) ?_ ⟨Below.refl _ _, rfl, hG⟩
        go_simp
      · intro listed σ w a hin hout hl hc hp hG hF
        refine Guarded.some (d := 75) (b := true) rfl rfl ((hin 46 75 rfl (hp ⟨46, .guard⟩ (by simp) rfl)).trans (hF 46 (hp ⟨46, .guard⟩ (by simp) rfl))) ?_
        refine Or.inl ⟨rfl, ?_⟩
        have e76 : a.tmps.getD 76 undef = .agg #[.bool sg, .slice Bg mg dg] := (hin 47 76 rfl (hp ⟨47, .data⟩ (by simp) rfl)).trans (hF 47 (hp ⟨47, .data⟩ (by simp) rfl))
        have e77 : a.tmps.getD 77 undef = .agg #[.bool sh, .slice Bh mh dh] := (hin 48 77 rfl (hp ⟨48, .data⟩ (by simp) rfl)).trans (hF 48 (hp ⟨48, .data⟩ (by simp) rfl))
        refine Does.call ?_ (zsame_yes _ _ (content L) (20 + L.length) (20 + L.length) w (HG.out.below hG) (HH.out.below hG)) ?_
        · go_simp
        · rintro e w' ⟨rfl, hb⟩
          exact ⟨_, rfl, hb, rfl, hG.next hb⟩
      · intro listed σ w a hin hout hl hc hp hG hF
        refine Guarded.none rfl ?_
        have e75 : a.tmps.getD 75 undef = .bool true := (hin 46 75 rfl (hp ⟨46, .data⟩ (by simp) rfl)).trans (hF 46 (hp ⟨46, .data⟩ (by simp) rfl))
        have e78 : a.tmps.getD 78 undef = .bool true := (hin 49 78 rfl (hp ⟨49, .data⟩ (by simp) rfl)).trans (hF 49 (hp ⟨49, .data⟩ (by simp) rfl))
        refine Does.val (.bool true) (w' := w) ?_ ⟨Below.refl _ _, rfl, hG⟩
        simp only [Array.getD_eq_getD_getElem?] at e75 e78
        go_simp
      · intro listed σ w a hin hout hl hc hp hG hF
        refine Guarded.none rfl ?_
        have e79 : a.tmps.getD 79 undef = .bool true := (hin 50 79 rfl (hp ⟨50, .data⟩ (by simp) rfl)).trans (hF 50 (hp ⟨50, .data⟩ (by simp) rfl))
        refine Does.val (.bool true) (w' := w) ?_ ⟨Below.refl _ _, rfl, hG⟩
        simp only [Array.getD_eq_getD_getElem?] at e79
        go_simp
      · intro listed σ w a hin hout hl hc hp hG hF
        refine Guarded.some (d := 80) (b := true) rfl rfl ((hin 51 80 rfl (hp ⟨51, .guard⟩ (by simp) rfl)).trans (hF 51 (hp ⟨51, .guard⟩ (by simp) rfl))) ?_
        refine Or.inl ⟨rfl, ?_⟩
        have e1 : a.tmps.getD 1 undef = .int .i64 x := hout 1 (outB_spec (by kernel_rfl))
        refine Does.val (.int .i64 x) (w' := w) ?_ ⟨Below.refl _ _, rfl, hG⟩
        simp only [Array.getD_eq_getD_getElem?] at e1
        go_simp
      · intro listed σ w a hin hout hl hc hp hG hF
        refine Guarded.some (d := 80) (b := true) rfl rfl ((hin 51 80 rfl (hp ⟨51, .guard⟩ (by simp) rfl)).trans (hF 51 (hp ⟨51, .guard⟩ (by simp) rfl))) ?_
        refine Or.inl ⟨rfl, ?_⟩
        have e81 : a.tmps.getD 81 undef = .int .i64 x := (hin 52 81 rfl (hp ⟨52, .data⟩ (by simp) rfl)).trans (hF 52 (hp ⟨52, .data⟩ (by simp) rfl))
        refine Does.call ?_ (tvar_any x w) ?_
        · go_simp
        · rintro e w' ⟨v, rfl, z, hb⟩
          exact ⟨_, rfl, hb, z, hG.next hb⟩
      · intro listed σ w a hin hout hl hc hp hG hF
        refine Guarded.some (d := 80) (b := true) rfl rfl ((hin 51 80 rfl (hp ⟨51, .guard⟩ (by simp) rfl)).trans (hF 51 (hp ⟨51, .guard⟩ (by simp) rfl))) ?_
        refine Or.inl ⟨rfl, ?_⟩
        have e1 : a.tmps.getD 1 undef = .int .i64 x := hout 1 (outB_spec (by kernel_rfl))
        refine Does.val (.int .i64 x) (w' := w) ?_ ⟨Below.refl _ _, rfl, hG⟩
        simp only [Array.getD_eq_getD_getElem?] at e1
        go_simp
      · intro listed σ w a hin hout hl hc hp hG hF
        refine Guarded.some (d := 80) (b := true) rfl rfl ((hin 51 80 rfl (hp ⟨51, .guard⟩ (by simp) rfl)).trans (hF 51 (hp ⟨51, .guard⟩ (by simp) rfl))) ?_
        refine Or.inl ⟨rfl, ?_⟩
        have e83 : a.tmps.getD 83 undef = .int .i64 x := (hin 54 83 rfl (hp ⟨54, .data⟩ (by simp) rfl)).trans (hF 54 (hp ⟨54, .data⟩ (by simp) rfl))
        refine Does.call ?_ (rvar_any x w) ?_
        · go_simp
        · rintro e w' ⟨v, rfl, z, hb⟩
          exact ⟨_, rfl, hb, z, hG.next hb⟩
      · intro listed σ w a hin hout hl hc hp hG hF
        refine Guarded.some (d := 80) (b := true) rfl rfl ((hin 51 80 rfl (hp ⟨51, .guard⟩ (by simp) rfl)).trans (hF 51 (hp ⟨51, .guard⟩ (by simp) rfl))) ?_
        refine Or.inl ⟨rfl, ?_⟩
        have e82 := hin 53 82 rfl (hp ⟨53, .data⟩ (by simp) rfl)
        have z53 := hF 53 (hp ⟨53, .data⟩ (by simp) rfl)
        have e84 := hin 55 84 rfl (hp ⟨55, .data⟩ (by simp) rfl)
        have z55 := hF 55 (hp ⟨55, .data⟩ (by simp) rfl)
        refine Does.call ?_ (lsame_normed _ _ [(x, 1)] 0 3 3 w z53 z55 (by simp) (by decide)) ?_
        · go_simp
        · rintro e w' ⟨rfl, hb⟩
          exact ⟨_, rfl, hb, rfl, hG.next hb⟩
      · intro listed σ w a hin hout hl hc hp hG hF
        refine Guarded.none rfl ?_
        have e80 : a.tmps.getD 80 undef = .bool true := (hin 51 80 rfl (hp ⟨51, .data⟩ (by simp) rfl)).trans (hF 51 (hp ⟨51, .data⟩ (by simp) rfl))
        have e85 : a.tmps.getD 85 undef = .bool true := (hin 56 85 rfl (hp ⟨56, .data⟩ (by simp) rfl)).trans (hF 56 (hp ⟨56, .data⟩ (by simp) rfl))
        refine Does.val (.bool true) (w' := w) ?_ ⟨Below.refl _ _, rfl, hG⟩
        simp only [Array.getD_eq_getD_getElem?] at e80 e85
        go_simp
      · intro listed σ w a hin hout hl hc hp hG hF
        refine Guarded.none rfl ?_
        have e86 : a.tmps.getD 86 undef = .bool true := (hin 57 86 rfl (hp ⟨57, .data⟩ (by simp) rfl)).trans (hF 57 (hp ⟨57, .data⟩ (by simp) rfl))
        refine Does.val (.bool true) (w' := w) ?_ ⟨Below.refl _ _, rfl, hG⟩
        simp only [Array.getD_eq_getD_getElem?] at e86
        go_simp
    · intro listed σ W9 hall hG hF
      rw [show mid _ σ listed _ = (Act.put (Act.put (Act.put (Act.put (Act.put (Act.put (Act.put (Act.put (Act.put (Act.put (Act.put (Act.put (Act.put (Act.put (Act.put (Act.put (Act.put (Act.put (Act.put (Act.put (Act.put (Act.put (Act.put (Act.put (Act.put (Act.put (Act.put (Act.put (Act.put (Act.put (Act.put (Act.put (Act.put (Act.put (Act.put (Act.put (Act.put (Act.put (Act.put (Act.put (Act.put (Act.put (Act.put (Act.put (Act.put (Act.put (Act.put (Act.put (Act.put (Act.put (Act.put (Act.put (Act.put (Act.put (Act.put (Act.put (Act.put (Act.put (Act.put _ (some 29) (σ 0)) (some 30) (σ 1)) (some 31) (σ 2)) (some 32) (σ 3)) (some 33) (σ 4)) (some 34) (σ 5)) (some 35) (σ 6)) (some 36) (σ 7)) (some 37) (σ 8)) (some 38) (σ 9)) (some 39) (σ 10)) (some 40) (σ 11)) (some 41) (σ 12)) (some 42) (σ 13)) (some 43) (σ 14)) (some 44) (σ 15)) (some 45) (σ 16)) (some 46) (σ 17)) (some 47) (σ 18)) (some 48) (σ 19)) (some 49) (σ 20)) (some 50) (σ 21)) (some 51) (σ 22)) (some 52) (σ 23)) (some 53) (σ 24)) (some 54) (σ 25)) (some 55) (σ 26)) (some 56) (σ 27)) (some 57) (σ 28)) (some 58) (σ 29)) (some 59) (σ 30)) (some 60) (σ 31)) (some 61) (σ 32)) (some 62) (σ 33)) (some 63) (σ 34)) (some 64) (σ 35)) (some 65) (σ 36)) (some 66) (σ 37)) (some 67) (σ 38)) (some 68) (σ 39)) (some 69) (σ 40)) (some 70) (σ 41)) (some 71) (σ 42)) (some 72) (σ 43)) (some 73) (σ 44)) (some 74) (σ 45)) (some 75) (σ 46)) (some 76) (σ 47)) (some 77) (σ 48)) (some 78) (σ 49)) (some 79) (σ 50)) (some 80) (σ 51)) (some 81) (σ 52)) (some 82) (σ 53)) (some 83) (σ 54)) (some 84) (σ 55)) (some 85) (σ 56)) (some 86) (σ 57)) (some 4) (σ 58)) from (mid_all hall).trans rfl]
      generalize σ 0 = tt0
      generalize σ 1 = tt1
      generalize σ 2 = tt2
      generalize σ 3 = tt3
      generalize σ 4 = tt4
      generalize σ 5 = tt5
      generalize σ 6 = tt6
      generalize σ 7 = tt7
      generalize σ 8 = tt8
      generalize σ 9 = tt9
      generalize σ 10 = tt10
      generalize σ 11 = tt11
      generalize σ 12 = tt12
      generalize σ 13 = tt13
      generalize σ 14 = tt14
      generalize σ 15 = tt15
      generalize σ 16 = tt16
      generalize σ 17 = tt17
      generalize σ 18 = tt18
      generalize σ 19 = tt19
      generalize σ 20 = tt20
      generalize σ 21 = tt21
      generalize σ 22 = tt22
      generalize σ 23 = tt23
      generalize σ 24 = tt24
      generalize σ 25 = tt25
      generalize σ 26 = tt26
      generalize σ 27 = tt27
      generalize σ 28 = tt28
      generalize σ 29 = tt29
      generalize σ 30 = tt30
      generalize σ 31 = tt31
      generalize σ 32 = tt32
      generalize σ 33 = tt33
      generalize σ 34 = tt34
      generalize σ 35 = tt35
      generalize σ 36 = tt36
      generalize σ 37 = tt37
      generalize σ 38 = tt38
      generalize σ 39 = tt39
      generalize σ 40 = tt40
      generalize σ 41 = tt41
      generalize σ 42 = tt42
      generalize σ 43 = tt43
      generalize σ 44 = tt44
      generalize σ 45 = tt45
      generalize σ 46 = tt46
      generalize σ 47 = tt47
      generalize σ 48 = tt48
      generalize σ 49 = tt49
      generalize σ 50 = tt50
      generalize σ 51 = tt51
      generalize σ 52 = tt52
      generalize σ 53 = tt53
      generalize σ 54 = tt54
      generalize σ 55 = tt55
      generalize σ 56 = tt56
      generalize σ 57 = tt57
      rw [show σ 58 = .bool true from hF 58 (by decide)]
      simp only [Act.put, List.setIfInBounds_toArray, List.set_cons_zero, List.set_cons_succ]
      have TG := hG
      clear hF hG hall
      clear σ
      have HE := hide (HT6.out.next TG)
      clear TG SOF HA HS HG HT2 HH HHS HSG
      go_wp2_with fail
      go_ret
      exact ⟨rfl, HE.out⟩
end Go.Proofs.YtakcgkohnomgjaaGreatDoor
