/- Texts of one seat, put together: TermPuts. -/
import Derived.Test.YtdeakieenppmiaaGreatB31
import Derived.Test.YtdeakieenppmiaaGreatB32
import Derived.Test.YtdeakieenppmiaaGreatB35
import Derived.Test.YtdeakieenppmiaaGreatB36
set_option linter.unusedVariables false
/- TermPuts: the walk. -/
namespace Go.Proofs.YtdeakieenppmiaaGreat
open Go.RowKit
open Tm

theorem lsame_put (v u : Value) (L : List (Int × Int)) (K : Int) (k ku : Nat) (w0 : World) (hv : TRes w0 v (norm L) K k) (hu : TRes w0 u (norm L) K ku) (hl : L.length ≤ 1099511) (hk : k ≤ 1099511627) : Calls Tryz.prog 7 #[v, u] w0 (YesPost w0) :=
  lsame_yes v u (norm L) K k ku w0 hv hu (norm_id (norm_plain L)) (Nat.le_trans (norm_length L) hl) hk
set_option maxRecDepth 100000 in
set_option maxHeartbeats 16000000 in
theorem termPuts_walk (v : Value) (L : List (Int × Int)) (K : Int) (VA : Option Addr) (vn vc : Nat) (vs : List Int) (TA : Option Addr) (tn tc : Nat) (ts : List TV) (y : Int) (w0 : World) (hv : TIn w0 v L K big) (hrg : ∀ p ∈ L, -9223372036854775808 ≤ p.1 ∧ p.1 ≤ 9223372036854775807)
    (hvs : IIn w0 VA vn vs) (hvr : ∀ z ∈ vs, -9223372036854775808 ≤ z ∧ z ≤ 9223372036854775807) (hvc1 : vn ≤ vc) (hvc2 : vc ≤ 9223372036854775807) (hts : TermsIn w0 TA tn ts big) (htc1 : tn ≤ tc) (htc2 : tc ≤ 9223372036854775807) (hy1 : -9223372036854775808 ≤ y) (hy2 : y ≤ 9223372036854775807) :
    Calls Tryz.prog 3 #[v, .slice VA vn vc, .slice TA tn tc, .int .i64 y] w0 (YesPost w0) := by
  have hv0 := hv
  have htn : tn ≤ 9223372036854775807 := by omega
  have hvn : vn ≤ 9223372036854775807 := by omega
  obtain ⟨A, n, c, s, B, m, d, rfl, hp, hc1, hc2, hK⟩ := hv
  have HLn := hide hp.len
  have HRG := hide hrg
  have HTS := hide hts
  have HVV := hide hvs
  have HVL := hide hvs.1
  have HVR := hide hvr
  have HTL := hide hts.1
  obtain ⟨z0, z1, -⟩ := bstart1 28 w0 #[.slice A n c, .bool s, .slice B m d]
  have H1 := hide hv0
  clear hv0 hp hK hts hvs hrg hvr
  go_enter Tryz.func3, Tryz.ntmps3
  go_wp2_with fail
  refine (putting_yes _).mono ?_
  rintro e w2 ⟨rfl, b1⟩
  have q0 := z0.next b1
  have T2 := hide (z1.next b1)
  have x0 := q0.c0
  have x1 := q0.c1
  have x2 := q0.c2
  have Q0 := hide q0
  clear z0 z1 b1 q0
  have bA := bl_alloc w2 (.cells #[.slice A n c, .bool s, .slice B m d] 28)
  have hbx : Box 28 (w2.alloc (.cells #[.slice A n c, .bool s, .slice B m d] 28)) w2.heap.size (flatT [⟨A, n, c, s, B, m, d, L, K⟩]).toArray := Box.new _ _ _
  have hfw := few_any (some ⟨w2.heap.size, 0, none⟩) 1 1 _ _ (TermsIn.box (k := big) hbx (fun t ht => by
    simp only [List.mem_cons, List.not_mem_nil, or_false] at ht
    subst ht
    exact (H1.out.below T2.out).below bA)) (by decide)
  have Q1 := hide (Q0.out.next bA)
  have T3 := hide (T2.out.next bA)
  clear hbx bA
  go_wp2_with fail
  refine hfw.mono ?_
  rintro e w3 ⟨r, rfl, hr, b3⟩
  have HR := hide hr
  have T4 := hide (T3.out.next b3)
  have Q2 := hide (Q1.out.next b3)
  have HB3 := hide b3
  clear x0 x1 x2 hfw hr b3
  cases r with
  | false =>
    go_wp2_with fail
    go_ret
    exact ⟨rfl, T4.out⟩
  | true =>
    have F1 := hide (HR.out rfl ⟨A, n, c, s, B, m, d, L, K⟩ (by simp))
    have HA := hide (show TIn w3 (.agg #[.slice A n c, .bool s, .slice B m d]) L K 20 from F1.out.2.below HB3.out)
    have HL := hide (show L.length ≤ 30 by rw [HLn.out]; exact F1.out.1)
    have hft := few_any TA tn tc ts w3 (HTS.out.below T4.out) htn
    go_wp2_with fail
    refine hft.mono ?_
    rintro e w4 ⟨r2, rfl, hr2, b4⟩
    have HR2 := hide hr2
    have T5 := hide (T4.out.next b4)
    have HA := hide (HA.out.below b4)
    have Q4 := hide (Q2.out.next b4)
    have HB4 := hide b4
    clear hft hr2 b4
    cases r2 with
    | false =>
      go_wp2_with fail
      go_ret
      exact ⟨rfl, T5.out⟩
    | true =>
      by_cases h8 : (8 : Int) < vn
      · go_wp2_with fail
        go_ret
        exact ⟨rfl, T5.out⟩
      by_cases h9 : (8 : Int) < tn
      · go_wp2_with fail
        go_ret
        exact ⟨rfl, T5.out⟩
      have HTT := hide (show TermsIn w4 TA tn ts 20 ∧ ∀ t ∈ ts, t.L.length ≤ 30 from by
        have h1 := HTS.out.below T5.out
        refine ⟨⟨h1.1, h1.2.1, fun t ht => (HR2.out rfl t ht).2.below HB4.out⟩, fun t ht => ?_⟩
        have h2 := HR2.out rfl t ht
        obtain ⟨A', n', c', s', B', m', d', e, h3, -⟩ := h2.2
        have h4 : t.n = n' := by have e2 : Value.agg #[.slice t.A t.n t.c, .bool t.s, .slice t.B t.m t.d] = .agg #[.slice A' n' c', .bool s', .slice B' m' d'] := e; simp at e2; exact e2.1.2.1
        rw [h3.len, ← h4]
        exact h2.1)
      have HI := hide (HVV.out.below T5.out)
      have HQA := hide (show (putL vs (pairs ts) (norm L)).length ≤ 1099511 from by
        have h1 := putL_length vs (pairs ts) 30 (by decide) (fun t ht => by
          obtain ⟨t', h2, rfl⟩ := List.mem_map.1 ht
          exact HTT.out.2 t' h2) (norm L)
        have h2 := norm_length L
        have h3 := HL.out
        have h4 := Nat.mul_le_mul_right 30 (Nat.le_trans h2 h3)
        omega)
      have HML := hide (show (moved (clamp y) (norm L)).length ≤ 1099511 from by
        have h1 := moved_length (clamp y) (norm L)
        have h2 := norm_length L
        have h3 := HL.out
        omega)
      clear HR HR2 HB3 HB4 F1 Q0 Q1 Q2 T2 T3 T4 H1 HTS HVV HLn HTL HVL
      by_cases hv0 : (0 : Int) < vn
      · by_cases ht0 : (0 : Int) < tn
        · obtain ⟨vb, vo, x, rfl, hvlt, hx, cx⟩ := HI.out.at_ (i := 0) (by omega)
          obtain ⟨tb, to_, t, rfl, htt, k0, k1, k2, tz⟩ := HTT.out.1.at_ (i := 0) (by omega)
          obtain ⟨hx1, hx2⟩ := HVR.out x (List.mem_of_getElem? hx)
          have HT3 := hide (HTT.out.2 t (List.mem_of_getElem? htt))
          have HT0 := hide (show TIn w4 (.agg #[.slice t.A t.n t.c, .bool t.s, .slice t.B t.m t.d]) t.L t.K 20 from tz)
          have HQL := hide (show (putL [x] [(t.L, t.K)] (norm L)).length ≤ 1099511 from by
            have h1 := putL_length [x] [(t.L, t.K)] 30 (by decide) (fun u hu => by simp at hu; subst hu; exact HT3.out) (norm L)
            have h2 := norm_length L
            have h3 := HL.out
            have h4 := Nat.mul_le_mul_right 30 (Nat.le_trans h2 h3)
            omega)
          have HI1 := hide (show IIn w4 (some ⟨vb, vo, none⟩) 1 [x] from ⟨rfl, fun _ => ⟨vb, vo, rfl, fun ii u hu => by
            match ii, hu with
            | 0, hu => simp [ints] at hu; subst hu; exact cx
            | ii + 1, hu => simp [ints] at hu⟩⟩)
          have HTS1 := hide (show TermsIn w4 (some ⟨tb, to_, none⟩) 1 [t] 20 from ⟨rfl, fun _ => ⟨tb, to_, rfl, fun ii u hu => by
            match ii, hu with
            | 0, hu => simp [flatT, TV.cells] at hu; subst hu; simpa using k0
            | 1, hu => simp [flatT, TV.cells] at hu; subst hu; simpa using k1
            | 2, hu => simp [flatT, TV.cells] at hu; subst hu; simpa using k2
            | ii + 3, hu => simp [flatT, TV.cells] at hu⟩, fun u hu => by simp at hu; subst hu; exact tz⟩)
          have SOF := hide (show ∀ W, Below w4.heap.size w4 W → (W.cell? ⟨w0.heap.size, 0, none⟩ = some (.slice A n c) ∧ W.cell? ⟨w0.heap.size, 1, none⟩ = some (.bool s) ∧ W.cell? ⟨w0.heap.size, 2, none⟩ = some (.slice B m d) ∧ W.cell? ⟨vb, vo, none⟩ = some (.int .i64 x) ∧ W.cell? ⟨tb, to_, none⟩ = some (.slice t.A t.n t.c) ∧ W.cell? ⟨tb, to_ + 1, none⟩ = some (.bool t.s) ∧ W.cell? ⟨tb, to_ + 2, none⟩ = some (.slice t.B t.m t.d)) from fun W h => by
            obtain ⟨vb', vo', x', e1, h1, h2, h3⟩ := (HI.out.below h).at_ (i := 0) (by omega)
            injection e1 with e1
            injection e1 with e2 e3
            subst e2 e3
            rw [hx] at h2
            injection h2 with h2
            subst h2
            obtain ⟨tb', to', t', e1, g1, g2, g3, g4, -⟩ := (HTT.out.1.below h).at_ (i := 0) (by omega)
            injection e1 with e1
            injection e1 with e2 e3
            subst e2 e3
            rw [htt] at g1
            injection g1 with g1
            subst g1
            exact ⟨(Q4.out.next h).c0, (Q4.out.next h).c1, (Q4.out.next h).c2, by simpa using h3, by simpa using g2, by simpa using g3, by simpa using g4⟩)
          have hvc3 : 1 ≤ vc := by omega
          have htc3 : 1 ≤ tc := by omega
          clear hvlt hx cx htt k0 k1 k2 tz
          go_wp2_with fail
          refine wp_drawn (by kernel_rfl) (by kernel_rfl) (by kernel_rfl) (fun w w' => Below w.heap.size w w') (fun j v w => match j with | 0 => v = .slice (some ⟨vb, vo, none⟩) vn vc | 1 => v = .int .i64 vn | 2 => v = .bool true | 3 => v = .bool true | 4 => v = .slice (some ⟨tb, to_, none⟩) tn tc | 5 => v = .int .i64 tn | 6 => v = .bool true | 7 => v = .bool true | 8 => v = .bool true | 9 => v = .agg #[.slice A n c, .bool s, .slice B m d] | 10 => v = .slice (some ⟨vb, vo, none⟩) vn vc | 11 => v = .pointer (some ⟨vb, vo, none⟩) | 12 => v = .int .i64 x | 13 => v = .slice (some ⟨tb, to_, none⟩) tn tc | 14 => v = .pointer (some ⟨tb, to_, none⟩) | 15 => v = .agg #[.slice t.A t.n t.c, .bool t.s, .slice t.B t.m t.d] | 16 => TRes w v (norm (putL [x] [(t.L, t.K)] (norm L))) (K + putK [x] [(t.L, t.K)] (norm L)) (20 + 20 + 1010000) | 17 => v = .agg #[.slice A n c, .bool s, .slice B m d] | 18 => v = .slice (some ⟨vb, vo, none⟩) vn vc | 19 => v = .slice (some ⟨vb, vo, none⟩) 1 vc | 20 => v = .slice (some ⟨tb, to_, none⟩) tn tc | 21 => v = .slice (some ⟨tb, to_, none⟩) 1 tc | 22 => TRes w v (norm (putL [x] [(t.L, t.K)] (norm L))) (K + putK [x] [(t.L, t.K)] (norm L)) (20 + 20 + 1000 + 20000 * 100) | 23 => v = .bool true | 24 => v = .bool false | 25 => v = .bool false | _ => True) (fun _ _ w => Below w4.heap.size w4 w) ?_ (fun _ => bl_drewN w4 1) ?_ ?_
          · intro j v w w' hT h
            match j, h with
            | 0, h => exact h
            | 1, h => exact h
            | 2, h => exact h
            | 3, h => exact h
            | 4, h => exact h
            | 5, h => exact h
            | 6, h => exact h
            | 7, h => exact h
            | 8, h => exact h
            | 9, h => exact h
            | 10, h => exact h
            | 11, h => exact h
            | 12, h => exact h
            | 13, h => exact h
            | 14, h => exact h
            | 15, h => exact h
            | 16, h => exact h.below hT
            | 17, h => exact h
            | 18, h => exact h
            | 19, h => exact h
            | 20, h => exact h
            | 21, h => exact h
            | 22, h => exact h.below hT
            | 23, h => exact h
            | 24, h => exact h
            | 25, h => exact h
            | j + 26, h => trivial
          · refine ⟨?_, ?_, ?_, ?_, ?_, ?_, ?_, ?_, ?_, ?_, ?_, ?_, ?_, ?_, ?_, ?_, ?_, ?_, ?_, ?_, ?_, ?_, ?_, ?_, ?_, ?_, trivial⟩
            · intro listed σ w a hin hout hl hc hp hG hF
              refine Guarded.none rfl ?_
              have e1 : a.tmps.getD 1 undef = .slice (some ⟨vb, vo, none⟩) vn vc := hout 1 (outB_spec (by kernel_rfl))
              refine Does.val (.slice (some ⟨vb, vo, none⟩) vn vc) (w' := w) ?_ ⟨Below.refl _ _, rfl, hG⟩
              simp only [Array.getD_eq_getD_getElem?] at e1
              go_simp
            · intro listed σ w a hin hout hl hc hp hG hF
              refine Guarded.none rfl ?_
              have e30 : a.tmps.getD 30 undef = .slice (some ⟨vb, vo, none⟩) vn vc := (hin 0 30 rfl (hp ⟨0, .data⟩ (by simp) rfl)).trans (hF 0 (hp ⟨0, .data⟩ (by simp) rfl))
              refine Does.val (.int .i64 vn) (w' := w) ?_ ⟨Below.refl _ _, rfl, hG⟩
              simp only [Array.getD_eq_getD_getElem?] at e30
              go_simp
            · intro listed σ w a hin hout hl hc hp hG hF
              refine Guarded.none rfl ?_
              have e31 : a.tmps.getD 31 undef = .int .i64 vn := (hin 1 31 rfl (hp ⟨1, .data⟩ (by simp) rfl)).trans (hF 1 (hp ⟨1, .data⟩ (by simp) rfl))
              refine Does.val (.bool true) (w' := w) ?_ ⟨Below.refl _ _, rfl, hG⟩
              simp only [Array.getD_eq_getD_getElem?] at e31
              go_simp
              omega
            · intro listed σ w a hin hout hl hc hp hG hF
              refine Guarded.none rfl ?_
              have e32 : a.tmps.getD 32 undef = .bool true := (hin 2 32 rfl (hp ⟨2, .data⟩ (by simp) rfl)).trans (hF 2 (hp ⟨2, .data⟩ (by simp) rfl))
              refine Does.val (.bool true) (w' := w) ?_ ⟨Below.refl _ _, rfl, hG⟩
              simp only [Array.getD_eq_getD_getElem?] at e32
              go_simp
            · intro listed σ w a hin hout hl hc hp hG hF
              refine Guarded.some (d := 33) (b := true) rfl rfl ((hin 3 33 rfl (hp ⟨3, .guard⟩ (by simp) rfl)).trans (hF 3 (hp ⟨3, .guard⟩ (by simp) rfl))) ?_
              refine Or.inl ⟨rfl, ?_⟩
              have e2 : a.tmps.getD 2 undef = .slice (some ⟨tb, to_, none⟩) tn tc := hout 2 (outB_spec (by kernel_rfl))
              refine Does.val (.slice (some ⟨tb, to_, none⟩) tn tc) (w' := w) ?_ ⟨Below.refl _ _, rfl, hG⟩
              simp only [Array.getD_eq_getD_getElem?] at e2
              go_simp
            · intro listed σ w a hin hout hl hc hp hG hF
              refine Guarded.some (d := 33) (b := true) rfl rfl ((hin 3 33 rfl (hp ⟨3, .guard⟩ (by simp) rfl)).trans (hF 3 (hp ⟨3, .guard⟩ (by simp) rfl))) ?_
              refine Or.inl ⟨rfl, ?_⟩
              have e34 : a.tmps.getD 34 undef = .slice (some ⟨tb, to_, none⟩) tn tc := (hin 4 34 rfl (hp ⟨4, .data⟩ (by simp) rfl)).trans (hF 4 (hp ⟨4, .data⟩ (by simp) rfl))
              refine Does.val (.int .i64 tn) (w' := w) ?_ ⟨Below.refl _ _, rfl, hG⟩
              simp only [Array.getD_eq_getD_getElem?] at e34
              go_simp
            · intro listed σ w a hin hout hl hc hp hG hF
              refine Guarded.some (d := 33) (b := true) rfl rfl ((hin 3 33 rfl (hp ⟨3, .guard⟩ (by simp) rfl)).trans (hF 3 (hp ⟨3, .guard⟩ (by simp) rfl))) ?_
              refine Or.inl ⟨rfl, ?_⟩
              have e35 : a.tmps.getD 35 undef = .int .i64 tn := (hin 5 35 rfl (hp ⟨5, .data⟩ (by simp) rfl)).trans (hF 5 (hp ⟨5, .data⟩ (by simp) rfl))
              refine Does.val (.bool true) (w' := w) ?_ ⟨Below.refl _ _, rfl, hG⟩
              simp only [Array.getD_eq_getD_getElem?] at e35
              go_simp
              omega
            · intro listed σ w a hin hout hl hc hp hG hF
              refine Guarded.none rfl ?_
              have e33 : a.tmps.getD 33 undef = .bool true := (hin 3 33 rfl (hp ⟨3, .data⟩ (by simp) rfl)).trans (hF 3 (hp ⟨3, .data⟩ (by simp) rfl))
              have e36 : a.tmps.getD 36 undef = .bool true := (hin 6 36 rfl (hp ⟨6, .data⟩ (by simp) rfl)).trans (hF 6 (hp ⟨6, .data⟩ (by simp) rfl))
              refine Does.val (.bool true) (w' := w) ?_ ⟨Below.refl _ _, rfl, hG⟩
              simp only [Array.getD_eq_getD_getElem?] at e33 e36
              go_simp
            · intro listed σ w a hin hout hl hc hp hG hF
              refine Guarded.none rfl ?_
              have e37 : a.tmps.getD 37 undef = .bool true := (hin 7 37 rfl (hp ⟨7, .data⟩ (by simp) rfl)).trans (hF 7 (hp ⟨7, .data⟩ (by simp) rfl))
              refine Does.val (.bool true) (w' := w) ?_ ⟨Below.refl _ _, rfl, hG⟩
              simp only [Array.getD_eq_getD_getElem?] at e37
              go_simp
            · intro listed σ w a hin hout hl hc hp hG hF
              refine Guarded.some (d := 38) (b := true) rfl rfl ((hin 8 38 rfl (hp ⟨8, .guard⟩ (by simp) rfl)).trans (hF 8 (hp ⟨8, .guard⟩ (by simp) rfl))) ?_
              refine Or.inl ⟨rfl, ?_⟩
              have e4 : a.tmps.getD 4 undef = .pointer (some ⟨w0.heap.size, 0, none⟩) := hout 4 (outB_spec (by kernel_rfl))
              have CC := SOF.out w hG; obtain ⟨C0, C1, C2, D0, E0, E1, E2⟩ := CC
              refine Does.val (.agg #[.slice A n c, .bool s, .slice B m d]) (w' := w) ?_ ⟨Below.refl _ _, rfl, hG⟩
              go_simp
            · intro listed σ w a hin hout hl hc hp hG hF
              refine Guarded.some (d := 38) (b := true) rfl rfl ((hin 8 38 rfl (hp ⟨8, .guard⟩ (by simp) rfl)).trans (hF 8 (hp ⟨8, .guard⟩ (by simp) rfl))) ?_
              refine Or.inl ⟨rfl, ?_⟩
              have e1 : a.tmps.getD 1 undef = .slice (some ⟨vb, vo, none⟩) vn vc := hout 1 (outB_spec (by kernel_rfl))
              refine Does.val (.slice (some ⟨vb, vo, none⟩) vn vc) (w' := w) ?_ ⟨Below.refl _ _, rfl, hG⟩
              simp only [Array.getD_eq_getD_getElem?] at e1
              go_simp
            · intro listed σ w a hin hout hl hc hp hG hF
              refine Guarded.some (d := 38) (b := true) rfl rfl ((hin 8 38 rfl (hp ⟨8, .guard⟩ (by simp) rfl)).trans (hF 8 (hp ⟨8, .guard⟩ (by simp) rfl))) ?_
              refine Or.inl ⟨rfl, ?_⟩
              have e40 : a.tmps.getD 40 undef = .slice (some ⟨vb, vo, none⟩) vn vc := (hin 10 40 rfl (hp ⟨10, .data⟩ (by simp) rfl)).trans (hF 10 (hp ⟨10, .data⟩ (by simp) rfl))
              refine Does.val (.pointer (some ⟨vb, vo, none⟩)) (w' := w) ?_ ⟨Below.refl _ _, rfl, hG⟩
              simp only [Array.getD_eq_getD_getElem?] at e40
              go_simp
              (try (intro hh; exfalso; omega))
            · intro listed σ w a hin hout hl hc hp hG hF
              refine Guarded.some (d := 38) (b := true) rfl rfl ((hin 8 38 rfl (hp ⟨8, .guard⟩ (by simp) rfl)).trans (hF 8 (hp ⟨8, .guard⟩ (by simp) rfl))) ?_
              refine Or.inl ⟨rfl, ?_⟩
              have e41 : a.tmps.getD 41 undef = .pointer (some ⟨vb, vo, none⟩) := (hin 11 41 rfl (hp ⟨11, .data⟩ (by simp) rfl)).trans (hF 11 (hp ⟨11, .data⟩ (by simp) rfl))
              have CC := SOF.out w hG; obtain ⟨C0, C1, C2, D0, E0, E1, E2⟩ := CC
              refine Does.val (.int .i64 x) (w' := w) ?_ ⟨Below.refl _ _, rfl, hG⟩
              go_simp
            · intro listed σ w a hin hout hl hc hp hG hF
              refine Guarded.some (d := 38) (b := true) rfl rfl ((hin 8 38 rfl (hp ⟨8, .guard⟩ (by simp) rfl)).trans (hF 8 (hp ⟨8, .guard⟩ (by simp) rfl))) ?_
              refine Or.inl ⟨rfl, ?_⟩
              have e2 : a.tmps.getD 2 undef = .slice (some ⟨tb, to_, none⟩) tn tc := hout 2 (outB_spec (by kernel_rfl))
              refine Does.val (.slice (some ⟨tb, to_, none⟩) tn tc) (w' := w) ?_ ⟨Below.refl _ _, rfl, hG⟩
              simp only [Array.getD_eq_getD_getElem?] at e2
              go_simp
            · intro listed σ w a hin hout hl hc hp hG hF
              refine Guarded.some (d := 38) (b := true) rfl rfl ((hin 8 38 rfl (hp ⟨8, .guard⟩ (by simp) rfl)).trans (hF 8 (hp ⟨8, .guard⟩ (by simp) rfl))) ?_
              refine Or.inl ⟨rfl, ?_⟩
              have e43 : a.tmps.getD 43 undef = .slice (some ⟨tb, to_, none⟩) tn tc := (hin 13 43 rfl (hp ⟨13, .data⟩ (by simp) rfl)).trans (hF 13 (hp ⟨13, .data⟩ (by simp) rfl))
              refine Does.val (.pointer (some ⟨tb, to_, none⟩)) (w' := w) ?_ ⟨Below.refl _ _, rfl, hG⟩
              simp only [Array.getD_eq_getD_getElem?] at e43
              go_simp
              (try (intro hh; exfalso; omega))
            · intro listed σ w a hin hout hl hc hp hG hF
              refine Guarded.some (d := 38) (b := true) rfl rfl ((hin 8 38 rfl (hp ⟨8, .guard⟩ (by simp) rfl)).trans (hF 8 (hp ⟨8, .guard⟩ (by simp) rfl))) ?_
              refine Or.inl ⟨rfl, ?_⟩
              have e44 : a.tmps.getD 44 undef = .pointer (some ⟨tb, to_, none⟩) := (hin 14 44 rfl (hp ⟨14, .data⟩ (by simp) rfl)).trans (hF 14 (hp ⟨14, .data⟩ (by simp) rfl))
              have CC := SOF.out w hG; obtain ⟨C0, C1, C2, D0, E0, E1, E2⟩ := CC
              refine Does.val (.agg #[.slice t.A t.n t.c, .bool t.s, .slice t.B t.m t.d]) (w' := w) ?_ ⟨Below.refl _ _, rfl, hG⟩
              go_simp
            · intro listed σ w a hin hout hl hc hp hG hF
              refine Guarded.some (d := 38) (b := true) rfl rfl ((hin 8 38 rfl (hp ⟨8, .guard⟩ (by simp) rfl)).trans (hF 8 (hp ⟨8, .guard⟩ (by simp) rfl))) ?_
              refine Or.inl ⟨rfl, ?_⟩
              have e39 : a.tmps.getD 39 undef = .agg #[.slice A n c, .bool s, .slice B m d] := (hin 9 39 rfl (hp ⟨9, .data⟩ (by simp) rfl)).trans (hF 9 (hp ⟨9, .data⟩ (by simp) rfl))
              have e42 : a.tmps.getD 42 undef = .int .i64 x := (hin 12 42 rfl (hp ⟨12, .data⟩ (by simp) rfl)).trans (hF 12 (hp ⟨12, .data⟩ (by simp) rfl))
              have e45 : a.tmps.getD 45 undef = .agg #[.slice t.A t.n t.c, .bool t.s, .slice t.B t.m t.d] := (hin 15 45 rfl (hp ⟨15, .data⟩ (by simp) rfl)).trans (hF 15 (hp ⟨15, .data⟩ (by simp) rfl))
              refine Does.call ?_ (tput_any _ _ L t.L K t.K x 20 20 w (HA.out.below hG) (HT0.out.below hG) hx1 hx2 (by have := HT3.out; omega) (by have := HL.out; omega) (fun p hp => (HRG.out p hp).2) (by decide) (by decide)) ?_
              · go_simp
              · rintro e w' ⟨v, rfl, z, hb⟩
                exact ⟨_, rfl, hb, z, hG.next hb⟩
            · intro listed σ w a hin hout hl hc hp hG hF
              refine Guarded.some (d := 38) (b := true) rfl rfl ((hin 8 38 rfl (hp ⟨8, .guard⟩ (by simp) rfl)).trans (hF 8 (hp ⟨8, .guard⟩ (by simp) rfl))) ?_
              refine Or.inl ⟨rfl, ?_⟩
              have e4 : a.tmps.getD 4 undef = .pointer (some ⟨w0.heap.size, 0, none⟩) := hout 4 (outB_spec (by kernel_rfl))
              have CC := SOF.out w hG; obtain ⟨C0, C1, C2, D0, E0, E1, E2⟩ := CC
              refine Does.val (.agg #[.slice A n c, .bool s, .slice B m d]) (w' := w) ?_ ⟨Below.refl _ _, rfl, hG⟩
              go_simp
            · intro listed σ w a hin hout hl hc hp hG hF
              refine Guarded.some (d := 38) (b := true) rfl rfl ((hin 8 38 rfl (hp ⟨8, .guard⟩ (by simp) rfl)).trans (hF 8 (hp ⟨8, .guard⟩ (by simp) rfl))) ?_
              refine Or.inl ⟨rfl, ?_⟩
              have e1 : a.tmps.getD 1 undef = .slice (some ⟨vb, vo, none⟩) vn vc := hout 1 (outB_spec (by kernel_rfl))
              refine Does.val (.slice (some ⟨vb, vo, none⟩) vn vc) (w' := w) ?_ ⟨Below.refl _ _, rfl, hG⟩
              simp only [Array.getD_eq_getD_getElem?] at e1
              go_simp
            · intro listed σ w a hin hout hl hc hp hG hF
              refine Guarded.some (d := 38) (b := true) rfl rfl ((hin 8 38 rfl (hp ⟨8, .guard⟩ (by simp) rfl)).trans (hF 8 (hp ⟨8, .guard⟩ (by simp) rfl))) ?_
              refine Or.inl ⟨rfl, ?_⟩
              have e48 : a.tmps.getD 48 undef = .slice (some ⟨vb, vo, none⟩) vn vc := (hin 18 48 rfl (hp ⟨18, .data⟩ (by simp) rfl)).trans (hF 18 (hp ⟨18, .data⟩ (by simp) rfl))
              refine Does.val (.slice (some ⟨vb, vo, none⟩) 1 vc) (w' := w) ?_ ⟨Below.refl _ _, rfl, hG⟩
              simp only [Array.getD_eq_getD_getElem?] at e48
              go_simp
              intro hh; exfalso; omega
            · intro listed σ w a hin hout hl hc hp hG hF
              refine Guarded.some (d := 38) (b := true) rfl rfl ((hin 8 38 rfl (hp ⟨8, .guard⟩ (by simp) rfl)).trans (hF 8 (hp ⟨8, .guard⟩ (by simp) rfl))) ?_
              refine Or.inl ⟨rfl, ?_⟩
              have e2 : a.tmps.getD 2 undef = .slice (some ⟨tb, to_, none⟩) tn tc := hout 2 (outB_spec (by kernel_rfl))
              refine Does.val (.slice (some ⟨tb, to_, none⟩) tn tc) (w' := w) ?_ ⟨Below.refl _ _, rfl, hG⟩
              simp only [Array.getD_eq_getD_getElem?] at e2
              go_simp
            · intro listed σ w a hin hout hl hc hp hG hF
              refine Guarded.some (d := 38) (b := true) rfl rfl ((hin 8 38 rfl (hp ⟨8, .guard⟩ (by simp) rfl)).trans (hF 8 (hp ⟨8, .guard⟩ (by simp) rfl))) ?_
              refine Or.inl ⟨rfl, ?_⟩
              have e50 : a.tmps.getD 50 undef = .slice (some ⟨tb, to_, none⟩) tn tc := (hin 20 50 rfl (hp ⟨20, .data⟩ (by simp) rfl)).trans (hF 20 (hp ⟨20, .data⟩ (by simp) rfl))
              refine Does.val (.slice (some ⟨tb, to_, none⟩) 1 tc) (w' := w) ?_ ⟨Below.refl _ _, rfl, hG⟩
              simp only [Array.getD_eq_getD_getElem?] at e50
              go_simp
              intro hh; exfalso; omega
            · intro listed σ w a hin hout hl hc hp hG hF
              refine Guarded.some (d := 38) (b := true) rfl rfl ((hin 8 38 rfl (hp ⟨8, .guard⟩ (by simp) rfl)).trans (hF 8 (hp ⟨8, .guard⟩ (by simp) rfl))) ?_
              refine Or.inl ⟨rfl, ?_⟩
              have e47 : a.tmps.getD 47 undef = .agg #[.slice A n c, .bool s, .slice B m d] := (hin 17 47 rfl (hp ⟨17, .data⟩ (by simp) rfl)).trans (hF 17 (hp ⟨17, .data⟩ (by simp) rfl))
              have e49 : a.tmps.getD 49 undef = .slice (some ⟨vb, vo, none⟩) 1 vc := (hin 19 49 rfl (hp ⟨19, .data⟩ (by simp) rfl)).trans (hF 19 (hp ⟨19, .data⟩ (by simp) rfl))
              have e51 : a.tmps.getD 51 undef = .slice (some ⟨tb, to_, none⟩) 1 tc := (hin 21 51 rfl (hp ⟨21, .data⟩ (by simp) rfl)).trans (hF 21 (hp ⟨21, .data⟩ (by simp) rfl))
              refine Does.call ?_ (rputAll_any _ L K 20 (some ⟨vb, vo, none⟩) 1 vc [x] (some ⟨tb, to_, none⟩) 1 tc [t] 20 w (HA.out.below hG) (HI1.out.below hG) (by decide) (HTS1.out.below hG) (by decide) (fun u hu => by simp at hu; subst hu; have := HT3.out; omega) (by have := HL.out; omega) (by decide) (by decide)) ?_
              · go_simp
              · rintro e w' ⟨v, rfl, z, hb⟩
                exact ⟨_, rfl, hb, z, hG.next hb⟩
            · intro listed σ w a hin hout hl hc hp hG hF
              refine Guarded.some (d := 38) (b := true) rfl rfl ((hin 8 38 rfl (hp ⟨8, .guard⟩ (by simp) rfl)).trans (hF 8 (hp ⟨8, .guard⟩ (by simp) rfl))) ?_
              refine Or.inl ⟨rfl, ?_⟩
              have e46 := hin 16 46 rfl (hp ⟨16, .data⟩ (by simp) rfl)
              have z16 := hF 16 (hp ⟨16, .data⟩ (by simp) rfl)
              have e52 := hin 22 52 rfl (hp ⟨22, .data⟩ (by simp) rfl)
              have z22 := hF 22 (hp ⟨22, .data⟩ (by simp) rfl)
              refine Does.call ?_ (lsame_put _ _ (putL [x] [(t.L, t.K)] (norm L)) (K + putK [x] [(t.L, t.K)] (norm L)) (20 + 20 + 1010000) (20 + 20 + 1000 + 20000 * 100) w z16 z22 HQL.out (by decide)) ?_
              · go_simp
              · rintro e w' ⟨rfl, hb⟩
                exact ⟨_, rfl, hb, rfl, hG.next hb⟩
            · intro listed σ w a hin hout hl hc hp hG hF
              refine Guarded.some (d := 38) (b := true) rfl rfl ((hin 8 38 rfl (hp ⟨8, .guard⟩ (by simp) rfl)).trans (hF 8 (hp ⟨8, .guard⟩ (by simp) rfl))) ?_
              refine Or.inl ⟨rfl, ?_⟩
              have e53 : a.tmps.getD 53 undef = .bool true := (hin 23 53 rfl (hp ⟨23, .data⟩ (by simp) rfl)).trans (hF 23 (hp ⟨23, .data⟩ (by simp) rfl))
              refine Does.val (.bool false) (w' := w) ?_ ⟨Below.refl _ _, rfl, hG⟩
              simp only [Array.getD_eq_getD_getElem?] at e53
              go_simp
            · intro listed σ w a hin hout hl hc hp hG hF
              refine Guarded.none rfl ?_
              have e38 : a.tmps.getD 38 undef = .bool true := (hin 8 38 rfl (hp ⟨8, .data⟩ (by simp) rfl)).trans (hF 8 (hp ⟨8, .data⟩ (by simp) rfl))
              have e54 : a.tmps.getD 54 undef = .bool false := (hin 24 54 rfl (hp ⟨24, .data⟩ (by simp) rfl)).trans (hF 24 (hp ⟨24, .data⟩ (by simp) rfl))
              refine Does.val (.bool false) (w' := w) ?_ ⟨Below.refl _ _, rfl, hG⟩
              simp only [Array.getD_eq_getD_getElem?] at e38 e54
              go_simp
          · intro listed σ W9 hall hG hF
            rw [show mid _ σ listed _ = (Act.put (Act.put (Act.put (Act.put (Act.put (Act.put (Act.put (Act.put (Act.put (Act.put (Act.put (Act.put (Act.put (Act.put (Act.put (Act.put (Act.put (Act.put (Act.put (Act.put (Act.put (Act.put (Act.put (Act.put (Act.put (Act.put _ (some 30) (σ 0)) (some 31) (σ 1)) (some 32) (σ 2)) (some 33) (σ 3)) (some 34) (σ 4)) (some 35) (σ 5)) (some 36) (σ 6)) (some 37) (σ 7)) (some 38) (σ 8)) (some 39) (σ 9)) (some 40) (σ 10)) (some 41) (σ 11)) (some 42) (σ 12)) (some 43) (σ 13)) (some 44) (σ 14)) (some 45) (σ 15)) (some 46) (σ 16)) (some 47) (σ 17)) (some 48) (σ 18)) (some 49) (σ 19)) (some 50) (σ 20)) (some 51) (σ 21)) (some 52) (σ 22)) (some 53) (σ 23)) (some 54) (σ 24)) (some 55) (σ 25)) from (mid_all hall).trans rfl]
            generalize σ 0 = tt0
            generalize σ 1 = tt1
            generalize σ 2 = tt2
            generalize σ 3 = tt3
            generalize σ 4 = tt4
            generalize σ 5 = tt5
            generalize σ 6 = tt6
            generalize σ 7 = tt7
            generalize σ 8 = tt8
            generalize σ 9 = tt9
            generalize σ 10 = tt10
            generalize σ 11 = tt11
            generalize σ 12 = tt12
            generalize σ 13 = tt13
            generalize σ 14 = tt14
            generalize σ 15 = tt15
            generalize σ 16 = tt16
            generalize σ 17 = tt17
            generalize σ 18 = tt18
            generalize σ 19 = tt19
            generalize σ 20 = tt20
            generalize σ 21 = tt21
            generalize σ 22 = tt22
            generalize σ 23 = tt23
            generalize σ 24 = tt24
            rw [show σ 25 = .bool false from hF 25 (by decide)]
            simp only [Act.put, List.setIfInBounds_toArray, List.set_cons_zero, List.set_cons_succ]
            have TG := hG
            clear hF hG hall
            clear σ
            have T9 := hide (T5.out.next TG)
            have HA := hide (HA.out.below TG)
            have HTT := hide (show TermsIn W9 (some ⟨tb, to_, none⟩) tn ts 20 ∧ ∀ t ∈ ts, t.L.length ≤ 30 from ⟨HTT.out.1.below TG, HTT.out.2⟩)
            have HI := hide (HI.out.below TG)
            have Q4 := hide (Q4.out.next TG)
            clear SOF TG
            go_wp2_with fail
            generalize W9 = W6 at *
            have SOF := hide (show ∀ W, Below W6.heap.size W6 W → (W.cell? ⟨w0.heap.size, 0, none⟩ = some (.slice A n c) ∧ W.cell? ⟨w0.heap.size, 1, none⟩ = some (.bool s) ∧ W.cell? ⟨w0.heap.size, 2, none⟩ = some (.slice B m d)) from fun W h => ⟨(Q4.out.next h).c0, (Q4.out.next h).c1, (Q4.out.next h).c2⟩)
            refine wp_drawn (by kernel_rfl) (by kernel_rfl) (by kernel_rfl) (fun w w' => Below w.heap.size w w') (fun j v w => match j with | 0 => v = .agg #[.slice A n c, .bool s, .slice B m d] | 1 => v = .slice (some ⟨vb, vo, none⟩) vn vc | 2 => v = .slice (some ⟨tb, to_, none⟩) tn tc | 3 => TRes w v (norm (putL vs (pairs ts) (norm L))) (K + putK vs (pairs ts) (norm L)) (20 + 20 + 1010000) | 4 => v = .agg #[.slice A n c, .bool s, .slice B m d] | 5 => v = .slice (some ⟨vb, vo, none⟩) vn vc | 6 => v = .slice (some ⟨tb, to_, none⟩) tn tc | 7 => TRes w v (norm (putL vs (pairs ts) (norm L))) (K + putK vs (pairs ts) (norm L)) (20 + 20 + 1000 + 20000 * 100) | 8 => v = .bool true | 9 => v = .bool true | 10 => v = .agg #[.slice A n c, .bool s, .slice B m d] | 11 => v = .int .i64 y | 12 => TRes w v (norm (moved (clamp y) (norm L))) K (20 + 1010000) | 13 => v = .agg #[.slice A n c, .bool s, .slice B m d] | 14 => v = .int .i64 y | 15 => TRes w v (norm (moved (clamp y) (norm L))) K (20 + L.length + L.length) | 16 => v = .bool true | 17 => v = .bool true | 18 => v = .bool true | _ => True) (fun _ _ w => Below W6.heap.size W6 w) ?_ (fun _ => bl_drewN W6 1) ?_ ?_
            · intro j v w w' hT h
              match j, h with
              | 0, h => exact h
              | 1, h => exact h
              | 2, h => exact h
              | 3, h => exact h.below hT
              | 4, h => exact h
              | 5, h => exact h
              | 6, h => exact h
              | 7, h => exact h.below hT
              | 8, h => exact h
              | 9, h => exact h
              | 10, h => exact h
              | 11, h => exact h
              | 12, h => exact h.below hT
              | 13, h => exact h
              | 14, h => exact h
              | 15, h => exact h.below hT
              | 16, h => exact h
              | 17, h => exact h
              | 18, h => exact h
              | j + 19, h => trivial
            · refine ⟨?_, ?_, ?_, ?_, ?_, ?_, ?_, ?_, ?_, ?_, ?_, ?_, ?_, ?_, ?_, ?_, ?_, ?_, ?_, trivial⟩
              · intro listed σ w a hin hout hl hc hp hG hF
                refine Guarded.none rfl ?_
                have e4 : a.tmps.getD 4 undef = .pointer (some ⟨w0.heap.size, 0, none⟩) := hout 4 (outB_spec (by kernel_rfl))
                have CC := SOF.out w hG; obtain ⟨C0, C1, C2⟩ := CC
                refine Does.val (.agg #[.slice A n c, .bool s, .slice B m d]) (w' := w) ?_ ⟨Below.refl _ _, rfl, hG⟩
                go_simp
              · intro listed σ w a hin hout hl hc hp hG hF
                refine Guarded.none rfl ?_
                have e1 : a.tmps.getD 1 undef = .slice (some ⟨vb, vo, none⟩) vn vc := hout 1 (outB_spec (by kernel_rfl))
                refine Does.val (.slice (some ⟨vb, vo, none⟩) vn vc) (w' := w) ?_ ⟨Below.refl _ _, rfl, hG⟩
                simp only [Array.getD_eq_getD_getElem?] at e1
                go_simp
              · intro listed σ w a hin hout hl hc hp hG hF
                refine Guarded.none rfl ?_
                have e2 : a.tmps.getD 2 undef = .slice (some ⟨tb, to_, none⟩) tn tc := hout 2 (outB_spec (by kernel_rfl))
                refine Does.val (.slice (some ⟨tb, to_, none⟩) tn tc) (w' := w) ?_ ⟨Below.refl _ _, rfl, hG⟩
                simp only [Array.getD_eq_getD_getElem?] at e2
                go_simp
              · intro listed σ w a hin hout hl hc hp hG hF
                refine Guarded.none rfl ?_
                have e56 : a.tmps.getD 56 undef = .agg #[.slice A n c, .bool s, .slice B m d] := (hin 0 56 rfl (hp ⟨0, .data⟩ (by simp) rfl)).trans (hF 0 (hp ⟨0, .data⟩ (by simp) rfl))
                have e57 : a.tmps.getD 57 undef = .slice (some ⟨vb, vo, none⟩) vn vc := (hin 1 57 rfl (hp ⟨1, .data⟩ (by simp) rfl)).trans (hF 1 (hp ⟨1, .data⟩ (by simp) rfl))
                have e58 : a.tmps.getD 58 undef = .slice (some ⟨tb, to_, none⟩) tn tc := (hin 2 58 rfl (hp ⟨2, .data⟩ (by simp) rfl)).trans (hF 2 (hp ⟨2, .data⟩ (by simp) rfl))
                refine Does.call ?_ (tputAll_any _ L K 20 (some ⟨vb, vo, none⟩) vn vc vs (some ⟨tb, to_, none⟩) tn tc ts 20 w (HA.out.below hG) (HI.out.below hG) (by omega) HVR.out (HTT.out.1.below hG) (by omega) (fun t ht => by have := HTT.out.2 t ht; omega) (by have := HL.out; omega) (fun p hp => (HRG.out p hp).2) (by decide) (by decide)) ?_
                · go_simp
                · rintro e w' ⟨v, rfl, z, hb⟩
                  exact ⟨_, rfl, hb, z, hG.next hb⟩
              · intro listed σ w a hin hout hl hc hp hG hF
                refine Guarded.none rfl ?_
                have e4 : a.tmps.getD 4 undef = .pointer (some ⟨w0.heap.size, 0, none⟩) := hout 4 (outB_spec (by kernel_rfl))
                have CC := SOF.out w hG; obtain ⟨C0, C1, C2⟩ := CC
                refine Does.val (.agg #[.slice A n c, .bool s, .slice B m d]) (w' := w) ?_ ⟨Below.refl _ _, rfl, hG⟩
                go_simp
              · intro listed σ w a hin hout hl hc hp hG hF
                refine Guarded.none rfl ?_
                have e1 : a.tmps.getD 1 undef = .slice (some ⟨vb, vo, none⟩) vn vc := hout 1 (outB_spec (by kernel_rfl))
                refine Does.val (.slice (some ⟨vb, vo, none⟩) vn vc) (w' := w) ?_ ⟨Below.refl _ _, rfl, hG⟩
                simp only [Array.getD_eq_getD_getElem?] at e1
                go_simp
              · intro listed σ w a hin hout hl hc hp hG hF
                refine Guarded.none rfl ?_
                have e2 : a.tmps.getD 2 undef = .slice (some ⟨tb, to_, none⟩) tn tc := hout 2 (outB_spec (by kernel_rfl))
                refine Does.val (.slice (some ⟨tb, to_, none⟩) tn tc) (w' := w) ?_ ⟨Below.refl _ _, rfl, hG⟩
                simp only [Array.getD_eq_getD_getElem?] at e2
                go_simp
              · intro listed σ w a hin hout hl hc hp hG hF
                refine Guarded.none rfl ?_
                have e60 : a.tmps.getD 60 undef = .agg #[.slice A n c, .bool s, .slice B m d] := (hin 4 60 rfl (hp ⟨4, .data⟩ (by simp) rfl)).trans (hF 4 (hp ⟨4, .data⟩ (by simp) rfl))
                have e61 : a.tmps.getD 61 undef = .slice (some ⟨vb, vo, none⟩) vn vc := (hin 5 61 rfl (hp ⟨5, .data⟩ (by simp) rfl)).trans (hF 5 (hp ⟨5, .data⟩ (by simp) rfl))
                have e62 : a.tmps.getD 62 undef = .slice (some ⟨tb, to_, none⟩) tn tc := (hin 6 62 rfl (hp ⟨6, .data⟩ (by simp) rfl)).trans (hF 6 (hp ⟨6, .data⟩ (by simp) rfl))
                refine Does.call ?_ (rputAll_any _ L K 20 (some ⟨vb, vo, none⟩) vn vc vs (some ⟨tb, to_, none⟩) tn tc ts 20 w (HA.out.below hG) (HI.out.below hG) (by omega) (HTT.out.1.below hG) (by omega) (fun t ht => by have := HTT.out.2 t ht; omega) (by have := HL.out; omega) (by decide) (by decide)) ?_
                · go_simp
                · rintro e w' ⟨v, rfl, z, hb⟩
                  exact ⟨_, rfl, hb, z, hG.next hb⟩
              · intro listed σ w a hin hout hl hc hp hG hF
                refine Guarded.none rfl ?_
                have e59 := hin 3 59 rfl (hp ⟨3, .data⟩ (by simp) rfl)
                have z3 := hF 3 (hp ⟨3, .data⟩ (by simp) rfl)
                have e63 := hin 7 63 rfl (hp ⟨7, .data⟩ (by simp) rfl)
                have z7 := hF 7 (hp ⟨7, .data⟩ (by simp) rfl)
                refine Does.call ?_ (lsame_put _ _ (putL vs (pairs ts) (norm L)) (K + putK vs (pairs ts) (norm L)) (20 + 20 + 1010000) (20 + 20 + 1000 + 20000 * 100) w z3 z7 HQA.out (by decide)) ?_
                · go_simp
                · rintro e w' ⟨rfl, hb⟩
                  exact ⟨_, rfl, hb, rfl, hG.next hb⟩
              · intro listed σ w a hin hout hl hc hp hG hF
                refine Guarded.none rfl ?_
                have e64 : a.tmps.getD 64 undef = .bool true := (hin 8 64 rfl (hp ⟨8, .data⟩ (by simp) rfl)).trans (hF 8 (hp ⟨8, .data⟩ (by simp) rfl))
                refine Does.val (.bool true) (w' := w) ?_ ⟨Below.refl _ _, rfl, hG⟩
                simp only [Array.getD_eq_getD_getElem?] at e64
                go_simp
              · intro listed σ w a hin hout hl hc hp hG hF
                refine Guarded.some (d := 65) (b := true) rfl rfl ((hin 9 65 rfl (hp ⟨9, .guard⟩ (by simp) rfl)).trans (hF 9 (hp ⟨9, .guard⟩ (by simp) rfl))) ?_
                refine Or.inl ⟨rfl, ?_⟩
                have e4 : a.tmps.getD 4 undef = .pointer (some ⟨w0.heap.size, 0, none⟩) := hout 4 (outB_spec (by kernel_rfl))
                have CC := SOF.out w hG; obtain ⟨C0, C1, C2⟩ := CC
                refine Does.val (.agg #[.slice A n c, .bool s, .slice B m d]) (w' := w) ?_ ⟨Below.refl _ _, rfl, hG⟩
                go_simp
              · intro listed σ w a hin hout hl hc hp hG hF
                refine Guarded.some (d := 65) (b := true) rfl rfl ((hin 9 65 rfl (hp ⟨9, .guard⟩ (by simp) rfl)).trans (hF 9 (hp ⟨9, .guard⟩ (by simp) rfl))) ?_
                refine Or.inl ⟨rfl, ?_⟩
                have e3 : a.tmps.getD 3 undef = .int .i64 y := hout 3 (outB_spec (by kernel_rfl))
                refine Does.val (.int .i64 y) (w' := w) ?_ ⟨Below.refl _ _, rfl, hG⟩
                simp only [Array.getD_eq_getD_getElem?] at e3
                go_simp
              · intro listed σ w a hin hout hl hc hp hG hF
                refine Guarded.some (d := 65) (b := true) rfl rfl ((hin 9 65 rfl (hp ⟨9, .guard⟩ (by simp) rfl)).trans (hF 9 (hp ⟨9, .guard⟩ (by simp) rfl))) ?_
                refine Or.inl ⟨rfl, ?_⟩
                have e66 : a.tmps.getD 66 undef = .agg #[.slice A n c, .bool s, .slice B m d] := (hin 10 66 rfl (hp ⟨10, .data⟩ (by simp) rfl)).trans (hF 10 (hp ⟨10, .data⟩ (by simp) rfl))
                have e67 : a.tmps.getD 67 undef = .int .i64 y := (hin 11 67 rfl (hp ⟨11, .data⟩ (by simp) rfl)).trans (hF 11 (hp ⟨11, .data⟩ (by simp) rfl))
                refine Does.call ?_ (tmove_any _ L K y 20 w (HA.out.below hG) hy1 hy2 (by have := HL.out; omega) (fun p hp => (HRG.out p hp).2) (by decide)) ?_
                · go_simp
                · rintro e w' ⟨v, rfl, z, hb⟩
                  exact ⟨_, rfl, hb, z, hG.next hb⟩
              · intro listed σ w a hin hout hl hc hp hG hF
                refine Guarded.some (d := 65) (b := true) rfl rfl ((hin 9 65 rfl (hp ⟨9, .guard⟩ (by simp) rfl)).trans (hF 9 (hp ⟨9, .guard⟩ (by simp) rfl))) ?_
                refine Or.inl ⟨rfl, ?_⟩
                have e4 : a.tmps.getD 4 undef = .pointer (some ⟨w0.heap.size, 0, none⟩) := hout 4 (outB_spec (by kernel_rfl))
                have CC := SOF.out w hG; obtain ⟨C0, C1, C2⟩ := CC
                refine Does.val (.agg #[.slice A n c, .bool s, .slice B m d]) (w' := w) ?_ ⟨Below.refl _ _, rfl, hG⟩
                go_simp
              · intro listed σ w a hin hout hl hc hp hG hF
                refine Guarded.some (d := 65) (b := true) rfl rfl ((hin 9 65 rfl (hp ⟨9, .guard⟩ (by simp) rfl)).trans (hF 9 (hp ⟨9, .guard⟩ (by simp) rfl))) ?_
                refine Or.inl ⟨rfl, ?_⟩
                have e3 : a.tmps.getD 3 undef = .int .i64 y := hout 3 (outB_spec (by kernel_rfl))
                refine Does.val (.int .i64 y) (w' := w) ?_ ⟨Below.refl _ _, rfl, hG⟩
                simp only [Array.getD_eq_getD_getElem?] at e3
                go_simp
              · intro listed σ w a hin hout hl hc hp hG hF
                refine Guarded.some (d := 65) (b := true) rfl rfl ((hin 9 65 rfl (hp ⟨9, .guard⟩ (by simp) rfl)).trans (hF 9 (hp ⟨9, .guard⟩ (by simp) rfl))) ?_
                refine Or.inl ⟨rfl, ?_⟩
                have e69 : a.tmps.getD 69 undef = .agg #[.slice A n c, .bool s, .slice B m d] := (hin 13 69 rfl (hp ⟨13, .data⟩ (by simp) rfl)).trans (hF 13 (hp ⟨13, .data⟩ (by simp) rfl))
                have e70 : a.tmps.getD 70 undef = .int .i64 y := (hin 14 70 rfl (hp ⟨14, .data⟩ (by simp) rfl)).trans (hF 14 (hp ⟨14, .data⟩ (by simp) rfl))
                refine Does.call ?_ (rmove_any _ L K y 20 w (HA.out.below hG) (by have := HL.out; omega) (fun p hp => (HRG.out p hp).2) (by decide)) ?_
                · go_simp
                · rintro e w' ⟨v, rfl, z, hb⟩
                  exact ⟨_, rfl, hb, z, hG.next hb⟩
              · intro listed σ w a hin hout hl hc hp hG hF
                refine Guarded.some (d := 65) (b := true) rfl rfl ((hin 9 65 rfl (hp ⟨9, .guard⟩ (by simp) rfl)).trans (hF 9 (hp ⟨9, .guard⟩ (by simp) rfl))) ?_
                refine Or.inl ⟨rfl, ?_⟩
                have e68 := hin 12 68 rfl (hp ⟨12, .data⟩ (by simp) rfl)
                have z12 := hF 12 (hp ⟨12, .data⟩ (by simp) rfl)
                have e71 := hin 15 71 rfl (hp ⟨15, .data⟩ (by simp) rfl)
                have z15 := hF 15 (hp ⟨15, .data⟩ (by simp) rfl)
                refine Does.call ?_ (lsame_put _ _ (moved (clamp y) (norm L)) K (20 + 1010000) (20 + L.length + L.length) w z12 z15 HML.out (by decide)) ?_
                · go_simp
                · rintro e w' ⟨rfl, hb⟩
                  exact ⟨_, rfl, hb, rfl, hG.next hb⟩
              · intro listed σ w a hin hout hl hc hp hG hF
                refine Guarded.none rfl ?_
                have e65 : a.tmps.getD 65 undef = .bool true := (hin 9 65 rfl (hp ⟨9, .data⟩ (by simp) rfl)).trans (hF 9 (hp ⟨9, .data⟩ (by simp) rfl))
                have e72 : a.tmps.getD 72 undef = .bool true := (hin 16 72 rfl (hp ⟨16, .data⟩ (by simp) rfl)).trans (hF 16 (hp ⟨16, .data⟩ (by simp) rfl))
                refine Does.val (.bool true) (w' := w) ?_ ⟨Below.refl _ _, rfl, hG⟩
                simp only [Array.getD_eq_getD_getElem?] at e65 e72
                go_simp
              · intro listed σ w a hin hout hl hc hp hG hF
                refine Guarded.none rfl ?_
                have e73 : a.tmps.getD 73 undef = .bool true := (hin 17 73 rfl (hp ⟨17, .data⟩ (by simp) rfl)).trans (hF 17 (hp ⟨17, .data⟩ (by simp) rfl))
                refine Does.val (.bool true) (w' := w) ?_ ⟨Below.refl _ _, rfl, hG⟩
                simp only [Array.getD_eq_getD_getElem?] at e73
                go_simp
            · intro listed σ W9 hall hG hF
              rw [show mid _ σ listed _ = (Act.put (Act.put (Act.put (Act.put (Act.put (Act.put (Act.put (Act.put (Act.put (Act.put (Act.put (Act.put (Act.put (Act.put (Act.put (Act.put (Act.put (Act.put (Act.put _ (some 56) (σ 0)) (some 57) (σ 1)) (some 58) (σ 2)) (some 59) (σ 3)) (some 60) (σ 4)) (some 61) (σ 5)) (some 62) (σ 6)) (some 63) (σ 7)) (some 64) (σ 8)) (some 65) (σ 9)) (some 66) (σ 10)) (some 67) (σ 11)) (some 68) (σ 12)) (some 69) (σ 13)) (some 70) (σ 14)) (some 71) (σ 15)) (some 72) (σ 16)) (some 73) (σ 17)) (some 8) (σ 18)) from (mid_all hall).trans rfl]
              generalize σ 0 = tt0
              generalize σ 1 = tt1
              generalize σ 2 = tt2
              generalize σ 3 = tt3
              generalize σ 4 = tt4
              generalize σ 5 = tt5
              generalize σ 6 = tt6
              generalize σ 7 = tt7
              generalize σ 8 = tt8
              generalize σ 9 = tt9
              generalize σ 10 = tt10
              generalize σ 11 = tt11
              generalize σ 12 = tt12
              generalize σ 13 = tt13
              generalize σ 14 = tt14
              generalize σ 15 = tt15
              generalize σ 16 = tt16
              generalize σ 17 = tt17
              rw [show σ 18 = .bool true from hF 18 (by decide)]
              simp only [Act.put, List.setIfInBounds_toArray, List.set_cons_zero, List.set_cons_succ]
              have TG := hG
              clear hF hG hall
              clear σ
              go_wp2_with fail
              go_ret
              exact ⟨rfl, T9.out.next TG⟩
        · have ht1 : ¬ (0 : Int) < tn := ht0
          have SOF := hide (show ∀ W, Below w4.heap.size w4 W → (W.cell? ⟨w0.heap.size, 0, none⟩ = some (.slice A n c) ∧ W.cell? ⟨w0.heap.size, 1, none⟩ = some (.bool s) ∧ W.cell? ⟨w0.heap.size, 2, none⟩ = some (.slice B m d)) from fun W h => ⟨(Q4.out.next h).c0, (Q4.out.next h).c1, (Q4.out.next h).c2⟩)
          go_wp2_with fail
          refine wp_drawn (by kernel_rfl) (by kernel_rfl) (by kernel_rfl) (fun w w' => Below w.heap.size w w') (fun j v w => match j with | 0 => v = .slice VA vn vc | 1 => v = .int .i64 vn | 2 => v = .bool true | 3 => v = .bool true | 4 => v = .slice TA tn tc | 5 => v = .int .i64 tn | 6 => v = .bool false | 7 => v = .bool false | 8 => v = .bool false | 9 => v = undef | 10 => v = undef | 11 => v = undef | 12 => v = undef | 13 => v = undef | 14 => v = undef | 15 => v = undef | 16 => v = undef | 17 => v = undef | 18 => v = undef | 19 => v = undef | 20 => v = undef | 21 => v = undef | 22 => v = undef | 23 => v = undef | 24 => v = undef | 25 => v = .bool false | _ => True) (fun _ _ w => Below w4.heap.size w4 w) ?_ (fun _ => bl_drewN w4 1) ?_ ?_
          · intro j v w w' hT h
            match j, h with
            | 0, h => exact h
            | 1, h => exact h
            | 2, h => exact h
            | 3, h => exact h
            | 4, h => exact h
            | 5, h => exact h
            | 6, h => exact h
            | 7, h => exact h
            | 8, h => exact h
            | 9, h => exact h
            | 10, h => exact h
            | 11, h => exact h
            | 12, h => exact h
            | 13, h => exact h
            | 14, h => exact h
            | 15, h => exact h
            | 16, h => exact h
            | 17, h => exact h
            | 18, h => exact h
            | 19, h => exact h
            | 20, h => exact h
            | 21, h => exact h
            | 22, h => exact h
            | 23, h => exact h
            | 24, h => exact h
            | 25, h => exact h
            | j + 26, h => trivial
          · refine ⟨?_, ?_, ?_, ?_, ?_, ?_, ?_, ?_, ?_, ?_, ?_, ?_, ?_, ?_, ?_, ?_, ?_, ?_, ?_, ?_, ?_, ?_, ?_, ?_, ?_, ?_, trivial⟩
            · intro listed σ w a hin hout hl hc hp hG hF
              refine Guarded.none rfl ?_
              have e1 : a.tmps.getD 1 undef = .slice VA vn vc := hout 1 (outB_spec (by kernel_rfl))
              refine Does.val (.slice VA vn vc) (w' := w) ?_ ⟨Below.refl _ _, rfl, hG⟩
              simp only [Array.getD_eq_getD_getElem?] at e1
              go_simp
            · intro listed σ w a hin hout hl hc hp hG hF
              refine Guarded.none rfl ?_
              have e30 : a.tmps.getD 30 undef = .slice VA vn vc := (hin 0 30 rfl (hp ⟨0, .data⟩ (by simp) rfl)).trans (hF 0 (hp ⟨0, .data⟩ (by simp) rfl))
              refine Does.val (.int .i64 vn) (w' := w) ?_ ⟨Below.refl _ _, rfl, hG⟩
              simp only [Array.getD_eq_getD_getElem?] at e30
              go_simp
            · intro listed σ w a hin hout hl hc hp hG hF
              refine Guarded.none rfl ?_
              have e31 : a.tmps.getD 31 undef = .int .i64 vn := (hin 1 31 rfl (hp ⟨1, .data⟩ (by simp) rfl)).trans (hF 1 (hp ⟨1, .data⟩ (by simp) rfl))
              refine Does.val (.bool true) (w' := w) ?_ ⟨Below.refl _ _, rfl, hG⟩
              simp only [Array.getD_eq_getD_getElem?] at e31
              go_simp
              omega
            · intro listed σ w a hin hout hl hc hp hG hF
              refine Guarded.none rfl ?_
              have e32 : a.tmps.getD 32 undef = .bool true := (hin 2 32 rfl (hp ⟨2, .data⟩ (by simp) rfl)).trans (hF 2 (hp ⟨2, .data⟩ (by simp) rfl))
              refine Does.val (.bool true) (w' := w) ?_ ⟨Below.refl _ _, rfl, hG⟩
              simp only [Array.getD_eq_getD_getElem?] at e32
              go_simp
            · intro listed σ w a hin hout hl hc hp hG hF
              refine Guarded.some (d := 33) (b := true) rfl rfl ((hin 3 33 rfl (hp ⟨3, .guard⟩ (by simp) rfl)).trans (hF 3 (hp ⟨3, .guard⟩ (by simp) rfl))) ?_
              refine Or.inl ⟨rfl, ?_⟩
              have e2 : a.tmps.getD 2 undef = .slice TA tn tc := hout 2 (outB_spec (by kernel_rfl))
              refine Does.val (.slice TA tn tc) (w' := w) ?_ ⟨Below.refl _ _, rfl, hG⟩
              simp only [Array.getD_eq_getD_getElem?] at e2
              go_simp
            · intro listed σ w a hin hout hl hc hp hG hF
              refine Guarded.some (d := 33) (b := true) rfl rfl ((hin 3 33 rfl (hp ⟨3, .guard⟩ (by simp) rfl)).trans (hF 3 (hp ⟨3, .guard⟩ (by simp) rfl))) ?_
              refine Or.inl ⟨rfl, ?_⟩
              have e34 : a.tmps.getD 34 undef = .slice TA tn tc := (hin 4 34 rfl (hp ⟨4, .data⟩ (by simp) rfl)).trans (hF 4 (hp ⟨4, .data⟩ (by simp) rfl))
              refine Does.val (.int .i64 tn) (w' := w) ?_ ⟨Below.refl _ _, rfl, hG⟩
              simp only [Array.getD_eq_getD_getElem?] at e34
              go_simp
            · intro listed σ w a hin hout hl hc hp hG hF
              refine Guarded.some (d := 33) (b := true) rfl rfl ((hin 3 33 rfl (hp ⟨3, .guard⟩ (by simp) rfl)).trans (hF 3 (hp ⟨3, .guard⟩ (by simp) rfl))) ?_
              refine Or.inl ⟨rfl, ?_⟩
              have e35 : a.tmps.getD 35 undef = .int .i64 tn := (hin 5 35 rfl (hp ⟨5, .data⟩ (by simp) rfl)).trans (hF 5 (hp ⟨5, .data⟩ (by simp) rfl))
              refine Does.val (.bool false) (w' := w) ?_ ⟨Below.refl _ _, rfl, hG⟩
              simp only [Array.getD_eq_getD_getElem?] at e35
              go_simp
              omega
            · intro listed σ w a hin hout hl hc hp hG hF
              refine Guarded.none rfl ?_
              have e33 : a.tmps.getD 33 undef = .bool true := (hin 3 33 rfl (hp ⟨3, .data⟩ (by simp) rfl)).trans (hF 3 (hp ⟨3, .data⟩ (by simp) rfl))
              have e36 : a.tmps.getD 36 undef = .bool false := (hin 6 36 rfl (hp ⟨6, .data⟩ (by simp) rfl)).trans (hF 6 (hp ⟨6, .data⟩ (by simp) rfl))
              refine Does.val (.bool false) (w' := w) ?_ ⟨Below.refl _ _, rfl, hG⟩
              simp only [Array.getD_eq_getD_getElem?] at e33 e36
              go_simp
            · intro listed σ w a hin hout hl hc hp hG hF
              refine Guarded.none rfl ?_
              have e37 : a.tmps.getD 37 undef = .bool false := (hin 7 37 rfl (hp ⟨7, .data⟩ (by simp) rfl)).trans (hF 7 (hp ⟨7, .data⟩ (by simp) rfl))
              refine Does.val (.bool false) (w' := w) ?_ ⟨Below.refl _ _, rfl, hG⟩
              simp only [Array.getD_eq_getD_getElem?] at e37
              go_simp
            · intro listed σ w a hin hout hl hc hp hG hF
              refine Guarded.some (d := 38) (b := false) rfl rfl ((hin 8 38 rfl (hp ⟨8, .guard⟩ (by simp) rfl)).trans (hF 8 (hp ⟨8, .guard⟩ (by simp) rfl))) ?_
              exact Or.inr ⟨(fun h => by cases h), Below.refl _ _, rfl, hG⟩
            · intro listed σ w a hin hout hl hc hp hG hF
              refine Guarded.some (d := 38) (b := false) rfl rfl ((hin 8 38 rfl (hp ⟨8, .guard⟩ (by simp) rfl)).trans (hF 8 (hp ⟨8, .guard⟩ (by simp) rfl))) ?_
              exact Or.inr ⟨(fun h => by cases h), Below.refl _ _, rfl, hG⟩
            · intro listed σ w a hin hout hl hc hp hG hF
              refine Guarded.some (d := 38) (b := false) rfl rfl ((hin 8 38 rfl (hp ⟨8, .guard⟩ (by simp) rfl)).trans (hF 8 (hp ⟨8, .guard⟩ (by simp) rfl))) ?_
              exact Or.inr ⟨(fun h => by cases h), Below.refl _ _, rfl, hG⟩
            · intro listed σ w a hin hout hl hc hp hG hF
              refine Guarded.some (d := 38) (b := false) rfl rfl ((hin 8 38 rfl (hp ⟨8, .guard⟩ (by simp) rfl)).trans (hF 8 (hp ⟨8, .guard⟩ (by simp) rfl))) ?_
              exact Or.inr ⟨(fun h => by cases h), Below.refl _ _, rfl, hG⟩
            · intro listed σ w a hin hout hl hc hp hG hF
              refine Guarded.some (d := 38) (b := false) rfl rfl ((hin 8 38 rfl (hp ⟨8, .guard⟩ (by simp) rfl)).trans (hF 8 (hp ⟨8, .guard⟩ (by simp) rfl))) ?_
              exact Or.inr ⟨(fun h => by cases h), Below.refl _ _, rfl, hG⟩
            · intro listed σ w a hin hout hl hc hp hG hF
              refine Guarded.some (d := 38) (b := false) rfl rfl ((hin 8 38 rfl (hp ⟨8, .guard⟩ (by simp) rfl)).trans (hF 8 (hp ⟨8, .guard⟩ (by simp) rfl))) ?_
              exact Or.inr ⟨(fun h => by cases h), Below.refl _ _, rfl, hG⟩
            · intro listed σ w a hin hout hl hc hp hG hF
              refine Guarded.some (d := 38) (b := false) rfl rfl ((hin 8 38 rfl (hp ⟨8, .guard⟩ (by simp) rfl)).trans (hF 8 (hp ⟨8, .guard⟩ (by simp) rfl))) ?_
              exact Or.inr ⟨(fun h => by cases h), Below.refl _ _, rfl, hG⟩
            · intro listed σ w a hin hout hl hc hp hG hF
              refine Guarded.some (d := 38) (b := false) rfl rfl ((hin 8 38 rfl (hp ⟨8, .guard⟩ (by simp) rfl)).trans (hF 8 (hp ⟨8, .guard⟩ (by simp) rfl))) ?_
              exact Or.inr ⟨(fun h => by cases h), Below.refl _ _, rfl, hG⟩
            · intro listed σ w a hin hout hl hc hp hG hF
              refine Guarded.some (d := 38) (b := false) rfl rfl ((hin 8 38 rfl (hp ⟨8, .guard⟩ (by simp) rfl)).trans (hF 8 (hp ⟨8, .guard⟩ (by simp) rfl))) ?_
              exact Or.inr ⟨(fun h => by cases h), Below.refl _ _, rfl, hG⟩
            · intro listed σ w a hin hout hl hc hp hG hF
              refine Guarded.some (d := 38) (b := false) rfl rfl ((hin 8 38 rfl (hp ⟨8, .guard⟩ (by simp) rfl)).trans (hF 8 (hp ⟨8, .guard⟩ (by simp) rfl))) ?_
              exact Or.inr ⟨(fun h => by cases h), Below.refl _ _, rfl, hG⟩
            · intro listed σ w a hin hout hl hc hp hG hF
              refine Guarded.some (d := 38) (b := false) rfl rfl ((hin 8 38 rfl (hp ⟨8, .guard⟩ (by simp) rfl)).trans (hF 8 (hp ⟨8, .guard⟩ (by simp) rfl))) ?_
              exact Or.inr ⟨(fun h => by cases h), Below.refl _ _, rfl, hG⟩
            · intro listed σ w a hin hout hl hc hp hG hF
              refine Guarded.some (d := 38) (b := false) rfl rfl ((hin 8 38 rfl (hp ⟨8, .guard⟩ (by simp) rfl)).trans (hF 8 (hp ⟨8, .guard⟩ (by simp) rfl))) ?_
              exact Or.inr ⟨(fun h => by cases h), Below.refl _ _, rfl, hG⟩
            · intro listed σ w a hin hout hl hc hp hG hF
              refine Guarded.some (d := 38) (b := false) rfl rfl ((hin 8 38 rfl (hp ⟨8, .guard⟩ (by simp) rfl)).trans (hF 8 (hp ⟨8, .guard⟩ (by simp) rfl))) ?_
              exact Or.inr ⟨(fun h => by cases h), Below.refl _ _, rfl, hG⟩
            · intro listed σ w a hin hout hl hc hp hG hF
              refine Guarded.some (d := 38) (b := false) rfl rfl ((hin 8 38 rfl (hp ⟨8, .guard⟩ (by simp) rfl)).trans (hF 8 (hp ⟨8, .guard⟩ (by simp) rfl))) ?_
              exact Or.inr ⟨(fun h => by cases h), Below.refl _ _, rfl, hG⟩
            · intro listed σ w a hin hout hl hc hp hG hF
              refine Guarded.some (d := 38) (b := false) rfl rfl ((hin 8 38 rfl (hp ⟨8, .guard⟩ (by simp) rfl)).trans (hF 8 (hp ⟨8, .guard⟩ (by simp) rfl))) ?_
              exact Or.inr ⟨(fun h => by cases h), Below.refl _ _, rfl, hG⟩
            · intro listed σ w a hin hout hl hc hp hG hF
              refine Guarded.some (d := 38) (b := false) rfl rfl ((hin 8 38 rfl (hp ⟨8, .guard⟩ (by simp) rfl)).trans (hF 8 (hp ⟨8, .guard⟩ (by simp) rfl))) ?_
              exact Or.inr ⟨(fun h => by cases h), Below.refl _ _, rfl, hG⟩
            · intro listed σ w a hin hout hl hc hp hG hF
              refine Guarded.none rfl ?_
              have e38 : a.tmps.getD 38 undef = .bool false := (hin 8 38 rfl (hp ⟨8, .data⟩ (by simp) rfl)).trans (hF 8 (hp ⟨8, .data⟩ (by simp) rfl))
              have e54 : a.tmps.getD 54 undef = undef := (hin 24 54 rfl (hp ⟨24, .data⟩ (by simp) rfl)).trans (hF 24 (hp ⟨24, .data⟩ (by simp) rfl))
              refine Does.val (.bool false) (w' := w) ?_ ⟨Below.refl _ _, rfl, hG⟩
              simp only [Array.getD_eq_getD_getElem?] at e38 e54
              go_simp
          · intro listed σ W9 hall hG hF
            rw [show mid _ σ listed _ = (Act.put (Act.put (Act.put (Act.put (Act.put (Act.put (Act.put (Act.put (Act.put (Act.put (Act.put (Act.put (Act.put (Act.put (Act.put (Act.put (Act.put (Act.put (Act.put (Act.put (Act.put (Act.put (Act.put (Act.put (Act.put (Act.put _ (some 30) (σ 0)) (some 31) (σ 1)) (some 32) (σ 2)) (some 33) (σ 3)) (some 34) (σ 4)) (some 35) (σ 5)) (some 36) (σ 6)) (some 37) (σ 7)) (some 38) (σ 8)) (some 39) (σ 9)) (some 40) (σ 10)) (some 41) (σ 11)) (some 42) (σ 12)) (some 43) (σ 13)) (some 44) (σ 14)) (some 45) (σ 15)) (some 46) (σ 16)) (some 47) (σ 17)) (some 48) (σ 18)) (some 49) (σ 19)) (some 50) (σ 20)) (some 51) (σ 21)) (some 52) (σ 22)) (some 53) (σ 23)) (some 54) (σ 24)) (some 55) (σ 25)) from (mid_all hall).trans rfl]
            generalize σ 0 = tt0
            generalize σ 1 = tt1
            generalize σ 2 = tt2
            generalize σ 3 = tt3
            generalize σ 4 = tt4
            generalize σ 5 = tt5
            generalize σ 6 = tt6
            generalize σ 7 = tt7
            generalize σ 8 = tt8
            generalize σ 9 = tt9
            generalize σ 10 = tt10
            generalize σ 11 = tt11
            generalize σ 12 = tt12
            generalize σ 13 = tt13
            generalize σ 14 = tt14
            generalize σ 15 = tt15
            generalize σ 16 = tt16
            generalize σ 17 = tt17
            generalize σ 18 = tt18
            generalize σ 19 = tt19
            generalize σ 20 = tt20
            generalize σ 21 = tt21
            generalize σ 22 = tt22
            generalize σ 23 = tt23
            generalize σ 24 = tt24
            rw [show σ 25 = .bool false from hF 25 (by decide)]
            simp only [Act.put, List.setIfInBounds_toArray, List.set_cons_zero, List.set_cons_succ]
            have TG := hG
            clear hF hG hall
            clear σ
            have T9 := hide (T5.out.next TG)
            have HA := hide (HA.out.below TG)
            have HTT := hide (show TermsIn W9 TA tn ts 20 ∧ ∀ t ∈ ts, t.L.length ≤ 30 from ⟨HTT.out.1.below TG, HTT.out.2⟩)
            have HI := hide (HI.out.below TG)
            have Q4 := hide (Q4.out.next TG)
            clear SOF TG
            go_wp2_with fail
            generalize W9 = W6 at *
            have SOF := hide (show ∀ W, Below W6.heap.size W6 W → (W.cell? ⟨w0.heap.size, 0, none⟩ = some (.slice A n c) ∧ W.cell? ⟨w0.heap.size, 1, none⟩ = some (.bool s) ∧ W.cell? ⟨w0.heap.size, 2, none⟩ = some (.slice B m d)) from fun W h => ⟨(Q4.out.next h).c0, (Q4.out.next h).c1, (Q4.out.next h).c2⟩)
            refine wp_drawn (by kernel_rfl) (by kernel_rfl) (by kernel_rfl) (fun w w' => Below w.heap.size w w') (fun j v w => match j with | 0 => v = .agg #[.slice A n c, .bool s, .slice B m d] | 1 => v = .slice VA vn vc | 2 => v = .slice TA tn tc | 3 => TRes w v (norm (putL vs (pairs ts) (norm L))) (K + putK vs (pairs ts) (norm L)) (20 + 20 + 1010000) | 4 => v = .agg #[.slice A n c, .bool s, .slice B m d] | 5 => v = .slice VA vn vc | 6 => v = .slice TA tn tc | 7 => TRes w v (norm (putL vs (pairs ts) (norm L))) (K + putK vs (pairs ts) (norm L)) (20 + 20 + 1000 + 20000 * 100) | 8 => v = .bool true | 9 => v = .bool true | 10 => v = .agg #[.slice A n c, .bool s, .slice B m d] | 11 => v = .int .i64 y | 12 => TRes w v (norm (moved (clamp y) (norm L))) K (20 + 1010000) | 13 => v = .agg #[.slice A n c, .bool s, .slice B m d] | 14 => v = .int .i64 y | 15 => TRes w v (norm (moved (clamp y) (norm L))) K (20 + L.length + L.length) | 16 => v = .bool true | 17 => v = .bool true | 18 => v = .bool true | _ => True) (fun _ _ w => Below W6.heap.size W6 w) ?_ (fun _ => bl_drewN W6 1) ?_ ?_
            · intro j v w w' hT h
              match j, h with
              | 0, h => exact h
              | 1, h => exact h
              | 2, h => exact h
              | 3, h => exact h.below hT
              | 4, h => exact h
              | 5, h => exact h
              | 6, h => exact h
              | 7, h => exact h.below hT
              | 8, h => exact h
              | 9, h => exact h
              | 10, h => exact h
              | 11, h => exact h
              | 12, h => exact h.below hT
              | 13, h => exact h
              | 14, h => exact h
              | 15, h => exact h.below hT
              | 16, h => exact h
              | 17, h => exact h
              | 18, h => exact h
              | j + 19, h => trivial
            · refine ⟨?_, ?_, ?_, ?_, ?_, ?_, ?_, ?_, ?_, ?_, ?_, ?_, ?_, ?_, ?_, ?_, ?_, ?_, ?_, trivial⟩
              · intro listed σ w a hin hout hl hc hp hG hF
                refine Guarded.none rfl ?_
                have e4 : a.tmps.getD 4 undef = .pointer (some ⟨w0.heap.size, 0, none⟩) := hout 4 (outB_spec (by kernel_rfl))
                have CC := SOF.out w hG; obtain ⟨C0, C1, C2⟩ := CC
                refine Does.val (.agg #[.slice A n c, .bool s, .slice B m d]) (w' := w) ?_ ⟨Below.refl _ _, rfl, hG⟩
                go_simp
              · intro listed σ w a hin hout hl hc hp hG hF
                refine Guarded.none rfl ?_
                have e1 : a.tmps.getD 1 undef = .slice VA vn vc := hout 1 (outB_spec (by kernel_rfl))
                refine Does.val (.slice VA vn vc) (w' := w) ?_ ⟨Below.refl _ _, rfl, hG⟩
                simp only [Array.getD_eq_getD_getElem?] at e1
                go_simp
              · intro listed σ w a hin hout hl hc hp hG hF
                refine Guarded.none rfl ?_
                have e2 : a.tmps.getD 2 undef = .slice TA tn tc := hout 2 (outB_spec (by kernel_rfl))
                refine Does.val (.slice TA tn tc) (w' := w) ?_ ⟨Below.refl _ _, rfl, hG⟩
                simp only [Array.getD_eq_getD_getElem?] at e2
                go_simp
              · intro listed σ w a hin hout hl hc hp hG hF
                refine Guarded.none rfl ?_
                have e56 : a.tmps.getD 56 undef = .agg #[.slice A n c, .bool s, .slice B m d] := (hin 0 56 rfl (hp ⟨0, .data⟩ (by simp) rfl)).trans (hF 0 (hp ⟨0, .data⟩ (by simp) rfl))
                have e57 : a.tmps.getD 57 undef = .slice VA vn vc := (hin 1 57 rfl (hp ⟨1, .data⟩ (by simp) rfl)).trans (hF 1 (hp ⟨1, .data⟩ (by simp) rfl))
                have e58 : a.tmps.getD 58 undef = .slice TA tn tc := (hin 2 58 rfl (hp ⟨2, .data⟩ (by simp) rfl)).trans (hF 2 (hp ⟨2, .data⟩ (by simp) rfl))
                refine Does.call ?_ (tputAll_any _ L K 20 VA vn vc vs TA tn tc ts 20 w (HA.out.below hG) (HI.out.below hG) (by omega) HVR.out (HTT.out.1.below hG) (by omega) (fun t ht => by have := HTT.out.2 t ht; omega) (by have := HL.out; omega) (fun p hp => (HRG.out p hp).2) (by decide) (by decide)) ?_
                · go_simp
                · rintro e w' ⟨v, rfl, z, hb⟩
                  exact ⟨_, rfl, hb, z, hG.next hb⟩
              · intro listed σ w a hin hout hl hc hp hG hF
                refine Guarded.none rfl ?_
                have e4 : a.tmps.getD 4 undef = .pointer (some ⟨w0.heap.size, 0, none⟩) := hout 4 (outB_spec (by kernel_rfl))
                have CC := SOF.out w hG; obtain ⟨C0, C1, C2⟩ := CC
                refine Does.val (.agg #[.slice A n c, .bool s, .slice B m d]) (w' := w) ?_ ⟨Below.refl _ _, rfl, hG⟩
                go_simp
              · intro listed σ w a hin hout hl hc hp hG hF
                refine Guarded.none rfl ?_
                have e1 : a.tmps.getD 1 undef = .slice VA vn vc := hout 1 (outB_spec (by kernel_rfl))
                refine Does.val (.slice VA vn vc) (w' := w) ?_ ⟨Below.refl _ _, rfl, hG⟩
                simp only [Array.getD_eq_getD_getElem?] at e1
                go_simp
              · intro listed σ w a hin hout hl hc hp hG hF
                refine Guarded.none rfl ?_
                have e2 : a.tmps.getD 2 undef = .slice TA tn tc := hout 2 (outB_spec (by kernel_rfl))
                refine Does.val (.slice TA tn tc) (w' := w) ?_ ⟨Below.refl _ _, rfl, hG⟩
                simp only [Array.getD_eq_getD_getElem?] at e2
                go_simp
              · intro listed σ w a hin hout hl hc hp hG hF
                refine Guarded.none rfl ?_
                have e60 : a.tmps.getD 60 undef = .agg #[.slice A n c, .bool s, .slice B m d] := (hin 4 60 rfl (hp ⟨4, .data⟩ (by simp) rfl)).trans (hF 4 (hp ⟨4, .data⟩ (by simp) rfl))
                have e61 : a.tmps.getD 61 undef = .slice VA vn vc := (hin 5 61 rfl (hp ⟨5, .data⟩ (by simp) rfl)).trans (hF 5 (hp ⟨5, .data⟩ (by simp) rfl))
                have e62 : a.tmps.getD 62 undef = .slice TA tn tc := (hin 6 62 rfl (hp ⟨6, .data⟩ (by simp) rfl)).trans (hF 6 (hp ⟨6, .data⟩ (by simp) rfl))
                refine Does.call ?_ (rputAll_any _ L K 20 VA vn vc vs TA tn tc ts 20 w (HA.out.below hG) (HI.out.below hG) (by omega) (HTT.out.1.below hG) (by omega) (fun t ht => by have := HTT.out.2 t ht; omega) (by have := HL.out; omega) (by decide) (by decide)) ?_
                · go_simp
                · rintro e w' ⟨v, rfl, z, hb⟩
                  exact ⟨_, rfl, hb, z, hG.next hb⟩
              · intro listed σ w a hin hout hl hc hp hG hF
                refine Guarded.none rfl ?_
                have e59 := hin 3 59 rfl (hp ⟨3, .data⟩ (by simp) rfl)
                have z3 := hF 3 (hp ⟨3, .data⟩ (by simp) rfl)
                have e63 := hin 7 63 rfl (hp ⟨7, .data⟩ (by simp) rfl)
                have z7 := hF 7 (hp ⟨7, .data⟩ (by simp) rfl)
                refine Does.call ?_ (lsame_put _ _ (putL vs (pairs ts) (norm L)) (K + putK vs (pairs ts) (norm L)) (20 + 20 + 1010000) (20 + 20 + 1000 + 20000 * 100) w z3 z7 HQA.out (by decide)) ?_
                · go_simp
                · rintro e w' ⟨rfl, hb⟩
                  exact ⟨_, rfl, hb, rfl, hG.next hb⟩
              · intro listed σ w a hin hout hl hc hp hG hF
                refine Guarded.none rfl ?_
                have e64 : a.tmps.getD 64 undef = .bool true := (hin 8 64 rfl (hp ⟨8, .data⟩ (by simp) rfl)).trans (hF 8 (hp ⟨8, .data⟩ (by simp) rfl))
                refine Does.val (.bool true) (w' := w) ?_ ⟨Below.refl _ _, rfl, hG⟩
                simp only [Array.getD_eq_getD_getElem?] at e64
                go_simp
              · intro listed σ w a hin hout hl hc hp hG hF
                refine Guarded.some (d := 65) (b := true) rfl rfl ((hin 9 65 rfl (hp ⟨9, .guard⟩ (by simp) rfl)).trans (hF 9 (hp ⟨9, .guard⟩ (by simp) rfl))) ?_
                refine Or.inl ⟨rfl, ?_⟩
                have e4 : a.tmps.getD 4 undef = .pointer (some ⟨w0.heap.size, 0, none⟩) := hout 4 (outB_spec (by kernel_rfl))
                have CC := SOF.out w hG; obtain ⟨C0, C1, C2⟩ := CC
                refine Does.val (.agg #[.slice A n c, .bool s, .slice B m d]) (w' := w) ?_ ⟨Below.refl _ _, rfl, hG⟩
                go_simp
              · intro listed σ w a hin hout hl hc hp hG hF
                refine Guarded.some (d := 65) (b := true) rfl rfl ((hin 9 65 rfl (hp ⟨9, .guard⟩ (by simp) rfl)).trans (hF 9 (hp ⟨9, .guard⟩ (by simp) rfl))) ?_
                refine Or.inl ⟨rfl, ?_⟩
                have e3 : a.tmps.getD 3 undef = .int .i64 y := hout 3 (outB_spec (by kernel_rfl))
                refine Does.val (.int .i64 y) (w' := w) ?_ ⟨Below.refl _ _, rfl, hG⟩
                simp only [Array.getD_eq_getD_getElem?] at e3
                go_simp
              · intro listed σ w a hin hout hl hc hp hG hF
                refine Guarded.some (d := 65) (b := true) rfl rfl ((hin 9 65 rfl (hp ⟨9, .guard⟩ (by simp) rfl)).trans (hF 9 (hp ⟨9, .guard⟩ (by simp) rfl))) ?_
                refine Or.inl ⟨rfl, ?_⟩
                have e66 : a.tmps.getD 66 undef = .agg #[.slice A n c, .bool s, .slice B m d] := (hin 10 66 rfl (hp ⟨10, .data⟩ (by simp) rfl)).trans (hF 10 (hp ⟨10, .data⟩ (by simp) rfl))
                have e67 : a.tmps.getD 67 undef = .int .i64 y := (hin 11 67 rfl (hp ⟨11, .data⟩ (by simp) rfl)).trans (hF 11 (hp ⟨11, .data⟩ (by simp) rfl))
                refine Does.call ?_ (tmove_any _ L K y 20 w (HA.out.below hG) hy1 hy2 (by have := HL.out; omega) (fun p hp => (HRG.out p hp).2) (by decide)) ?_
                · go_simp
                · rintro e w' ⟨v, rfl, z, hb⟩
                  exact ⟨_, rfl, hb, z, hG.next hb⟩
              · intro listed σ w a hin hout hl hc hp hG hF
                refine Guarded.some (d := 65) (b := true) rfl rfl ((hin 9 65 rfl (hp ⟨9, .guard⟩ (by simp) rfl)).trans (hF 9 (hp ⟨9, .guard⟩ (by simp) rfl))) ?_
                refine Or.inl ⟨rfl, ?_⟩
                have e4 : a.tmps.getD 4 undef = .pointer (some ⟨w0.heap.size, 0, none⟩) := hout 4 (outB_spec (by kernel_rfl))
                have CC := SOF.out w hG; obtain ⟨C0, C1, C2⟩ := CC
                refine Does.val (.agg #[.slice A n c, .bool s, .slice B m d]) (w' := w) ?_ ⟨Below.refl _ _, rfl, hG⟩
                go_simp
              · intro listed σ w a hin hout hl hc hp hG hF
                refine Guarded.some (d := 65) (b := true) rfl rfl ((hin 9 65 rfl (hp ⟨9, .guard⟩ (by simp) rfl)).trans (hF 9 (hp ⟨9, .guard⟩ (by simp) rfl))) ?_
                refine Or.inl ⟨rfl, ?_⟩
                have e3 : a.tmps.getD 3 undef = .int .i64 y := hout 3 (outB_spec (by kernel_rfl))
                refine Does.val (.int .i64 y) (w' := w) ?_ ⟨Below.refl _ _, rfl, hG⟩
                simp only [Array.getD_eq_getD_getElem?] at e3
                go_simp
              · intro listed σ w a hin hout hl hc hp hG hF
                refine Guarded.some (d := 65) (b := true) rfl rfl ((hin 9 65 rfl (hp ⟨9, .guard⟩ (by simp) rfl)).trans (hF 9 (hp ⟨9, .guard⟩ (by simp) rfl))) ?_
                refine Or.inl ⟨rfl, ?_⟩
                have e69 : a.tmps.getD 69 undef = .agg #[.slice A n c, .bool s, .slice B m d] := (hin 13 69 rfl (hp ⟨13, .data⟩ (by simp) rfl)).trans (hF 13 (hp ⟨13, .data⟩ (by simp) rfl))
                have e70 : a.tmps.getD 70 undef = .int .i64 y := (hin 14 70 rfl (hp ⟨14, .data⟩ (by simp) rfl)).trans (hF 14 (hp ⟨14, .data⟩ (by simp) rfl))
                refine Does.call ?_ (rmove_any _ L K y 20 w (HA.out.below hG) (by have := HL.out; omega) (fun p hp => (HRG.out p hp).2) (by decide)) ?_
                · go_simp
                · rintro e w' ⟨v, rfl, z, hb⟩
                  exact ⟨_, rfl, hb, z, hG.next hb⟩
              · intro listed σ w a hin hout hl hc hp hG hF
                refine Guarded.some (d := 65) (b := true) rfl rfl ((hin 9 65 rfl (hp ⟨9, .guard⟩ (by simp) rfl)).trans (hF 9 (hp ⟨9, .guard⟩ (by simp) rfl))) ?_
                refine Or.inl ⟨rfl, ?_⟩
                have e68 := hin 12 68 rfl (hp ⟨12, .data⟩ (by simp) rfl)
                have z12 := hF 12 (hp ⟨12, .data⟩ (by simp) rfl)
                have e71 := hin 15 71 rfl (hp ⟨15, .data⟩ (by simp) rfl)
                have z15 := hF 15 (hp ⟨15, .data⟩ (by simp) rfl)
                refine Does.call ?_ (lsame_put _ _ (moved (clamp y) (norm L)) K (20 + 1010000) (20 + L.length + L.length) w z12 z15 HML.out (by decide)) ?_
                · go_simp
                · rintro e w' ⟨rfl, hb⟩
                  exact ⟨_, rfl, hb, rfl, hG.next hb⟩
              · intro listed σ w a hin hout hl hc hp hG hF
                refine Guarded.none rfl ?_
                have e65 : a.tmps.getD 65 undef = .bool true := (hin 9 65 rfl (hp ⟨9, .data⟩ (by simp) rfl)).trans (hF 9 (hp ⟨9, .data⟩ (by simp) rfl))
                have e72 : a.tmps.getD 72 undef = .bool true := (hin 16 72 rfl (hp ⟨16, .data⟩ (by simp) rfl)).trans (hF 16 (hp ⟨16, .data⟩ (by simp) rfl))
                refine Does.val (.bool true) (w' := w) ?_ ⟨Below.refl _ _, rfl, hG⟩
                simp only [Array.getD_eq_getD_getElem?] at e65 e72
                go_simp
              · intro listed σ w a hin hout hl hc hp hG hF
                refine Guarded.none rfl ?_
                have e73 : a.tmps.getD 73 undef = .bool true := (hin 17 73 rfl (hp ⟨17, .data⟩ (by simp) rfl)).trans (hF 17 (hp ⟨17, .data⟩ (by simp) rfl))
                refine Does.val (.bool true) (w' := w) ?_ ⟨Below.refl _ _, rfl, hG⟩
                simp only [Array.getD_eq_getD_getElem?] at e73
                go_simp
            · intro listed σ W9 hall hG hF
              rw [show mid _ σ listed _ = (Act.put (Act.put (Act.put (Act.put (Act.put (Act.put (Act.put (Act.put (Act.put (Act.put (Act.put (Act.put (Act.put (Act.put (Act.put (Act.put (Act.put (Act.put (Act.put _ (some 56) (σ 0)) (some 57) (σ 1)) (some 58) (σ 2)) (some 59) (σ 3)) (some 60) (σ 4)) (some 61) (σ 5)) (some 62) (σ 6)) (some 63) (σ 7)) (some 64) (σ 8)) (some 65) (σ 9)) (some 66) (σ 10)) (some 67) (σ 11)) (some 68) (σ 12)) (some 69) (σ 13)) (some 70) (σ 14)) (some 71) (σ 15)) (some 72) (σ 16)) (some 73) (σ 17)) (some 8) (σ 18)) from (mid_all hall).trans rfl]
              generalize σ 0 = tt0
              generalize σ 1 = tt1
              generalize σ 2 = tt2
              generalize σ 3 = tt3
              generalize σ 4 = tt4
              generalize σ 5 = tt5
              generalize σ 6 = tt6
              generalize σ 7 = tt7
              generalize σ 8 = tt8
              generalize σ 9 = tt9
              generalize σ 10 = tt10
              generalize σ 11 = tt11
              generalize σ 12 = tt12
              generalize σ 13 = tt13
              generalize σ 14 = tt14
              generalize σ 15 = tt15
              generalize σ 16 = tt16
              generalize σ 17 = tt17
              rw [show σ 18 = .bool true from hF 18 (by decide)]
              simp only [Act.put, List.setIfInBounds_toArray, List.set_cons_zero, List.set_cons_succ]
              have TG := hG
              clear hF hG hall
              clear σ
              go_wp2_with fail
              go_ret
              exact ⟨rfl, T9.out.next TG⟩
      · have SOF := hide (show ∀ W, Below w4.heap.size w4 W → (W.cell? ⟨w0.heap.size, 0, none⟩ = some (.slice A n c) ∧ W.cell? ⟨w0.heap.size, 1, none⟩ = some (.bool s) ∧ W.cell? ⟨w0.heap.size, 2, none⟩ = some (.slice B m d)) from fun W h => ⟨(Q4.out.next h).c0, (Q4.out.next h).c1, (Q4.out.next h).c2⟩)
        go_wp2_with fail
        refine wp_drawn (by kernel_rfl) (by kernel_rfl) (by kernel_rfl) (fun w w' => Below w.heap.size w w') (fun j v w => match j with | 0 => v = .slice VA vn vc | 1 => v = .int .i64 vn | 2 => v = .bool false | 3 => v = .bool false | 4 => v = undef | 5 => v = undef | 6 => v = undef | 7 => v = .bool false | 8 => v = .bool false | 9 => v = undef | 10 => v = undef | 11 => v = undef | 12 => v = undef | 13 => v = undef | 14 => v = undef | 15 => v = undef | 16 => v = undef | 17 => v = undef | 18 => v = undef | 19 => v = undef | 20 => v = undef | 21 => v = undef | 22 => v = undef | 23 => v = undef | 24 => v = undef | 25 => v = .bool false | _ => True) (fun _ _ w => Below w4.heap.size w4 w) ?_ (fun _ => bl_drewN w4 1) ?_ ?_
        · intro j v w w' hT h
          match j, h with
          | 0, h => exact h
          | 1, h => exact h
          | 2, h => exact h
          | 3, h => exact h
          | 4, h => exact h
          | 5, h => exact h
          | 6, h => exact h
          | 7, h => exact h
          | 8, h => exact h
          | 9, h => exact h
          | 10, h => exact h
          | 11, h => exact h
          | 12, h => exact h
          | 13, h => exact h
          | 14, h => exact h
          | 15, h => exact h
          | 16, h => exact h
          | 17, h => exact h
          | 18, h => exact h
          | 19, h => exact h
          | 20, h => exact h
          | 21, h => exact h
          | 22, h => exact h
          | 23, h => exact h
          | 24, h => exact h
          | 25, h => exact h
          | j + 26, h => trivial
        · refine ⟨?_, ?_, ?_, ?_, ?_, ?_, ?_, ?_, ?_, ?_, ?_, ?_, ?_, ?_, ?_, ?_, ?_, ?_, ?_, ?_, ?_, ?_, ?_, ?_, ?_, ?_, trivial⟩
          · intro listed σ w a hin hout hl hc hp hG hF
            refine Guarded.none rfl ?_
            have e1 : a.tmps.getD 1 undef = .slice VA vn vc := hout 1 (outB_spec (by kernel_rfl))
            refine Does.val (.slice VA vn vc) (w' := w) ?_ ⟨Below.refl _ _, rfl, hG⟩
            simp only [Array.getD_eq_getD_getElem?] at e1
            go_simp
          · intro listed σ w a hin hout hl hc hp hG hF
            refine Guarded.none rfl ?_
            have e30 : a.tmps.getD 30 undef = .slice VA vn vc := (hin 0 30 rfl (hp ⟨0, .data⟩ (by simp) rfl)).trans (hF 0 (hp ⟨0, .data⟩ (by simp) rfl))
            refine Does.val (.int .i64 vn) (w' := w) ?_ ⟨Below.refl _ _, rfl, hG⟩
            simp only [Array.getD_eq_getD_getElem?] at e30
            go_simp
          · intro listed σ w a hin hout hl hc hp hG hF
            refine Guarded.none rfl ?_
            have e31 : a.tmps.getD 31 undef = .int .i64 vn := (hin 1 31 rfl (hp ⟨1, .data⟩ (by simp) rfl)).trans (hF 1 (hp ⟨1, .data⟩ (by simp) rfl))
            refine Does.val (.bool false) (w' := w) ?_ ⟨Below.refl _ _, rfl, hG⟩
            simp only [Array.getD_eq_getD_getElem?] at e31
            go_simp
            omega
          · intro listed σ w a hin hout hl hc hp hG hF
            refine Guarded.none rfl ?_
            have e32 : a.tmps.getD 32 undef = .bool false := (hin 2 32 rfl (hp ⟨2, .data⟩ (by simp) rfl)).trans (hF 2 (hp ⟨2, .data⟩ (by simp) rfl))
            refine Does.val (.bool false) (w' := w) ?_ ⟨Below.refl _ _, rfl, hG⟩
            simp only [Array.getD_eq_getD_getElem?] at e32
            go_simp
          · intro listed σ w a hin hout hl hc hp hG hF
            refine Guarded.some (d := 33) (b := false) rfl rfl ((hin 3 33 rfl (hp ⟨3, .guard⟩ (by simp) rfl)).trans (hF 3 (hp ⟨3, .guard⟩ (by simp) rfl))) ?_
            exact Or.inr ⟨(fun h => by cases h), Below.refl _ _, rfl, hG⟩
          · intro listed σ w a hin hout hl hc hp hG hF
            refine Guarded.some (d := 33) (b := false) rfl rfl ((hin 3 33 rfl (hp ⟨3, .guard⟩ (by simp) rfl)).trans (hF 3 (hp ⟨3, .guard⟩ (by simp) rfl))) ?_
            exact Or.inr ⟨(fun h => by cases h), Below.refl _ _, rfl, hG⟩
          · intro listed σ w a hin hout hl hc hp hG hF
            refine Guarded.some (d := 33) (b := false) rfl rfl ((hin 3 33 rfl (hp ⟨3, .guard⟩ (by simp) rfl)).trans (hF 3 (hp ⟨3, .guard⟩ (by simp) rfl))) ?_
            exact Or.inr ⟨(fun h => by cases h), Below.refl _ _, rfl, hG⟩
          · intro listed σ w a hin hout hl hc hp hG hF
            refine Guarded.none rfl ?_
            have e33 : a.tmps.getD 33 undef = .bool false := (hin 3 33 rfl (hp ⟨3, .data⟩ (by simp) rfl)).trans (hF 3 (hp ⟨3, .data⟩ (by simp) rfl))
            have e36 : a.tmps.getD 36 undef = undef := (hin 6 36 rfl (hp ⟨6, .data⟩ (by simp) rfl)).trans (hF 6 (hp ⟨6, .data⟩ (by simp) rfl))
            refine Does.val (.bool false) (w' := w) ?_ ⟨Below.refl _ _, rfl, hG⟩
            simp only [Array.getD_eq_getD_getElem?] at e33 e36
            go_simp
          · intro listed σ w a hin hout hl hc hp hG hF
            refine Guarded.none rfl ?_
            have e37 : a.tmps.getD 37 undef = .bool false := (hin 7 37 rfl (hp ⟨7, .data⟩ (by simp) rfl)).trans (hF 7 (hp ⟨7, .data⟩ (by simp) rfl))
            refine Does.val (.bool false) (w' := w) ?_ ⟨Below.refl _ _, rfl, hG⟩
            simp only [Array.getD_eq_getD_getElem?] at e37
            go_simp
          · intro listed σ w a hin hout hl hc hp hG hF
            refine Guarded.some (d := 38) (b := false) rfl rfl ((hin 8 38 rfl (hp ⟨8, .guard⟩ (by simp) rfl)).trans (hF 8 (hp ⟨8, .guard⟩ (by simp) rfl))) ?_
            exact Or.inr ⟨(fun h => by cases h), Below.refl _ _, rfl, hG⟩
          · intro listed σ w a hin hout hl hc hp hG hF
            refine Guarded.some (d := 38) (b := false) rfl rfl ((hin 8 38 rfl (hp ⟨8, .guard⟩ (by simp) rfl)).trans (hF 8 (hp ⟨8, .guard⟩ (by simp) rfl))) ?_
            exact Or.inr ⟨(fun h => by cases h), Below.refl _ _, rfl, hG⟩
          · intro listed σ w a hin hout hl hc hp hG hF
            refine Guarded.some (d := 38) (b := false) rfl rfl ((hin 8 38 rfl (hp ⟨8, .guard⟩ (by simp) rfl)).trans (hF 8 (hp ⟨8, .guard⟩ (by simp) rfl))) ?_
            exact Or.inr ⟨(fun h => by cases h), Below.refl _ _, rfl, hG⟩
          · intro listed σ w a hin hout hl hc hp hG hF
            refine Guarded.some (d := 38) (b := false) rfl rfl ((hin 8 38 rfl (hp ⟨8, .guard⟩ (by simp) rfl)).trans (hF 8 (hp ⟨8, .guard⟩ (by simp) rfl))) ?_
            exact Or.inr ⟨(fun h => by cases h), Below.refl _ _, rfl, hG⟩
          · intro listed σ w a hin hout hl hc hp hG hF
            refine Guarded.some (d := 38) (b := false) rfl rfl ((hin 8 38 rfl (hp ⟨8, .guard⟩ (by simp) rfl)).trans (hF 8 (hp ⟨8, .guard⟩ (by simp) rfl))) ?_
            exact Or.inr ⟨(fun h => by cases h), Below.refl _ _, rfl, hG⟩
          · intro listed σ w a hin hout hl hc hp hG hF
            refine Guarded.some (d := 38) (b := false) rfl rfl ((hin 8 38 rfl (hp ⟨8, .guard⟩ (by simp) rfl)).trans (hF 8 (hp ⟨8, .guard⟩ (by simp) rfl))) ?_
            exact Or.inr ⟨(fun h => by cases h), Below.refl _ _, rfl, hG⟩
          · intro listed σ w a hin hout hl hc hp hG hF
            refine Guarded.some (d := 38) (b := false) rfl rfl ((hin 8 38 rfl (hp ⟨8, .guard⟩ (by simp) rfl)).trans (hF 8 (hp ⟨8, .guard⟩ (by simp) rfl))) ?_
            exact Or.inr ⟨(fun h => by cases h), Below.refl _ _, rfl, hG⟩
          · intro listed σ w a hin hout hl hc hp hG hF
            refine Guarded.some (d := 38) (b := false) rfl rfl ((hin 8 38 rfl (hp ⟨8, .guard⟩ (by simp) rfl)).trans (hF 8 (hp ⟨8, .guard⟩ (by simp) rfl))) ?_
            exact Or.inr ⟨(fun h => by cases h), Below.refl _ _, rfl, hG⟩
          · intro listed σ w a hin hout hl hc hp hG hF
            refine Guarded.some (d := 38) (b := false) rfl rfl ((hin 8 38 rfl (hp ⟨8, .guard⟩ (by simp) rfl)).trans (hF 8 (hp ⟨8, .guard⟩ (by simp) rfl))) ?_
            exact Or.inr ⟨(fun h => by cases h), Below.refl _ _, rfl, hG⟩
          · intro listed σ w a hin hout hl hc hp hG hF
            refine Guarded.some (d := 38) (b := false) rfl rfl ((hin 8 38 rfl (hp ⟨8, .guard⟩ (by simp) rfl)).trans (hF 8 (hp ⟨8, .guard⟩ (by simp) rfl))) ?_
            exact Or.inr ⟨(fun h => by cases h), Below.refl _ _, rfl, hG⟩
          · intro listed σ w a hin hout hl hc hp hG hF
            refine Guarded.some (d := 38) (b := false) rfl rfl ((hin 8 38 rfl (hp ⟨8, .guard⟩ (by simp) rfl)).trans (hF 8 (hp ⟨8, .guard⟩ (by simp) rfl))) ?_
            exact Or.inr ⟨(fun h => by cases h), Below.refl _ _, rfl, hG⟩
          · intro listed σ w a hin hout hl hc hp hG hF
            refine Guarded.some (d := 38) (b := false) rfl rfl ((hin 8 38 rfl (hp ⟨8, .guard⟩ (by simp) rfl)).trans (hF 8 (hp ⟨8, .guard⟩ (by simp) rfl))) ?_
            exact Or.inr ⟨(fun h => by cases h), Below.refl _ _, rfl, hG⟩
          · intro listed σ w a hin hout hl hc hp hG hF
            refine Guarded.some (d := 38) (b := false) rfl rfl ((hin 8 38 rfl (hp ⟨8, .guard⟩ (by simp) rfl)).trans (hF 8 (hp ⟨8, .guard⟩ (by simp) rfl))) ?_
            exact Or.inr ⟨(fun h => by cases h), Below.refl _ _, rfl, hG⟩
          · intro listed σ w a hin hout hl hc hp hG hF
            refine Guarded.some (d := 38) (b := false) rfl rfl ((hin 8 38 rfl (hp ⟨8, .guard⟩ (by simp) rfl)).trans (hF 8 (hp ⟨8, .guard⟩ (by simp) rfl))) ?_
            exact Or.inr ⟨(fun h => by cases h), Below.refl _ _, rfl, hG⟩
          · intro listed σ w a hin hout hl hc hp hG hF
            refine Guarded.some (d := 38) (b := false) rfl rfl ((hin 8 38 rfl (hp ⟨8, .guard⟩ (by simp) rfl)).trans (hF 8 (hp ⟨8, .guard⟩ (by simp) rfl))) ?_
            exact Or.inr ⟨(fun h => by cases h), Below.refl _ _, rfl, hG⟩
          · intro listed σ w a hin hout hl hc hp hG hF
            refine Guarded.some (d := 38) (b := false) rfl rfl ((hin 8 38 rfl (hp ⟨8, .guard⟩ (by simp) rfl)).trans (hF 8 (hp ⟨8, .guard⟩ (by simp) rfl))) ?_
            exact Or.inr ⟨(fun h => by cases h), Below.refl _ _, rfl, hG⟩
          · intro listed σ w a hin hout hl hc hp hG hF
            refine Guarded.none rfl ?_
            have e38 : a.tmps.getD 38 undef = .bool false := (hin 8 38 rfl (hp ⟨8, .data⟩ (by simp) rfl)).trans (hF 8 (hp ⟨8, .data⟩ (by simp) rfl))
            have e54 : a.tmps.getD 54 undef = undef := (hin 24 54 rfl (hp ⟨24, .data⟩ (by simp) rfl)).trans (hF 24 (hp ⟨24, .data⟩ (by simp) rfl))
            refine Does.val (.bool false) (w' := w) ?_ ⟨Below.refl _ _, rfl, hG⟩
            simp only [Array.getD_eq_getD_getElem?] at e38 e54
            go_simp
        · intro listed σ W9 hall hG hF
          rw [show mid _ σ listed _ = (Act.put (Act.put (Act.put (Act.put (Act.put (Act.put (Act.put (Act.put (Act.put (Act.put (Act.put (Act.put (Act.put (Act.put (Act.put (Act.put (Act.put (Act.put (Act.put (Act.put (Act.put (Act.put (Act.put (Act.put (Act.put (Act.put _ (some 30) (σ 0)) (some 31) (σ 1)) (some 32) (σ 2)) (some 33) (σ 3)) (some 34) (σ 4)) (some 35) (σ 5)) (some 36) (σ 6)) (some 37) (σ 7)) (some 38) (σ 8)) (some 39) (σ 9)) (some 40) (σ 10)) (some 41) (σ 11)) (some 42) (σ 12)) (some 43) (σ 13)) (some 44) (σ 14)) (some 45) (σ 15)) (some 46) (σ 16)) (some 47) (σ 17)) (some 48) (σ 18)) (some 49) (σ 19)) (some 50) (σ 20)) (some 51) (σ 21)) (some 52) (σ 22)) (some 53) (σ 23)) (some 54) (σ 24)) (some 55) (σ 25)) from (mid_all hall).trans rfl]
          generalize σ 0 = tt0
          generalize σ 1 = tt1
          generalize σ 2 = tt2
          generalize σ 3 = tt3
          generalize σ 4 = tt4
          generalize σ 5 = tt5
          generalize σ 6 = tt6
          generalize σ 7 = tt7
          generalize σ 8 = tt8
          generalize σ 9 = tt9
          generalize σ 10 = tt10
          generalize σ 11 = tt11
          generalize σ 12 = tt12
          generalize σ 13 = tt13
          generalize σ 14 = tt14
          generalize σ 15 = tt15
          generalize σ 16 = tt16
          generalize σ 17 = tt17
          generalize σ 18 = tt18
          generalize σ 19 = tt19
          generalize σ 20 = tt20
          generalize σ 21 = tt21
          generalize σ 22 = tt22
          generalize σ 23 = tt23
          generalize σ 24 = tt24
          rw [show σ 25 = .bool false from hF 25 (by decide)]
          simp only [Act.put, List.setIfInBounds_toArray, List.set_cons_zero, List.set_cons_succ]
          have TG := hG
          clear hF hG hall
          clear σ
          have T9 := hide (T5.out.next TG)
          have HA := hide (HA.out.below TG)
          have HTT := hide (show TermsIn W9 TA tn ts 20 ∧ ∀ t ∈ ts, t.L.length ≤ 30 from ⟨HTT.out.1.below TG, HTT.out.2⟩)
          have HI := hide (HI.out.below TG)
          have Q4 := hide (Q4.out.next TG)
          clear SOF TG
          go_wp2_with fail
          generalize W9 = W6 at *
          have SOF := hide (show ∀ W, Below W6.heap.size W6 W → (W.cell? ⟨w0.heap.size, 0, none⟩ = some (.slice A n c) ∧ W.cell? ⟨w0.heap.size, 1, none⟩ = some (.bool s) ∧ W.cell? ⟨w0.heap.size, 2, none⟩ = some (.slice B m d)) from fun W h => ⟨(Q4.out.next h).c0, (Q4.out.next h).c1, (Q4.out.next h).c2⟩)
          refine wp_drawn (by kernel_rfl) (by kernel_rfl) (by kernel_rfl) (fun w w' => Below w.heap.size w w') (fun j v w => match j with | 0 => v = .agg #[.slice A n c, .bool s, .slice B m d] | 1 => v = .slice VA vn vc | 2 => v = .slice TA tn tc | 3 => TRes w v (norm (putL vs (pairs ts) (norm L))) (K + putK vs (pairs ts) (norm L)) (20 + 20 + 1010000) | 4 => v = .agg #[.slice A n c, .bool s, .slice B m d] | 5 => v = .slice VA vn vc | 6 => v = .slice TA tn tc | 7 => TRes w v (norm (putL vs (pairs ts) (norm L))) (K + putK vs (pairs ts) (norm L)) (20 + 20 + 1000 + 20000 * 100) | 8 => v = .bool true | 9 => v = .bool true | 10 => v = .agg #[.slice A n c, .bool s, .slice B m d] | 11 => v = .int .i64 y | 12 => TRes w v (norm (moved (clamp y) (norm L))) K (20 + 1010000) | 13 => v = .agg #[.slice A n c, .bool s, .slice B m d] | 14 => v = .int .i64 y | 15 => TRes w v (norm (moved (clamp y) (norm L))) K (20 + L.length + L.length) | 16 => v = .bool true | 17 => v = .bool true | 18 => v = .bool true | _ => True) (fun _ _ w => Below W6.heap.size W6 w) ?_ (fun _ => bl_drewN W6 1) ?_ ?_
          · intro j v w w' hT h
            match j, h with
            | 0, h => exact h
            | 1, h => exact h
            | 2, h => exact h
            | 3, h => exact h.below hT
            | 4, h => exact h
            | 5, h => exact h
            | 6, h => exact h
            | 7, h => exact h.below hT
            | 8, h => exact h
            | 9, h => exact h
            | 10, h => exact h
            | 11, h => exact h
            | 12, h => exact h.below hT
            | 13, h => exact h
            | 14, h => exact h
            | 15, h => exact h.below hT
            | 16, h => exact h
            | 17, h => exact h
            | 18, h => exact h
            | j + 19, h => trivial
          · refine ⟨?_, ?_, ?_, ?_, ?_, ?_, ?_, ?_, ?_, ?_, ?_, ?_, ?_, ?_, ?_, ?_, ?_, ?_, ?_, trivial⟩
            · intro listed σ w a hin hout hl hc hp hG hF
              refine Guarded.none rfl ?_
              have e4 : a.tmps.getD 4 undef = .pointer (some ⟨w0.heap.size, 0, none⟩) := hout 4 (outB_spec (by kernel_rfl))
              have CC := SOF.out w hG; obtain ⟨C0, C1, C2⟩ := CC
              refine Does.val (.agg #[.slice A n c, .bool s, .slice B m d]) (w' := w) ?_ ⟨Below.refl _ _, rfl, hG⟩
              go_simp
            · intro listed σ w a hin hout hl hc hp hG hF
              refine Guarded.none rfl ?_
              have e1 : a.tmps.getD 1 undef = .slice VA vn vc := hout 1 (outB_spec (by kernel_rfl))
              refine Does.val (.slice VA vn vc) (w' := w) ?_ ⟨Below.refl _ _, rfl, hG⟩
              simp only [Array.getD_eq_getD_getElem?] at e1
              go_simp
            · intro listed σ w a hin hout hl hc hp hG hF
              refine Guarded.none rfl ?_
              have e2 : a.tmps.getD 2 undef = .slice TA tn tc := hout 2 (outB_spec (by kernel_rfl))
              refine Does.val (.slice TA tn tc) (w' := w) ?_ ⟨Below.refl _ _, rfl, hG⟩
              simp only [Array.getD_eq_getD_getElem?] at e2
              go_simp
            · intro listed σ w a hin hout hl hc hp hG hF
              refine Guarded.none rfl ?_
              have e56 : a.tmps.getD 56 undef = .agg #[.slice A n c, .bool s, .slice B m d] := (hin 0 56 rfl (hp ⟨0, .data⟩ (by simp) rfl)).trans (hF 0 (hp ⟨0, .data⟩ (by simp) rfl))
              have e57 : a.tmps.getD 57 undef = .slice VA vn vc := (hin 1 57 rfl (hp ⟨1, .data⟩ (by simp) rfl)).trans (hF 1 (hp ⟨1, .data⟩ (by simp) rfl))
              have e58 : a.tmps.getD 58 undef = .slice TA tn tc := (hin 2 58 rfl (hp ⟨2, .data⟩ (by simp) rfl)).trans (hF 2 (hp ⟨2, .data⟩ (by simp) rfl))
              refine Does.call ?_ (tputAll_any _ L K 20 VA vn vc vs TA tn tc ts 20 w (HA.out.below hG) (HI.out.below hG) (by omega) HVR.out (HTT.out.1.below hG) (by omega) (fun t ht => by have := HTT.out.2 t ht; omega) (by have := HL.out; omega) (fun p hp => (HRG.out p hp).2) (by decide) (by decide)) ?_
              · go_simp
              · rintro e w' ⟨v, rfl, z, hb⟩
                exact ⟨_, rfl, hb, z, hG.next hb⟩
            · intro listed σ w a hin hout hl hc hp hG hF
              refine Guarded.none rfl ?_
              have e4 : a.tmps.getD 4 undef = .pointer (some ⟨w0.heap.size, 0, none⟩) := hout 4 (outB_spec (by kernel_rfl))
              have CC := SOF.out w hG; obtain ⟨C0, C1, C2⟩ := CC
              refine Does.val (.agg #[.slice A n c, .bool s, .slice B m d]) (w' := w) ?_ ⟨Below.refl _ _, rfl, hG⟩
              go_simp
            · intro listed σ w a hin hout hl hc hp hG hF
              refine Guarded.none rfl ?_
              have e1 : a.tmps.getD 1 undef = .slice VA vn vc := hout 1 (outB_spec (by kernel_rfl))
              refine Does.val (.slice VA vn vc) (w' := w) ?_ ⟨Below.refl _ _, rfl, hG⟩
              simp only [Array.getD_eq_getD_getElem?] at e1
              go_simp
            · intro listed σ w a hin hout hl hc hp hG hF
              refine Guarded.none rfl ?_
              have e2 : a.tmps.getD 2 undef = .slice TA tn tc := hout 2 (outB_spec (by kernel_rfl))
              refine Does.val (.slice TA tn tc) (w' := w) ?_ ⟨Below.refl _ _, rfl, hG⟩
              simp only [Array.getD_eq_getD_getElem?] at e2
              go_simp
            · intro listed σ w a hin hout hl hc hp hG hF
              refine Guarded.none rfl ?_
              have e60 : a.tmps.getD 60 undef = .agg #[.slice A n c, .bool s, .slice B m d] := (hin 4 60 rfl (hp ⟨4, .data⟩ (by simp) rfl)).trans (hF 4 (hp ⟨4, .data⟩ (by simp) rfl))
              have e61 : a.tmps.getD 61 undef = .slice VA vn vc := (hin 5 61 rfl (hp ⟨5, .data⟩ (by simp) rfl)).trans (hF 5 (hp ⟨5, .data⟩ (by simp) rfl))
              have e62 : a.tmps.getD 62 undef = .slice TA tn tc := (hin 6 62 rfl (hp ⟨6, .data⟩ (by simp) rfl)).trans (hF 6 (hp ⟨6, .data⟩ (by simp) rfl))
              refine Does.call ?_ (rputAll_any _ L K 20 VA vn vc vs TA tn tc ts 20 w (HA.out.below hG) (HI.out.below hG) (by omega) (HTT.out.1.below hG) (by omega) (fun t ht => by have := HTT.out.2 t ht; omega) (by have := HL.out; omega) (by decide) (by decide)) ?_
              · go_simp
              · rintro e w' ⟨v, rfl, z, hb⟩
                exact ⟨_, rfl, hb, z, hG.next hb⟩
            · intro listed σ w a hin hout hl hc hp hG hF
              refine Guarded.none rfl ?_
              have e59 := hin 3 59 rfl (hp ⟨3, .data⟩ (by simp) rfl)
              have z3 := hF 3 (hp ⟨3, .data⟩ (by simp) rfl)
              have e63 := hin 7 63 rfl (hp ⟨7, .data⟩ (by simp) rfl)
              have z7 := hF 7 (hp ⟨7, .data⟩ (by simp) rfl)
              refine Does.call ?_ (lsame_put _ _ (putL vs (pairs ts) (norm L)) (K + putK vs (pairs ts) (norm L)) (20 + 20 + 1010000) (20 + 20 + 1000 + 20000 * 100) w z3 z7 HQA.out (by decide)) ?_
              · go_simp
              · rintro e w' ⟨rfl, hb⟩
                exact ⟨_, rfl, hb, rfl, hG.next hb⟩
            · intro listed σ w a hin hout hl hc hp hG hF
              refine Guarded.none rfl ?_
              have e64 : a.tmps.getD 64 undef = .bool true := (hin 8 64 rfl (hp ⟨8, .data⟩ (by simp) rfl)).trans (hF 8 (hp ⟨8, .data⟩ (by simp) rfl))
              refine Does.val (.bool true) (w' := w) ?_ ⟨Below.refl _ _, rfl, hG⟩
              simp only [Array.getD_eq_getD_getElem?] at e64
              go_simp
            · intro listed σ w a hin hout hl hc hp hG hF
              refine Guarded.some (d := 65) (b := true) rfl rfl ((hin 9 65 rfl (hp ⟨9, .guard⟩ (by simp) rfl)).trans (hF 9 (hp ⟨9, .guard⟩ (by simp) rfl))) ?_
              refine Or.inl ⟨rfl, ?_⟩
              have e4 : a.tmps.getD 4 undef = .pointer (some ⟨w0.heap.size, 0, none⟩) := hout 4 (outB_spec (by kernel_rfl))
              have CC := SOF.out w hG; obtain ⟨C0, C1, C2⟩ := CC
              refine Does.val (.agg #[.slice A n c, .bool s, .slice B m d]) (w' := w) ?_ ⟨Below.refl _ _, rfl, hG⟩
              go_simp
            · intro listed σ w a hin hout hl hc hp hG hF
              refine Guarded.some (d := 65) (b := true) rfl rfl ((hin 9 65 rfl (hp ⟨9, .guard⟩ (by simp) rfl)).trans (hF 9 (hp ⟨9, .guard⟩ (by simp) rfl))) ?_
              refine Or.inl ⟨rfl, ?_⟩
              have e3 : a.tmps.getD 3 undef = .int .i64 y := hout 3 (outB_spec (by kernel_rfl))
              refine Does.val (.int .i64 y) (w' := w) ?_ ⟨Below.refl _ _, rfl, hG⟩
              simp only [Array.getD_eq_getD_getElem?] at e3
              go_simp
            · intro listed σ w a hin hout hl hc hp hG hF
              refine Guarded.some (d := 65) (b := true) rfl rfl ((hin 9 65 rfl (hp ⟨9, .guard⟩ (by simp) rfl)).trans (hF 9 (hp ⟨9, .guard⟩ (by simp) rfl))) ?_
              refine Or.inl ⟨rfl, ?_⟩
              have e66 : a.tmps.getD 66 undef = .agg #[.slice A n c, .bool s, .slice B m d] := (hin 10 66 rfl (hp ⟨10, .data⟩ (by simp) rfl)).trans (hF 10 (hp ⟨10, .data⟩ (by simp) rfl))
              have e67 : a.tmps.getD 67 undef = .int .i64 y := (hin 11 67 rfl (hp ⟨11, .data⟩ (by simp) rfl)).trans (hF 11 (hp ⟨11, .data⟩ (by simp) rfl))
              refine Does.call ?_ (tmove_any _ L K y 20 w (HA.out.below hG) hy1 hy2 (by have := HL.out; omega) (fun p hp => (HRG.out p hp).2) (by decide)) ?_
              · go_simp
              · rintro e w' ⟨v, rfl, z, hb⟩
                exact ⟨_, rfl, hb, z, hG.next hb⟩
            · intro listed σ w a hin hout hl hc hp hG hF
              refine Guarded.some (d := 65) (b := true) rfl rfl ((hin 9 65 rfl (hp ⟨9, .guard⟩ (by simp) rfl)).trans (hF 9 (hp ⟨9, .guard⟩ (by simp) rfl))) ?_
              refine Or.inl ⟨rfl, ?_⟩
              have e4 : a.tmps.getD 4 undef = .pointer (some ⟨w0.heap.size, 0, none⟩) := hout 4 (outB_spec (by kernel_rfl))
              have CC := SOF.out w hG; obtain ⟨C0, C1, C2⟩ := CC
              refine Does.val (.agg #[.slice A n c, .bool s, .slice B m d]) (w' := w) ?_ ⟨Below.refl _ _, rfl, hG⟩
              go_simp
            · intro listed σ w a hin hout hl hc hp hG hF
              refine Guarded.some (d := 65) (b := true) rfl rfl ((hin 9 65 rfl (hp ⟨9, .guard⟩ (by simp) rfl)).trans (hF 9 (hp ⟨9, .guard⟩ (by simp) rfl))) ?_
              refine Or.inl ⟨rfl, ?_⟩
              have e3 : a.tmps.getD 3 undef = .int .i64 y := hout 3 (outB_spec (by kernel_rfl))
              refine Does.val (.int .i64 y) (w' := w) ?_ ⟨Below.refl _ _, rfl, hG⟩
              simp only [Array.getD_eq_getD_getElem?] at e3
              go_simp
            · intro listed σ w a hin hout hl hc hp hG hF
              refine Guarded.some (d := 65) (b := true) rfl rfl ((hin 9 65 rfl (hp ⟨9, .guard⟩ (by simp) rfl)).trans (hF 9 (hp ⟨9, .guard⟩ (by simp) rfl))) ?_
              refine Or.inl ⟨rfl, ?_⟩
              have e69 : a.tmps.getD 69 undef = .agg #[.slice A n c, .bool s, .slice B m d] := (hin 13 69 rfl (hp ⟨13, .data⟩ (by simp) rfl)).trans (hF 13 (hp ⟨13, .data⟩ (by simp) rfl))
              have e70 : a.tmps.getD 70 undef = .int .i64 y := (hin 14 70 rfl (hp ⟨14, .data⟩ (by simp) rfl)).trans (hF 14 (hp ⟨14, .data⟩ (by simp) rfl))
              refine Does.call ?_ (rmove_any _ L K y 20 w (HA.out.below hG) (by have := HL.out; omega) (fun p hp => (HRG.out p hp).2) (by decide)) ?_
              · go_simp
              · rintro e w' ⟨v, rfl, z, hb⟩
                exact ⟨_, rfl, hb, z, hG.next hb⟩
            · intro listed σ w a hin hout hl hc hp hG hF
              refine Guarded.some (d := 65) (b := true) rfl rfl ((hin 9 65 rfl (hp ⟨9, .guard⟩ (by simp) rfl)).trans (hF 9 (hp ⟨9, .guard⟩ (by simp) rfl))) ?_
              refine Or.inl ⟨rfl, ?_⟩
              have e68 := hin 12 68 rfl (hp ⟨12, .data⟩ (by simp) rfl)
              have z12 := hF 12 (hp ⟨12, .data⟩ (by simp) rfl)
              have e71 := hin 15 71 rfl (hp ⟨15, .data⟩ (by simp) rfl)
              have z15 := hF 15 (hp ⟨15, .data⟩ (by simp) rfl)
              refine Does.call ?_ (lsame_put _ _ (moved (clamp y) (norm L)) K (20 + 1010000) (20 + L.length + L.length) w z12 z15 HML.out (by decide)) ?_
              · go_simp
              · rintro e w' ⟨rfl, hb⟩
                exact ⟨_, rfl, hb, rfl, hG.next hb⟩
            · intro listed σ w a hin hout hl hc hp hG hF
              refine Guarded.none rfl ?_
              have e65 : a.tmps.getD 65 undef = .bool true := (hin 9 65 rfl (hp ⟨9, .data⟩ (by simp) rfl)).trans (hF 9 (hp ⟨9, .data⟩ (by simp) rfl))
              have e72 : a.tmps.getD 72 undef = .bool true := (hin 16 72 rfl (hp ⟨16, .data⟩ (by simp) rfl)).trans (hF 16 (hp ⟨16, .data⟩ (by simp) rfl))
              refine Does.val (.bool true) (w' := w) ?_ ⟨Below.refl _ _, rfl, hG⟩
              simp only [Array.getD_eq_getD_getElem?] at e65 e72
              go_simp
            · intro listed σ w a hin hout hl hc hp hG hF
              refine Guarded.none rfl ?_
              have e73 : a.tmps.getD 73 undef = .bool true := (hin 17 73 rfl (hp ⟨17, .data⟩ (by simp) rfl)).trans (hF 17 (hp ⟨17, .data⟩ (by simp) rfl))
              refine Does.val (.bool true) (w' := w) ?_ ⟨Below.refl _ _, rfl, hG⟩
              simp only [Array.getD_eq_getD_getElem?] at e73
              go_simp
          · intro listed σ W9 hall hG hF
            rw [show mid _ σ listed _ = (Act.put (Act.put (Act.put (Act.put (Act.put (Act.put (Act.put (Act.put (Act.put (Act.put (Act.put (Act.put (Act.put (Act.put (Act.put (Act.put (Act.put (Act.put (Act.put _ (some 56) (σ 0)) (some 57) (σ 1)) (some 58) (σ 2)) (some 59) (σ 3)) (some 60) (σ 4)) (some 61) (σ 5)) (some 62) (σ 6)) (some 63) (σ 7)) (some 64) (σ 8)) (some 65) (σ 9)) (some 66) (σ 10)) (some 67) (σ 11)) (some 68) (σ 12)) (some 69) (σ 13)) (some 70) (σ 14)) (some 71) (σ 15)) (some 72) (σ 16)) (some 73) (σ 17)) (some 8) (σ 18)) from (mid_all hall).trans rfl]
            generalize σ 0 = tt0
            generalize σ 1 = tt1
            generalize σ 2 = tt2
            generalize σ 3 = tt3
            generalize σ 4 = tt4
            generalize σ 5 = tt5
            generalize σ 6 = tt6
            generalize σ 7 = tt7
            generalize σ 8 = tt8
            generalize σ 9 = tt9
            generalize σ 10 = tt10
            generalize σ 11 = tt11
            generalize σ 12 = tt12
            generalize σ 13 = tt13
            generalize σ 14 = tt14
            generalize σ 15 = tt15
            generalize σ 16 = tt16
            generalize σ 17 = tt17
            rw [show σ 18 = .bool true from hF 18 (by decide)]
            simp only [Act.put, List.setIfInBounds_toArray, List.set_cons_zero, List.set_cons_succ]
            have TG := hG
            clear hF hG hall
            clear σ
            go_wp2_with fail
            go_ret
            exact ⟨rfl, T9.out.next TG⟩
end Go.Proofs.YtdeakieenppmiaaGreat
