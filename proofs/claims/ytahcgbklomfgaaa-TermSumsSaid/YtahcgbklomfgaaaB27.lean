/- Texts of one seat, put together: TermSums. -/
import Derived.Test.YtahcgbklomfgaaaB25
import Derived.Test.YtahcgbklomfgaaaB26
import Derived.Test.YtahcgbklomfgaaaB23
import Derived.Test.YtahcgbklomfgaaaB21
set_option linter.unusedVariables false
/- TermSums: the walk. -/
namespace Go.Proofs.Ytahcgbklomfgaaa
open Go.RowKit
open Tm

theorem map_comm (N : Int) (L : List (Int × Int)) : norm (L.map fun p => (p.1, p.2 * N)) = norm (L.map fun p => (p.1, N * p.2)) := by
  congr 1
  apply List.map_congr_left
  intro p _
  rw [Int.mul_comm]
theorem lsame_norm (v u : Value) (L : List (Int × Int)) (K : Int) (k ku : Nat) (w0 : World) (hv : TRes w0 v (norm L) K k) (hu : TRes w0 u (norm L) K ku) (hl : L.length ≤ 1099511) (hk : k ≤ 1099511627) : Calls Try.prog 6 #[v, u] w0 (YesPost w0) :=
  lsame_yes v u (norm L) K k ku w0 hv hu (norm_id (norm_plain L)) (Nat.le_trans (norm_length L) hl) hk
set_option maxRecDepth 100000 in
set_option maxHeartbeats 8000000 in
theorem termSums_walk (v : Value) (L : List (Int × Int)) (K : Int) (u : Value) (M : List (Int × Int)) (KM : Int) (z : Value) (N : Int) (w0 : World) (hv : TIn w0 v L K big) (hu : TIn w0 u M KM big) (hz : ZIn w0 z N big) : Calls Try.prog 3 #[v, u, z] w0 (YesPost w0) := by
  have hv0 := hv
  have hu0 := hu
  have hz0 := hz
  obtain ⟨A, n, c, s, B, m, d, rfl, hp, hc1, hc2, hK⟩ := hv
  obtain ⟨A2, n2, c2, s2, B2, m2, d2, rfl, hp2, hd1, hd2, hK2⟩ := hu
  obtain ⟨s3, B3, m3, d3, xs, rfl, -⟩ := hz
  have hm3 := hz0.bounds
  have HLn := hide hp.len
  have HLn2 := hide hp2.len
  obtain ⟨z0, z1, z2, z3, z4⟩ := bstart3 28 28 26 w0 #[.slice A n c, .bool s, .slice B m d] #[.slice A2 n2 c2, .bool s2, .slice B2 m2 d2] #[.bool s3, .slice B3 m3 d3]
  have H1 := hide hv0
  have H2 := hide hu0
  have H3 := hide hz0
  clear hv0 hu0 hz0 hp hp2 hK hK2
  go_enter Try.func3, Try.ntmps3
  go_wp2_with fail
  refine (summing_yes _).mono ?_
  rintro e w1 ⟨rfl, b1⟩
  have q0 := z0.next b1
  have q1 := z1.next b1
  have q2 := z2.next b1
  have T1 := hide (z3.next b1)
  have x0 := q0.c0
  have x1 := q0.c1
  have x2 := q0.c2
  have y0 := q1.c0
  have y1 := q1.c1
  have y2 := q1.c2
  have Q0 := hide q0
  have Q1 := hide q1
  have Q2 := hide q2
  have u0 := Blk.c0 q2
  have u1 := Blk.c1 q2
  clear z0 z1 z2 z3 z4 b1 q0 q1 q2
  go_wp2_with fail
  have bA := bl_alloc w1 (.cells #[.slice A n c, .bool s, .slice B m d, .slice A2 n2 c2, .bool s2, .slice B2 m2 d2] 28)
  have hbx : Box 28 (w1.alloc (.cells #[.slice A n c, .bool s, .slice B m d, .slice A2 n2 c2, .bool s2, .slice B2 m2 d2] 28)) w1.heap.size (flatT [⟨A, n, c, s, B, m, d, L, K⟩, ⟨A2, n2, c2, s2, B2, m2, d2, M, KM⟩]).toArray := Box.new _ _ _
  have hfw := few_any (some ⟨w1.heap.size, 0, none⟩) 2 2 _ _ (TermsIn.box (k := big) hbx (fun t ht => by
    simp only [List.mem_cons, List.not_mem_nil, or_false] at ht
    rcases ht with rfl | rfl
    · exact (H1.out.below T1.out).below bA
    · exact (H2.out.below T1.out).below bA)) (by decide)
  refine hfw.mono ?_
  rintro e w2 ⟨r, rfl, hr, b2⟩
  have t2 := bA.next b2
  have q0 := Q0.out.next t2
  have q1 := Q1.out.next t2
  have q2 := Q2.out.next t2
  have T2 := hide (T1.out.next t2)
  have v1 := Blk.c1 q2
  have QQ0 := hide q0
  have QQ1 := hide q1
  have QQ2 := hide q2
  have HR := hide hr
  have HB2 := hide b2
  clear x0 x1 x2 y0 y1 y2 u0 u1 hfw hbx t2 q0 q1 q2 hr b2 bA
  cases r with
  | false =>
    go_wp2_with fail
    go_ret
    exact ⟨rfl, T2.out⟩
  | true =>
    by_cases h20 : (20 : Int) < m3
    · go_wp2_with fail
      go_ret
      exact ⟨rfl, T2.out⟩
    · have F1 := hide (HR.out rfl ⟨A, n, c, s, B, m, d, L, K⟩ (by simp))
      have F2 := hide (HR.out rfl ⟨A2, n2, c2, s2, B2, m2, d2, M, KM⟩ (by simp))
      have H20 := hide h20
      go_wp2_with fail
      have hT := T2.out
      have HA := hide (show TIn w2 (.agg #[.slice A n c, .bool s, .slice B m d]) L K 20 from F1.out.2.below HB2.out)
      have HB := hide (show TIn w2 (.agg #[.slice A2 n2 c2, .bool s2, .slice B2 m2 d2]) M KM 20 from F2.out.2.below HB2.out)
      have HN := hide ((H3.out.cut (show m3 ≤ 20 by omega)).below T2.out)
      have HL1 := hide (show L.length ≤ 30 by rw [HLn.out]; exact F1.out.1)
      have HL2 := hide (show M.length ≤ 30 by rw [HLn2.out]; exact F2.out.1)
      have SOF := hide (show ∀ W, Below w2.heap.size w2 W → (W.cell? ⟨w0.heap.size, 0, none⟩ = some (.slice A n c) ∧ W.cell? ⟨w0.heap.size, 1, none⟩ = some (.bool s) ∧ W.cell? ⟨w0.heap.size, 2, none⟩ = some (.slice B m d) ∧ W.cell? ⟨w0.heap.size + 1, 0, none⟩ = some (.slice A2 n2 c2) ∧ W.cell? ⟨w0.heap.size + 1, 1, none⟩ = some (.bool s2) ∧ W.cell? ⟨w0.heap.size + 1, 2, none⟩ = some (.slice B2 m2 d2) ∧ W.cell? ⟨w0.heap.size + 1 + 1, 0, none⟩ = some (.bool s3) ∧ W.cell? ⟨w0.heap.size + 1 + 1, 1, none⟩ = some (.slice B3 m3 d3)) from fun W h => ⟨(QQ0.out.next h).c0, (QQ0.out.next h).c1, (QQ0.out.next h).c2, (QQ1.out.next h).c0, (QQ1.out.next h).c1, (QQ1.out.next h).c2, Blk.c0 (QQ2.out.next h), Blk.c1 (QQ2.out.next h)⟩)
      clear h20 v1 hT hm3 hc1 hc2 hd1 hd2
      refine wp_drawn (by kernel_rfl) (by kernel_rfl) (by kernel_rfl) (fun w w' => Below w.heap.size w w') (fun j v w => match j with | 0 => v = .agg #[.slice A n c, .bool s, .slice B m d] | 1 => TRes w v (norm L) K (20 + L.length) | 2 => v = .agg #[.slice A n c, .bool s, .slice B m d] | 3 => TRes w v (norm L) K (20 + L.length) | 4 => v = .bool true | 5 => v = .bool true | 6 => v = .agg #[.slice A n c, .bool s, .slice B m d] | 7 => v = .agg #[.slice A2 n2 c2, .bool s2, .slice B2 m2 d2] | 8 => TRes w v (norm (L ++ M)) (K + KM) (20 + 1 + (L.length + M.length)) | 9 => v = .agg #[.slice A n c, .bool s, .slice B m d] | 10 => v = .agg #[.slice A2 n2 c2, .bool s2, .slice B2 m2 d2] | 11 => TRes w v (norm (L ++ M)) (K + KM) (20 + 1 + (L.length + M.length)) | 12 => v = .bool true | 13 => v = .bool true | 14 => v = .bool true | 15 => v = .agg #[.slice A n c, .bool s, .slice B m d] | 16 => v = .agg #[.slice A2 n2 c2, .bool s2, .slice B2 m2 d2] | 17 => TRes w v (norm (L ++ M.map fun p => (p.1, -1 * p.2))) (K - KM) (20 + M.length + 1 + (L.length + M.length)) | 18 => v = .agg #[.slice A n c, .bool s, .slice B m d] | 19 => v = .agg #[.slice A2 n2 c2, .bool s2, .slice B2 m2 d2] | 20 => TRes w v (norm (L ++ M.map fun p => (p.1, -1 * p.2))) (K - KM) (20 + 2 + M.length + 1 + (L.length + M.length)) | 21 => v = .bool true | 22 => v = .bool true | 23 => v = .bool true | 24 => v = .agg #[.slice A n c, .bool s, .slice B m d] | 25 => v = .agg #[.bool s3, .slice B3 m3 d3] | 26 => TRes w v (norm (L.map fun p => (p.1, N * p.2))) (N * K) (20 + (20 + L.length)) | 27 => v = .agg #[.slice A n c, .bool s, .slice B m d] | 28 => v = .agg #[.bool s3, .slice B3 m3 d3] | 29 => TRes w v (norm (L.map fun p => (p.1, N * p.2))) (N * K) (20 + 20 + L.length) | 30 => v = .bool true | 31 => v = .bool true | 32 => v = .bool true | 33 => v = .agg #[.slice A n c, .bool s, .slice B m d] | 34 => TRes w v (norm (L.map fun p => (p.1, -1 * p.2))) (-K) (20 + L.length) | 35 => v = .agg #[.slice A n c, .bool s, .slice B m d] | 36 => ZRes w v (-1) 2 | 37 => TRes w v (norm (L.map fun p => (p.1, -1 * p.2))) (-K) (20 + 2 + L.length) | 38 => v = .bool true | 39 => v = .bool true | 40 => v = .bool true | 41 => v = .agg #[.bool s3, .slice B3 m3 d3] | 42 => TRes w v [] N 20 | 43 => v = .agg #[.bool s3, .slice B3 m3 d3] | 44 => TRes w v [] N 20 | 45 => v = .bool true | 46 => v = .bool true | 47 => v = .bool true | _ => True) (fun _ _ w => Below w2.heap.size w2 w) ?_ (fun _ => bl_drewN w2 1) ?_ ?_
      · intro j v w w' hT h
        match j, h with
        | 0, h => exact h
        | 1, h => exact h.below hT
        | 2, h => exact h
        | 3, h => exact h.below hT
        | 4, h => exact h
        | 5, h => exact h
        | 6, h => exact h
        | 7, h => exact h
        | 8, h => exact h.below hT
        | 9, h => exact h
        | 10, h => exact h
        | 11, h => exact h.below hT
        | 12, h => exact h
        | 13, h => exact h
        | 14, h => exact h
        | 15, h => exact h
        | 16, h => exact h
        | 17, h => exact h.below hT
        | 18, h => exact h
        | 19, h => exact h
        | 20, h => exact h.below hT
        | 21, h => exact h
        | 22, h => exact h
        | 23, h => exact h
        | 24, h => exact h
        | 25, h => exact h
        | 26, h => exact h.below hT
        | 27, h => exact h
        | 28, h => exact h
        | 29, h => exact h.below hT
        | 30, h => exact h
        | 31, h => exact h
        | 32, h => exact h
        | 33, h => exact h
        | 34, h => exact h.below hT
        | 35, h => exact h
        | 36, h => exact h.below hT
        | 37, h => exact h.below hT
        | 38, h => exact h
        | 39, h => exact h
        | 40, h => exact h
        | 41, h => exact h
        | 42, h => exact h.below hT
        | 43, h => exact h
        | 44, h => exact h.below hT
        | 45, h => exact h
        | 46, h => exact h
        | 47, h => exact h
        | j + 48, h => trivial
      · refine ⟨?_, ?_, ?_, ?_, ?_, ?_, ?_, ?_, ?_, ?_, ?_, ?_, ?_, ?_, ?_, ?_, ?_, ?_, ?_, ?_, ?_, ?_, ?_, ?_, ?_, ?_, ?_, ?_, ?_, ?_, ?_, ?_, ?_, ?_, ?_, ?_, ?_, ?_, ?_, ?_, ?_, ?_, ?_, ?_, ?_, ?_, ?_, ?_, trivial⟩
        · intro listed σ w a hin hout hl hc hp hG hF
          refine Guarded.none rfl ?_
          have e3 : a.tmps.getD 3 undef = .pointer (some ⟨w0.heap.size, 0, none⟩) := hout 3 (outB_spec (by kernel_rfl))
          have CC := SOF.out w hG; obtain ⟨C0, C1, C2, D0, D1, D2, E0, E1⟩ := CC
          refine Does.val (.agg #[.slice A n c, .bool s, .slice B m d]) (w' := w) ?_ ⟨Below.refl _ _, rfl, hG⟩
          go_simp
        · intro listed σ w a hin hout hl hc hp hG hF
          refine Guarded.none rfl ?_
          have e20 : a.tmps.getD 20 undef = .agg #[.slice A n c, .bool s, .slice B m d] := (hin 0 20 rfl (hp ⟨0, .data⟩ (by simp) rfl)).trans (hF 0 (hp ⟨0, .data⟩ (by simp) rfl))
          refine Does.call ?_ (tplain_any _ L K 20 w (HA.out.below hG) (by have := HL1.out; omega) (by decide)) ?_
          · go_simp
          · rintro e w' ⟨v, rfl, z, hb⟩
            exact ⟨_, rfl, hb, z, hG.next hb⟩
        · intro listed σ w a hin hout hl hc hp hG hF
          refine Guarded.none rfl ?_
          have e3 : a.tmps.getD 3 undef = .pointer (some ⟨w0.heap.size, 0, none⟩) := hout 3 (outB_spec (by kernel_rfl))
          have CC := SOF.out w hG; obtain ⟨C0, C1, C2, D0, D1, D2, E0, E1⟩ := CC
          refine Does.val (.agg #[.slice A n c, .bool s, .slice B m d]) (w' := w) ?_ ⟨Below.refl _ _, rfl, hG⟩
          go_simp
        · intro listed σ w a hin hout hl hc hp hG hF
          refine Guarded.none rfl ?_
          have e22 : a.tmps.getD 22 undef = .agg #[.slice A n c, .bool s, .slice B m d] := (hin 2 22 rfl (hp ⟨2, .data⟩ (by simp) rfl)).trans (hF 2 (hp ⟨2, .data⟩ (by simp) rfl))
          refine Does.call ?_ (rplain_any _ L K 20 w (HA.out.below hG) (by have := HL1.out; omega) (by decide)) ?_
          · go_simp
          · rintro e w' ⟨v, rfl, z, hb⟩
            exact ⟨_, rfl, hb, z, hG.next hb⟩
        · intro listed σ w a hin hout hl hc hp hG hF
          refine Guarded.none rfl ?_
          have e21 := hin 1 21 rfl (hp ⟨1, .data⟩ (by simp) rfl)
          have z1 := hF 1 (hp ⟨1, .data⟩ (by simp) rfl)
          have e23 := hin 3 23 rfl (hp ⟨3, .data⟩ (by simp) rfl)
          have z3 := hF 3 (hp ⟨3, .data⟩ (by simp) rfl)
          refine Does.call ?_ (lsame_norm _ _ L K (20 + L.length) (20 + L.length) w z1 z3 (by have := HL1.out; have := HL2.out; simp <;> omega) (by have := HL1.out; have := HL2.out; omega)) ?_
          · go_simp
          · rintro e w' ⟨rfl, hb⟩
            exact ⟨_, rfl, hb, rfl, hG.next hb⟩
        · intro listed σ w a hin hout hl hc hp hG hF
          refine Guarded.none rfl ?_
          have e24 : a.tmps.getD 24 undef = .bool true := (hin 4 24 rfl (hp ⟨4, .data⟩ (by simp) rfl)).trans (hF 4 (hp ⟨4, .data⟩ (by simp) rfl))
          refine Does.val (.bool true) (w' := w) ?_ ⟨Below.refl _ _, rfl, hG⟩
          simp only [Array.getD_eq_getD_getElem?] at e24
          go_simp
        · intro listed σ w a hin hout hl hc hp hG hF
          refine Guarded.some (d := 25) (b := true) rfl rfl ((hin 5 25 rfl (hp ⟨5, .guard⟩ (by simp) rfl)).trans (hF 5 (hp ⟨5, .guard⟩ (by simp) rfl))) ?_
          refine Or.inl ⟨rfl, ?_⟩
          have e3 : a.tmps.getD 3 undef = .pointer (some ⟨w0.heap.size, 0, none⟩) := hout 3 (outB_spec (by kernel_rfl))
          have CC := SOF.out w hG; obtain ⟨C0, C1, C2, D0, D1, D2, E0, E1⟩ := CC
          refine Does.val (.agg #[.slice A n c, .bool s, .slice B m d]) (w' := w) ?_ ⟨Below.refl _ _, rfl, hG⟩
          go_simp
        · intro listed σ w a hin hout hl hc hp hG hF
          refine Guarded.some (d := 25) (b := true) rfl rfl ((hin 5 25 rfl (hp ⟨5, .guard⟩ (by simp) rfl)).trans (hF 5 (hp ⟨5, .guard⟩ (by simp) rfl))) ?_
          refine Or.inl ⟨rfl, ?_⟩
          have e4 : a.tmps.getD 4 undef = .pointer (some ⟨w0.heap.size + 1, 0, none⟩) := hout 4 (outB_spec (by kernel_rfl))
          have CC := SOF.out w hG; obtain ⟨C0, C1, C2, D0, D1, D2, E0, E1⟩ := CC
          refine Does.val (.agg #[.slice A2 n2 c2, .bool s2, .slice B2 m2 d2]) (w' := w) ?_ ⟨Below.refl _ _, rfl, hG⟩
          go_simp
        · intro listed σ w a hin hout hl hc hp hG hF
          refine Guarded.some (d := 25) (b := true) rfl rfl ((hin 5 25 rfl (hp ⟨5, .guard⟩ (by simp) rfl)).trans (hF 5 (hp ⟨5, .guard⟩ (by simp) rfl))) ?_
          refine Or.inl ⟨rfl, ?_⟩
          have e26 : a.tmps.getD 26 undef = .agg #[.slice A n c, .bool s, .slice B m d] := (hin 6 26 rfl (hp ⟨6, .data⟩ (by simp) rfl)).trans (hF 6 (hp ⟨6, .data⟩ (by simp) rfl))
          have e27 : a.tmps.getD 27 undef = .agg #[.slice A2 n2 c2, .bool s2, .slice B2 m2 d2] := (hin 7 27 rfl (hp ⟨7, .data⟩ (by simp) rfl)).trans (hF 7 (hp ⟨7, .data⟩ (by simp) rfl))
          refine Does.call ?_ (tadd_any _ _ L M K KM 20 w (HA.out.below hG) (HB.out.below hG) (by have := HL1.out; omega) (by have := HL2.out; omega) (by decide)) ?_
          · go_simp
          · rintro e w' ⟨v, rfl, z, hb⟩
            exact ⟨_, rfl, hb, z, hG.next hb⟩
        · intro listed σ w a hin hout hl hc hp hG hF
          refine Guarded.some (d := 25) (b := true) rfl rfl ((hin 5 25 rfl (hp ⟨5, .guard⟩ (by simp) rfl)).trans (hF 5 (hp ⟨5, .guard⟩ (by simp) rfl))) ?_
          refine Or.inl ⟨rfl, ?_⟩
          have e3 : a.tmps.getD 3 undef = .pointer (some ⟨w0.heap.size, 0, none⟩) := hout 3 (outB_spec (by kernel_rfl))
          have CC := SOF.out w hG; obtain ⟨C0, C1, C2, D0, D1, D2, E0, E1⟩ := CC
          refine Does.val (.agg #[.slice A n c, .bool s, .slice B m d]) (w' := w) ?_ ⟨Below.refl _ _, rfl, hG⟩
          go_simp
        · intro listed σ w a hin hout hl hc hp hG hF
          refine Guarded.some (d := 25) (b := true) rfl rfl ((hin 5 25 rfl (hp ⟨5, .guard⟩ (by simp) rfl)).trans (hF 5 (hp ⟨5, .guard⟩ (by simp) rfl))) ?_
          refine Or.inl ⟨rfl, ?_⟩
          have e4 : a.tmps.getD 4 undef = .pointer (some ⟨w0.heap.size + 1, 0, none⟩) := hout 4 (outB_spec (by kernel_rfl))
          have CC := SOF.out w hG; obtain ⟨C0, C1, C2, D0, D1, D2, E0, E1⟩ := CC
          refine Does.val (.agg #[.slice A2 n2 c2, .bool s2, .slice B2 m2 d2]) (w' := w) ?_ ⟨Below.refl _ _, rfl, hG⟩
          go_simp
        · intro listed σ w a hin hout hl hc hp hG hF
          refine Guarded.some (d := 25) (b := true) rfl rfl ((hin 5 25 rfl (hp ⟨5, .guard⟩ (by simp) rfl)).trans (hF 5 (hp ⟨5, .guard⟩ (by simp) rfl))) ?_
          refine Or.inl ⟨rfl, ?_⟩
          have e29 : a.tmps.getD 29 undef = .agg #[.slice A n c, .bool s, .slice B m d] := (hin 9 29 rfl (hp ⟨9, .data⟩ (by simp) rfl)).trans (hF 9 (hp ⟨9, .data⟩ (by simp) rfl))
          have e30 : a.tmps.getD 30 undef = .agg #[.slice A2 n2 c2, .bool s2, .slice B2 m2 d2] := (hin 10 30 rfl (hp ⟨10, .data⟩ (by simp) rfl)).trans (hF 10 (hp ⟨10, .data⟩ (by simp) rfl))
          refine Does.call ?_ (rtadd_any _ _ L M K KM 20 w (HA.out.below hG) (HB.out.below hG) (by have := HL1.out; omega) (by have := HL2.out; omega) (by decide)) ?_
          · go_simp
          · rintro e w' ⟨v, rfl, z, hb⟩
            exact ⟨_, rfl, hb, z, hG.next hb⟩
        · intro listed σ w a hin hout hl hc hp hG hF
          refine Guarded.some (d := 25) (b := true) rfl rfl ((hin 5 25 rfl (hp ⟨5, .guard⟩ (by simp) rfl)).trans (hF 5 (hp ⟨5, .guard⟩ (by simp) rfl))) ?_
          refine Or.inl ⟨rfl, ?_⟩
          have e28 := hin 8 28 rfl (hp ⟨8, .data⟩ (by simp) rfl)
          have z8 := hF 8 (hp ⟨8, .data⟩ (by simp) rfl)
          have e31 := hin 11 31 rfl (hp ⟨11, .data⟩ (by simp) rfl)
          have z11 := hF 11 (hp ⟨11, .data⟩ (by simp) rfl)
          refine Does.call ?_ (lsame_norm _ _ (L ++ M) (K + KM) (20 + 1 + (L.length + M.length)) (20 + 1 + (L.length + M.length)) w z8 z11 (by have := HL1.out; have := HL2.out; simp <;> omega) (by have := HL1.out; have := HL2.out; omega)) ?_
          · go_simp
          · rintro e w' ⟨rfl, hb⟩
            exact ⟨_, rfl, hb, rfl, hG.next hb⟩
        · intro listed σ w a hin hout hl hc hp hG hF
          refine Guarded.none rfl ?_
          have e25 : a.tmps.getD 25 undef = .bool true := (hin 5 25 rfl (hp ⟨5, .data⟩ (by simp) rfl)).trans (hF 5 (hp ⟨5, .data⟩ (by simp) rfl))
          have e32 : a.tmps.getD 32 undef = .bool true := (hin 12 32 rfl (hp ⟨12, .data⟩ (by simp) rfl)).trans (hF 12 (hp ⟨12, .data⟩ (by simp) rfl))
          refine Does.val (.bool true) (w' := w) ?_ ⟨Below.refl _ _, rfl, hG⟩
          simp only [Array.getD_eq_getD_getElem?] at e25 e32
          go_simp
        · intro listed σ w a hin hout hl hc hp hG hF
          refine Guarded.none rfl ?_
          have e33 : a.tmps.getD 33 undef = .bool true := (hin 13 33 rfl (hp ⟨13, .data⟩ (by simp) rfl)).trans (hF 13 (hp ⟨13, .data⟩ (by simp) rfl))
          refine Does.val (.bool true) (w' := w) ?_ ⟨Below.refl _ _, rfl, hG⟩
          simp only [Array.getD_eq_getD_getElem?] at e33
          go_simp
        · intro listed σ w a hin hout hl hc hp hG hF
          refine Guarded.some (d := 34) (b := true) rfl rfl ((hin 14 34 rfl (hp ⟨14, .guard⟩ (by simp) rfl)).trans (hF 14 (hp ⟨14, .guard⟩ (by simp) rfl))) ?_
          refine Or.inl ⟨rfl, ?_⟩
          have e3 : a.tmps.getD 3 undef = .pointer (some ⟨w0.heap.size, 0, none⟩) := hout 3 (outB_spec (by kernel_rfl))
          have CC := SOF.out w hG; obtain ⟨C0, C1, C2, D0, D1, D2, E0, E1⟩ := CC
          refine Does.val (.agg #[.slice A n c, .bool s, .slice B m d]) (w' := w) ?_ ⟨Below.refl _ _, rfl, hG⟩
          go_simp
        · intro listed σ w a hin hout hl hc hp hG hF
          refine Guarded.some (d := 34) (b := true) rfl rfl ((hin 14 34 rfl (hp ⟨14, .guard⟩ (by simp) rfl)).trans (hF 14 (hp ⟨14, .guard⟩ (by simp) rfl))) ?_
          refine Or.inl ⟨rfl, ?_⟩
          have e4 : a.tmps.getD 4 undef = .pointer (some ⟨w0.heap.size + 1, 0, none⟩) := hout 4 (outB_spec (by kernel_rfl))
          have CC := SOF.out w hG; obtain ⟨C0, C1, C2, D0, D1, D2, E0, E1⟩ := CC
          refine Does.val (.agg #[.slice A2 n2 c2, .bool s2, .slice B2 m2 d2]) (w' := w) ?_ ⟨Below.refl _ _, rfl, hG⟩
          go_simp
        · intro listed σ w a hin hout hl hc hp hG hF
          refine Guarded.some (d := 34) (b := true) rfl rfl ((hin 14 34 rfl (hp ⟨14, .guard⟩ (by simp) rfl)).trans (hF 14 (hp ⟨14, .guard⟩ (by simp) rfl))) ?_
          refine Or.inl ⟨rfl, ?_⟩
          have e35 : a.tmps.getD 35 undef = .agg #[.slice A n c, .bool s, .slice B m d] := (hin 15 35 rfl (hp ⟨15, .data⟩ (by simp) rfl)).trans (hF 15 (hp ⟨15, .data⟩ (by simp) rfl))
          have e36 : a.tmps.getD 36 undef = .agg #[.slice A2 n2 c2, .bool s2, .slice B2 m2 d2] := (hin 16 36 rfl (hp ⟨16, .data⟩ (by simp) rfl)).trans (hF 16 (hp ⟨16, .data⟩ (by simp) rfl))
          refine Does.call ?_ (tsub_any _ _ L M K KM 20 w (HA.out.below hG) (HB.out.below hG) (by have := HL1.out; omega) (by have := HL2.out; omega) (by decide)) ?_
          · go_simp
          · rintro e w' ⟨v, rfl, z, hb⟩
            exact ⟨_, rfl, hb, z, hG.next hb⟩
        · intro listed σ w a hin hout hl hc hp hG hF
          refine Guarded.some (d := 34) (b := true) rfl rfl ((hin 14 34 rfl (hp ⟨14, .guard⟩ (by simp) rfl)).trans (hF 14 (hp ⟨14, .guard⟩ (by simp) rfl))) ?_
          refine Or.inl ⟨rfl, ?_⟩
          have e3 : a.tmps.getD 3 undef = .pointer (some ⟨w0.heap.size, 0, none⟩) := hout 3 (outB_spec (by kernel_rfl))
          have CC := SOF.out w hG; obtain ⟨C0, C1, C2, D0, D1, D2, E0, E1⟩ := CC
          refine Does.val (.agg #[.slice A n c, .bool s, .slice B m d]) (w' := w) ?_ ⟨Below.refl _ _, rfl, hG⟩
          go_simp
        · intro listed σ w a hin hout hl hc hp hG hF
          refine Guarded.some (d := 34) (b := true) rfl rfl ((hin 14 34 rfl (hp ⟨14, .guard⟩ (by simp) rfl)).trans (hF 14 (hp ⟨14, .guard⟩ (by simp) rfl))) ?_
          refine Or.inl ⟨rfl, ?_⟩
          have e4 : a.tmps.getD 4 undef = .pointer (some ⟨w0.heap.size + 1, 0, none⟩) := hout 4 (outB_spec (by kernel_rfl))
          have CC := SOF.out w hG; obtain ⟨C0, C1, C2, D0, D1, D2, E0, E1⟩ := CC
          refine Does.val (.agg #[.slice A2 n2 c2, .bool s2, .slice B2 m2 d2]) (w' := w) ?_ ⟨Below.refl _ _, rfl, hG⟩
          go_simp
        · intro listed σ w a hin hout hl hc hp hG hF
          refine Guarded.some (d := 34) (b := true) rfl rfl ((hin 14 34 rfl (hp ⟨14, .guard⟩ (by simp) rfl)).trans (hF 14 (hp ⟨14, .guard⟩ (by simp) rfl))) ?_
          refine Or.inl ⟨rfl, ?_⟩
          have e38 : a.tmps.getD 38 undef = .agg #[.slice A n c, .bool s, .slice B m d] := (hin 18 38 rfl (hp ⟨18, .data⟩ (by simp) rfl)).trans (hF 18 (hp ⟨18, .data⟩ (by simp) rfl))
          have e39 : a.tmps.getD 39 undef = .agg #[.slice A2 n2 c2, .bool s2, .slice B2 m2 d2] := (hin 19 39 rfl (hp ⟨19, .data⟩ (by simp) rfl)).trans (hF 19 (hp ⟨19, .data⟩ (by simp) rfl))
          refine Does.call ?_ (rtsub_any _ _ L M K KM 20 w (HA.out.below hG) (HB.out.below hG) (by have := HL1.out; omega) (by have := HL2.out; omega) (by decide)) ?_
          · go_simp
          · rintro e w' ⟨v, rfl, z, hb⟩
            exact ⟨_, rfl, hb, z, hG.next hb⟩
        · intro listed σ w a hin hout hl hc hp hG hF
          refine Guarded.some (d := 34) (b := true) rfl rfl ((hin 14 34 rfl (hp ⟨14, .guard⟩ (by simp) rfl)).trans (hF 14 (hp ⟨14, .guard⟩ (by simp) rfl))) ?_
          refine Or.inl ⟨rfl, ?_⟩
          have e37 := hin 17 37 rfl (hp ⟨17, .data⟩ (by simp) rfl)
          have z17 := hF 17 (hp ⟨17, .data⟩ (by simp) rfl)
          have e40 := hin 20 40 rfl (hp ⟨20, .data⟩ (by simp) rfl)
          have z20 := hF 20 (hp ⟨20, .data⟩ (by simp) rfl)
          refine Does.call ?_ (lsame_norm _ _ (L ++ M.map fun p => (p.1, -1 * p.2)) (K - KM) (20 + M.length + 1 + (L.length + M.length)) (20 + 2 + M.length + 1 + (L.length + M.length)) w z17 z20 (by have := HL1.out; have := HL2.out; simp <;> omega) (by have := HL1.out; have := HL2.out; omega)) ?_
          · go_simp
          · rintro e w' ⟨rfl, hb⟩
            exact ⟨_, rfl, hb, rfl, hG.next hb⟩
        · intro listed σ w a hin hout hl hc hp hG hF
          refine Guarded.none rfl ?_
          have e34 : a.tmps.getD 34 undef = .bool true := (hin 14 34 rfl (hp ⟨14, .data⟩ (by simp) rfl)).trans (hF 14 (hp ⟨14, .data⟩ (by simp) rfl))
          have e41 : a.tmps.getD 41 undef = .bool true := (hin 21 41 rfl (hp ⟨21, .data⟩ (by simp) rfl)).trans (hF 21 (hp ⟨21, .data⟩ (by simp) rfl))
          refine Does.val (.bool true) (w' := w) ?_ ⟨Below.refl _ _, rfl, hG⟩
          simp only [Array.getD_eq_getD_getElem?] at e34 e41
          go_simp
        · intro listed σ w a hin hout hl hc hp hG hF
          refine Guarded.none rfl ?_
          have e42 : a.tmps.getD 42 undef = .bool true := (hin 22 42 rfl (hp ⟨22, .data⟩ (by simp) rfl)).trans (hF 22 (hp ⟨22, .data⟩ (by simp) rfl))
          refine Does.val (.bool true) (w' := w) ?_ ⟨Below.refl _ _, rfl, hG⟩
          simp only [Array.getD_eq_getD_getElem?] at e42
          go_simp
        · intro listed σ w a hin hout hl hc hp hG hF
          refine Guarded.some (d := 43) (b := true) rfl rfl ((hin 23 43 rfl (hp ⟨23, .guard⟩ (by simp) rfl)).trans (hF 23 (hp ⟨23, .guard⟩ (by simp) rfl))) ?_
          refine Or.inl ⟨rfl, ?_⟩
          have e3 : a.tmps.getD 3 undef = .pointer (some ⟨w0.heap.size, 0, none⟩) := hout 3 (outB_spec (by kernel_rfl))
          have CC := SOF.out w hG; obtain ⟨C0, C1, C2, D0, D1, D2, E0, E1⟩ := CC
          refine Does.val (.agg #[.slice A n c, .bool s, .slice B m d]) (w' := w) ?_ ⟨Below.refl _ _, rfl, hG⟩
          go_simp
        · intro listed σ w a hin hout hl hc hp hG hF
          refine Guarded.some (d := 43) (b := true) rfl rfl ((hin 23 43 rfl (hp ⟨23, .guard⟩ (by simp) rfl)).trans (hF 23 (hp ⟨23, .guard⟩ (by simp) rfl))) ?_
          refine Or.inl ⟨rfl, ?_⟩
          have e5 : a.tmps.getD 5 undef = .pointer (some ⟨w0.heap.size + 1 + 1, 0, none⟩) := hout 5 (outB_spec (by kernel_rfl))
          have CC := SOF.out w hG; obtain ⟨C0, C1, C2, D0, D1, D2, E0, E1⟩ := CC
          refine Does.val (.agg #[.bool s3, .slice B3 m3 d3]) (w' := w) ?_ ⟨Below.refl _ _, rfl, hG⟩
          go_simp
        · intro listed σ w a hin hout hl hc hp hG hF
          refine Guarded.some (d := 43) (b := true) rfl rfl ((hin 23 43 rfl (hp ⟨23, .guard⟩ (by simp) rfl)).trans (hF 23 (hp ⟨23, .guard⟩ (by simp) rfl))) ?_
          refine Or.inl ⟨rfl, ?_⟩
          have e44 : a.tmps.getD 44 undef = .agg #[.slice A n c, .bool s, .slice B m d] := (hin 24 44 rfl (hp ⟨24, .data⟩ (by simp) rfl)).trans (hF 24 (hp ⟨24, .data⟩ (by simp) rfl))
          have e45 : a.tmps.getD 45 undef = .agg #[.bool s3, .slice B3 m3 d3] := (hin 25 45 rfl (hp ⟨25, .data⟩ (by simp) rfl)).trans (hF 25 (hp ⟨25, .data⟩ (by simp) rfl))
          refine Does.call ?_ (tscale_any _ _ L K N 20 20 w (HA.out.below hG) (HN.out.below hG) (by have := HL1.out; omega) (by decide) (by decide)) ?_
          · go_simp
          · rintro e w' ⟨v, rfl, z, hb⟩
            exact ⟨_, rfl, hb, z, hG.next hb⟩
        · intro listed σ w a hin hout hl hc hp hG hF
          refine Guarded.some (d := 43) (b := true) rfl rfl ((hin 23 43 rfl (hp ⟨23, .guard⟩ (by simp) rfl)).trans (hF 23 (hp ⟨23, .guard⟩ (by simp) rfl))) ?_
          refine Or.inl ⟨rfl, ?_⟩
          have e3 : a.tmps.getD 3 undef = .pointer (some ⟨w0.heap.size, 0, none⟩) := hout 3 (outB_spec (by kernel_rfl))
          have CC := SOF.out w hG; obtain ⟨C0, C1, C2, D0, D1, D2, E0, E1⟩ := CC
          refine Does.val (.agg #[.slice A n c, .bool s, .slice B m d]) (w' := w) ?_ ⟨Below.refl _ _, rfl, hG⟩
          go_simp
        · intro listed σ w a hin hout hl hc hp hG hF
          refine Guarded.some (d := 43) (b := true) rfl rfl ((hin 23 43 rfl (hp ⟨23, .guard⟩ (by simp) rfl)).trans (hF 23 (hp ⟨23, .guard⟩ (by simp) rfl))) ?_
          refine Or.inl ⟨rfl, ?_⟩
          have e5 : a.tmps.getD 5 undef = .pointer (some ⟨w0.heap.size + 1 + 1, 0, none⟩) := hout 5 (outB_spec (by kernel_rfl))
          have CC := SOF.out w hG; obtain ⟨C0, C1, C2, D0, D1, D2, E0, E1⟩ := CC
          refine Does.val (.agg #[.bool s3, .slice B3 m3 d3]) (w' := w) ?_ ⟨Below.refl _ _, rfl, hG⟩
          go_simp
        · intro listed σ w a hin hout hl hc hp hG hF
          refine Guarded.some (d := 43) (b := true) rfl rfl ((hin 23 43 rfl (hp ⟨23, .guard⟩ (by simp) rfl)).trans (hF 23 (hp ⟨23, .guard⟩ (by simp) rfl))) ?_
          refine Or.inl ⟨rfl, ?_⟩
          have e47 : a.tmps.getD 47 undef = .agg #[.slice A n c, .bool s, .slice B m d] := (hin 27 47 rfl (hp ⟨27, .data⟩ (by simp) rfl)).trans (hF 27 (hp ⟨27, .data⟩ (by simp) rfl))
          have e48 : a.tmps.getD 48 undef = .agg #[.bool s3, .slice B3 m3 d3] := (hin 28 48 rfl (hp ⟨28, .data⟩ (by simp) rfl)).trans (hF 28 (hp ⟨28, .data⟩ (by simp) rfl))
          refine Does.call ?_ (rtscale_any _ _ L K N 20 20 w (HA.out.below hG) (HN.out.below hG) (by have := HL1.out; omega) (by decide) (by decide)) ?_
          · go_simp
          · rintro e w' ⟨v, rfl, z, hb⟩; have z := z.ofEq (map_comm N L) (Int.mul_comm K N)
            exact ⟨_, rfl, hb, z, hG.next hb⟩
        · intro listed σ w a hin hout hl hc hp hG hF
          refine Guarded.some (d := 43) (b := true) rfl rfl ((hin 23 43 rfl (hp ⟨23, .guard⟩ (by simp) rfl)).trans (hF 23 (hp ⟨23, .guard⟩ (by simp) rfl))) ?_
          refine Or.inl ⟨rfl, ?_⟩
          have e46 := hin 26 46 rfl (hp ⟨26, .data⟩ (by simp) rfl)
          have z26 := hF 26 (hp ⟨26, .data⟩ (by simp) rfl)
          have e49 := hin 29 49 rfl (hp ⟨29, .data⟩ (by simp) rfl)
          have z29 := hF 29 (hp ⟨29, .data⟩ (by simp) rfl)
          refine Does.call ?_ (lsame_norm _ _ (L.map fun p => (p.1, N * p.2)) (N * K) (20 + (20 + L.length)) (20 + 20 + L.length) w z26 z29 (by have := HL1.out; have := HL2.out; simp <;> omega) (by have := HL1.out; have := HL2.out; omega)) ?_
          · go_simp
          · rintro e w' ⟨rfl, hb⟩
            exact ⟨_, rfl, hb, rfl, hG.next hb⟩
        · intro listed σ w a hin hout hl hc hp hG hF
          refine Guarded.none rfl ?_
          have e43 : a.tmps.getD 43 undef = .bool true := (hin 23 43 rfl (hp ⟨23, .data⟩ (by simp) rfl)).trans (hF 23 (hp ⟨23, .data⟩ (by simp) rfl))
          have e50 : a.tmps.getD 50 undef = .bool true := (hin 30 50 rfl (hp ⟨30, .data⟩ (by simp) rfl)).trans (hF 30 (hp ⟨30, .data⟩ (by simp) rfl))
          refine Does.val (.bool true) (w' := w) ?_ ⟨Below.refl _ _, rfl, hG⟩
          simp only [Array.getD_eq_getD_getElem?] at e43 e50
          go_simp
        · intro listed σ w a hin hout hl hc hp hG hF
          refine Guarded.none rfl ?_
          have e51 : a.tmps.getD 51 undef = .bool true := (hin 31 51 rfl (hp ⟨31, .data⟩ (by simp) rfl)).trans (hF 31 (hp ⟨31, .data⟩ (by simp) rfl))
          refine Does.val (.bool true) (w' := w) ?_ ⟨Below.refl _ _, rfl, hG⟩
          simp only [Array.getD_eq_getD_getElem?] at e51
          go_simp
        · intro listed σ w a hin hout hl hc hp hG hF
          refine Guarded.some (d := 52) (b := true) rfl rfl ((hin 32 52 rfl (hp ⟨32, .guard⟩ (by simp) rfl)).trans (hF 32 (hp ⟨32, .guard⟩ (by simp) rfl))) ?_
          refine Or.inl ⟨rfl, ?_⟩
          have e3 : a.tmps.getD 3 undef = .pointer (some ⟨w0.heap.size, 0, none⟩) := hout 3 (outB_spec (by kernel_rfl))
          have CC := SOF.out w hG; obtain ⟨C0, C1, C2, D0, D1, D2, E0, E1⟩ := CC
          refine Does.val (.agg #[.slice A n c, .bool s, .slice B m d]) (w' := w) ?_ ⟨Below.refl _ _, rfl, hG⟩
          go_simp
        · intro listed σ w a hin hout hl hc hp hG hF
          refine Guarded.some (d := 52) (b := true) rfl rfl ((hin 32 52 rfl (hp ⟨32, .guard⟩ (by simp) rfl)).trans (hF 32 (hp ⟨32, .guard⟩ (by simp) rfl))) ?_
          refine Or.inl ⟨rfl, ?_⟩
          have e53 : a.tmps.getD 53 undef = .agg #[.slice A n c, .bool s, .slice B m d] := (hin 33 53 rfl (hp ⟨33, .data⟩ (by simp) rfl)).trans (hF 33 (hp ⟨33, .data⟩ (by simp) rfl))
          refine Does.call ?_ (tneg_any _ L K 20 w (HA.out.below hG) (by have := HL1.out; omega) (by decide)) ?_
          · go_simp
          · rintro e w' ⟨v, rfl, z, hb⟩
            exact ⟨_, rfl, hb, z, hG.next hb⟩
        · intro listed σ w a hin hout hl hc hp hG hF
          refine Guarded.some (d := 52) (b := true) rfl rfl ((hin 32 52 rfl (hp ⟨32, .guard⟩ (by simp) rfl)).trans (hF 32 (hp ⟨32, .guard⟩ (by simp) rfl))) ?_
          refine Or.inl ⟨rfl, ?_⟩
          have e3 : a.tmps.getD 3 undef = .pointer (some ⟨w0.heap.size, 0, none⟩) := hout 3 (outB_spec (by kernel_rfl))
          have CC := SOF.out w hG; obtain ⟨C0, C1, C2, D0, D1, D2, E0, E1⟩ := CC
          refine Does.val (.agg #[.slice A n c, .bool s, .slice B m d]) (w' := w) ?_ ⟨Below.refl _ _, rfl, hG⟩
          go_simp
        · intro listed σ w a hin hout hl hc hp hG hF
          refine Guarded.some (d := 52) (b := true) rfl rfl ((hin 32 52 rfl (hp ⟨32, .guard⟩ (by simp) rfl)).trans (hF 32 (hp ⟨32, .guard⟩ (by simp) rfl))) ?_
          refine Or.inl ⟨rfl, ?_⟩
          refine Does.call ?_ (rof_z (-1) w (by decide) (by decide)) ?_
          · go_simp
          · rintro e w' ⟨v, rfl, z, hb⟩
            exact ⟨_, rfl, hb, z, hG.next hb⟩
        · intro listed σ w a hin hout hl hc hp hG hF
          refine Guarded.some (d := 52) (b := true) rfl rfl ((hin 32 52 rfl (hp ⟨32, .guard⟩ (by simp) rfl)).trans (hF 32 (hp ⟨32, .guard⟩ (by simp) rfl))) ?_
          refine Or.inl ⟨rfl, ?_⟩
          have e55 : a.tmps.getD 55 undef = .agg #[.slice A n c, .bool s, .slice B m d] := (hin 35 55 rfl (hp ⟨35, .data⟩ (by simp) rfl)).trans (hF 35 (hp ⟨35, .data⟩ (by simp) rfl))
          have e56 := hin 36 56 rfl (hp ⟨36, .data⟩ (by simp) rfl)
          have z36 := hF 36 (hp ⟨36, .data⟩ (by simp) rfl)
          refine Does.call ?_ (rtscale_any _ _ L K (-1) 20 2 w (HA.out.below hG) z36.in_ (by have := HL1.out; omega) (by decide) (by decide)) ?_
          · go_simp
          · rintro e w' ⟨v, rfl, z, hb⟩; have z := z.ofEq (map_comm (-1) L) (by omega : K * -1 = -K)
            exact ⟨_, rfl, hb, z, hG.next hb⟩
        · intro listed σ w a hin hout hl hc hp hG hF
          refine Guarded.some (d := 52) (b := true) rfl rfl ((hin 32 52 rfl (hp ⟨32, .guard⟩ (by simp) rfl)).trans (hF 32 (hp ⟨32, .guard⟩ (by simp) rfl))) ?_
          refine Or.inl ⟨rfl, ?_⟩
          have e54 := hin 34 54 rfl (hp ⟨34, .data⟩ (by simp) rfl)
          have z34 := hF 34 (hp ⟨34, .data⟩ (by simp) rfl)
          have e57 := hin 37 57 rfl (hp ⟨37, .data⟩ (by simp) rfl)
          have z37 := hF 37 (hp ⟨37, .data⟩ (by simp) rfl)
          refine Does.call ?_ (lsame_norm _ _ (L.map fun p => (p.1, -1 * p.2)) (-K) (20 + L.length) (20 + 2 + L.length) w z34 z37 (by have := HL1.out; have := HL2.out; simp <;> omega) (by have := HL1.out; have := HL2.out; omega)) ?_
          · go_simp
          · rintro e w' ⟨rfl, hb⟩
            exact ⟨_, rfl, hb, rfl, hG.next hb⟩
        · intro listed σ w a hin hout hl hc hp hG hF
          refine Guarded.none rfl ?_
          have e52 : a.tmps.getD 52 undef = .bool true := (hin 32 52 rfl (hp ⟨32, .data⟩ (by simp) rfl)).trans (hF 32 (hp ⟨32, .data⟩ (by simp) rfl))
          have e58 : a.tmps.getD 58 undef = .bool true := (hin 38 58 rfl (hp ⟨38, .data⟩ (by simp) rfl)).trans (hF 38 (hp ⟨38, .data⟩ (by simp) rfl))
          refine Does.val (.bool true) (w' := w) ?_ ⟨Below.refl _ _, rfl, hG⟩
          simp only [Array.getD_eq_getD_getElem?] at e52 e58
          go_simp
        · intro listed σ w a hin hout hl hc hp hG hF
          refine Guarded.none rfl ?_
          have e59 : a.tmps.getD 59 undef = .bool true := (hin 39 59 rfl (hp ⟨39, .data⟩ (by simp) rfl)).trans (hF 39 (hp ⟨39, .data⟩ (by simp) rfl))
          refine Does.val (.bool true) (w' := w) ?_ ⟨Below.refl _ _, rfl, hG⟩
          simp only [Array.getD_eq_getD_getElem?] at e59
          go_simp
        · intro listed σ w a hin hout hl hc hp hG hF
          refine Guarded.some (d := 60) (b := true) rfl rfl ((hin 40 60 rfl (hp ⟨40, .guard⟩ (by simp) rfl)).trans (hF 40 (hp ⟨40, .guard⟩ (by simp) rfl))) ?_
          refine Or.inl ⟨rfl, ?_⟩
          have e5 : a.tmps.getD 5 undef = .pointer (some ⟨w0.heap.size + 1 + 1, 0, none⟩) := hout 5 (outB_spec (by kernel_rfl))
          have CC := SOF.out w hG; obtain ⟨C0, C1, C2, D0, D1, D2, E0, E1⟩ := CC
          refine Does.val (.agg #[.bool s3, .slice B3 m3 d3]) (w' := w) ?_ ⟨Below.refl _ _, rfl, hG⟩
          go_simp
        · intro listed σ w a hin hout hl hc hp hG hF
          refine Guarded.some (d := 60) (b := true) rfl rfl ((hin 40 60 rfl (hp ⟨40, .guard⟩ (by simp) rfl)).trans (hF 40 (hp ⟨40, .guard⟩ (by simp) rfl))) ?_
          refine Or.inl ⟨rfl, ?_⟩
          have e61 : a.tmps.getD 61 undef = .agg #[.bool s3, .slice B3 m3 d3] := (hin 41 61 rfl (hp ⟨41, .data⟩ (by simp) rfl)).trans (hF 41 (hp ⟨41, .data⟩ (by simp) rfl))
          refine Does.call ?_ (number_t _ N 20 w (HN.out.below hG) (by decide)) ?_
          · go_simp
          · rintro e w' ⟨v, rfl, z, hb⟩
            exact ⟨_, rfl, hb, z, hG.next hb⟩
        · intro listed σ w a hin hout hl hc hp hG hF
          refine Guarded.some (d := 60) (b := true) rfl rfl ((hin 40 60 rfl (hp ⟨40, .guard⟩ (by simp) rfl)).trans (hF 40 (hp ⟨40, .guard⟩ (by simp) rfl))) ?_
          refine Or.inl ⟨rfl, ?_⟩
          have e5 : a.tmps.getD 5 undef = .pointer (some ⟨w0.heap.size + 1 + 1, 0, none⟩) := hout 5 (outB_spec (by kernel_rfl))
          have CC := SOF.out w hG; obtain ⟨C0, C1, C2, D0, D1, D2, E0, E1⟩ := CC
          refine Does.val (.agg #[.bool s3, .slice B3 m3 d3]) (w' := w) ?_ ⟨Below.refl _ _, rfl, hG⟩
          go_simp
        · intro listed σ w a hin hout hl hc hp hG hF
          refine Guarded.some (d := 60) (b := true) rfl rfl ((hin 40 60 rfl (hp ⟨40, .guard⟩ (by simp) rfl)).trans (hF 40 (hp ⟨40, .guard⟩ (by simp) rfl))) ?_
          refine Or.inl ⟨rfl, ?_⟩
          have e63 : a.tmps.getD 63 undef = .agg #[.bool s3, .slice B3 m3 d3] := (hin 43 63 rfl (hp ⟨43, .data⟩ (by simp) rfl)).trans (hF 43 (hp ⟨43, .data⟩ (by simp) rfl))
          refine Does.call ?_ (rnumber_t _ N 20 w (HN.out.below hG) (by decide)) ?_
          · go_simp
          · rintro e w' ⟨v, rfl, z, hb⟩
            exact ⟨_, rfl, hb, z, hG.next hb⟩
        · intro listed σ w a hin hout hl hc hp hG hF
          refine Guarded.some (d := 60) (b := true) rfl rfl ((hin 40 60 rfl (hp ⟨40, .guard⟩ (by simp) rfl)).trans (hF 40 (hp ⟨40, .guard⟩ (by simp) rfl))) ?_
          refine Or.inl ⟨rfl, ?_⟩
          have e62 := hin 42 62 rfl (hp ⟨42, .data⟩ (by simp) rfl)
          have z42 := hF 42 (hp ⟨42, .data⟩ (by simp) rfl)
          have e64 := hin 44 64 rfl (hp ⟨44, .data⟩ (by simp) rfl)
          have z44 := hF 44 (hp ⟨44, .data⟩ (by simp) rfl)
          refine Does.call ?_ (lsame_norm _ _ [] N 20 20 w z42 z44 (by have := HL1.out; have := HL2.out; simp <;> omega) (by have := HL1.out; have := HL2.out; omega)) ?_
          · go_simp
          · rintro e w' ⟨rfl, hb⟩
            exact ⟨_, rfl, hb, rfl, hG.next hb⟩
        · intro listed σ w a hin hout hl hc hp hG hF
          refine Guarded.none rfl ?_
          have e60 : a.tmps.getD 60 undef = .bool true := (hin 40 60 rfl (hp ⟨40, .data⟩ (by simp) rfl)).trans (hF 40 (hp ⟨40, .data⟩ (by simp) rfl))
          have e65 : a.tmps.getD 65 undef = .bool true := (hin 45 65 rfl (hp ⟨45, .data⟩ (by simp) rfl)).trans (hF 45 (hp ⟨45, .data⟩ (by simp) rfl))
          refine Does.val (.bool true) (w' := w) ?_ ⟨Below.refl _ _, rfl, hG⟩
          simp only [Array.getD_eq_getD_getElem?] at e60 e65
          go_simp
        · intro listed σ w a hin hout hl hc hp hG hF
          refine Guarded.none rfl ?_
          have e66 : a.tmps.getD 66 undef = .bool true := (hin 46 66 rfl (hp ⟨46, .data⟩ (by simp) rfl)).trans (hF 46 (hp ⟨46, .data⟩ (by simp) rfl))
          refine Does.val (.bool true) (w' := w) ?_ ⟨Below.refl _ _, rfl, hG⟩
          simp only [Array.getD_eq_getD_getElem?] at e66
          go_simp
      · intro listed σ W9 hall hG hF
        rw [show mid _ σ listed _ = (Act.put (Act.put (Act.put (Act.put (Act.put (Act.put (Act.put (Act.put (Act.put (Act.put (Act.put (Act.put (Act.put (Act.put (Act.put (Act.put (Act.put (Act.put (Act.put (Act.put (Act.put (Act.put (Act.put (Act.put (Act.put (Act.put (Act.put (Act.put (Act.put (Act.put (Act.put (Act.put (Act.put (Act.put (Act.put (Act.put (Act.put (Act.put (Act.put (Act.put (Act.put (Act.put (Act.put (Act.put (Act.put (Act.put (Act.put (Act.put _ (some 20) (σ 0)) (some 21) (σ 1)) (some 22) (σ 2)) (some 23) (σ 3)) (some 24) (σ 4)) (some 25) (σ 5)) (some 26) (σ 6)) (some 27) (σ 7)) (some 28) (σ 8)) (some 29) (σ 9)) (some 30) (σ 10)) (some 31) (σ 11)) (some 32) (σ 12)) (some 33) (σ 13)) (some 34) (σ 14)) (some 35) (σ 15)) (some 36) (σ 16)) (some 37) (σ 17)) (some 38) (σ 18)) (some 39) (σ 19)) (some 40) (σ 20)) (some 41) (σ 21)) (some 42) (σ 22)) (some 43) (σ 23)) (some 44) (σ 24)) (some 45) (σ 25)) (some 46) (σ 26)) (some 47) (σ 27)) (some 48) (σ 28)) (some 49) (σ 29)) (some 50) (σ 30)) (some 51) (σ 31)) (some 52) (σ 32)) (some 53) (σ 33)) (some 54) (σ 34)) (some 55) (σ 35)) (some 56) (σ 36)) (some 57) (σ 37)) (some 58) (σ 38)) (some 59) (σ 39)) (some 60) (σ 40)) (some 61) (σ 41)) (some 62) (σ 42)) (some 63) (σ 43)) (some 64) (σ 44)) (some 65) (σ 45)) (some 66) (σ 46)) (some 6) (σ 47)) from (mid_all hall).trans rfl]
        generalize σ 0 = tt0
        generalize σ 1 = tt1
        generalize σ 2 = tt2
        generalize σ 3 = tt3
        generalize σ 4 = tt4
        generalize σ 5 = tt5
        generalize σ 6 = tt6
        generalize σ 7 = tt7
        generalize σ 8 = tt8
        generalize σ 9 = tt9
        generalize σ 10 = tt10
        generalize σ 11 = tt11
        generalize σ 12 = tt12
        generalize σ 13 = tt13
        generalize σ 14 = tt14
        generalize σ 15 = tt15
        generalize σ 16 = tt16
        generalize σ 17 = tt17
        generalize σ 18 = tt18
        generalize σ 19 = tt19
        generalize σ 20 = tt20
        generalize σ 21 = tt21
        generalize σ 22 = tt22
        generalize σ 23 = tt23
        generalize σ 24 = tt24
        generalize σ 25 = tt25
        generalize σ 26 = tt26
        generalize σ 27 = tt27
        generalize σ 28 = tt28
        generalize σ 29 = tt29
        generalize σ 30 = tt30
        generalize σ 31 = tt31
        generalize σ 32 = tt32
        generalize σ 33 = tt33
        generalize σ 34 = tt34
        generalize σ 35 = tt35
        generalize σ 36 = tt36
        generalize σ 37 = tt37
        generalize σ 38 = tt38
        generalize σ 39 = tt39
        generalize σ 40 = tt40
        generalize σ 41 = tt41
        generalize σ 42 = tt42
        generalize σ 43 = tt43
        generalize σ 44 = tt44
        generalize σ 45 = tt45
        generalize σ 46 = tt46
        rw [show σ 47 = .bool true from hF 47 (by decide)]
        simp only [Act.put, List.setIfInBounds_toArray, List.set_cons_zero, List.set_cons_succ]
        have TG := hG
        clear hF hG hall
        clear σ
        have HE := hide (T2.out.next TG)
        clear TG SOF HA HB HN
        go_wp2_with fail
        go_ret
        exact ⟨rfl, HE.out⟩
end Go.Proofs.Ytahcgbklomfgaaa
