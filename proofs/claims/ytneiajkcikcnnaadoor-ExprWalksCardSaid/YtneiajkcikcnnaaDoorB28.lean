/- Texts of one seat, put together: ExprR7. -/
import Derived.Test.YtneiajkcikcnnaaDoorB26
set_option linter.unusedVariables false
/- plumblineref11.Cond. -/
namespace Go.Proofs.YtneiajkcikcnnaaDoor
open Go.RowKit
open Lx Ex

set_option maxRecDepth 100000 in
set_option maxHeartbeats 64000000 in
theorem rCond_any (D : CD) (i dp : Nat) (w0 : World) (h : Tp D w0 i) (hdp : dp ≤ 60)
    (hpart : ∀ W j, Tp D W j → (rd D.ts j).length ≤ (rd D.ts i).length → Calls Tryd.prog 32 #[.agg #[.slice D.A D.n D.c, .int .i64 (j : Int), .slice D.V D.m D.d, .bool D.known], .int .i64 (dp : Int)] W (RPPost D (parsF D.kn .both (60 - dp) (rd D.ts j)) j W)) :
    Calls Tryd.prog 10 #[.agg #[.slice D.A D.n D.c, .int .i64 (i : Int), .slice D.V D.m D.d, .bool D.known], .int .i64 (dp : Int)] w0 (RPPost D (bind (parsF D.kn .both (60 - dp) (rd D.ts i)) (fun t r1 => parsF D.kn (.condGo t) (60 - dp) r1)) i w0) := by
  have HTG := hide h
  have HTP := hide (fun j W (hb : Below w0.heap.size w0 W) (hf : j + (rd D.ts j).length ≤ 1099511627776) => (⟨h.kin.below hb, h.sin.below hb, h.good, hf⟩ : Tp D W j))
  have HIS := hide (fun j s W (hb : Below w0.heap.size w0 W) (hf : j + (rd D.ts j).length ≤ 1099511627776) => is11_any D j s W (HTP.out j W hb hf))
  unfold BoolW at HIS
  obtain ⟨x0, x1, x2, x3, x4⟩ := bstart3 37 37 45 w0 #[.slice D.A D.n D.c, .int .i64 (i : Int), .slice D.V D.m D.d, .bool D.known] #[.slice none 0 0, .int .i64 0, .slice none 0 0, .bool false] #[.int .i64 0, .slice none 0 0, .slice none 0 0, .int .i64 0, .string ⟨#[]⟩, .string ⟨#[]⟩, .slice none 0 0]
  have zW := Nat.lt_of_lt_of_eq (show w0.heap.size + 2 < w0.heap.size + 3 from by omega) x4.symm
  clear x4
  have T0 := hide x0
  have R0 := hide x1
  have Y0 := hide x2
  have B0 := hide x3
  have u0 := x0.cell 0 _ rfl
  have u1 := x0.cell 1 _ rfl
  have u2 := x0.cell 2 _ rfl
  have u3 := x0.cell 3 _ rfl
  have s1 := hpart _ i (HTP.out i _ B0.out h.fits) (Nat.le_refl _)
  have HPA := hide hpart
  have HEQ := hide (fun t r => parsF_condGo D.kn (60 - dp) t r)
  generalize 60 - dp = lv at *
  obtain ⟨O, hO⟩ : ∃ O, O = bind (parsF D.kn .both lv (rd D.ts i)) (fun t r1 => parsF D.kn (.condGo t) lv r1) := ⟨_, rfl⟩
  rw [← hO]
  have HO := hide hO
  clear h hpart x0 x1 x2 x3 hO
  unfold RPPost at s1
  go_enter Tryd.func10, Tryd.ntmps10
  go_wp2_with fail
  generalize hW0 : ((w0.alloc (.cells #[.slice D.A D.n D.c, .int .i64 (i : Int), .slice D.V D.m D.d, .bool D.known] 37)).alloc (.cells #[.slice none 0 0, .int .i64 0, .slice none 0 0, .bool false] 37)).alloc (.cells #[.int .i64 0, .slice none 0 0, .slice none 0 0, .int .i64 0, .string ⟨#[]⟩, .string ⟨#[]⟩, .slice none 0 0] 45) = W0 at *
  clear hW0
  refine s1.mono ?_
  rintro e W1 ⟨i2, code, kd, Al, nl, cl, Ar, nr, cr, op, p, q, A, n, c, rfl, bq, hor⟩
  have hw1 := bq.size
  have hb2 := bl_alloc W1 (.cells #[.int .i64 0, .slice none 0 0, .slice none 0 0, .int .i64 0, .string ⟨#[]⟩, .string ⟨#[]⟩, .slice none 0 0] 45)
  have xT := (T0.out.next bq).next hb2
  have Y7 := hide (Box.new 45 W1 #[.int .i64 0, .slice none 0 0, .slice none 0 0, .int .i64 0, .string ⟨#[]⟩, .string ⟨#[]⟩, .slice none 0 0])
  have R2 := hide ((R0.out.next bq).next hb2)
  have Y2 := hide ((Y0.out.next bq).next hb2)
  have B2 := hide ((B0.out.next bq).next hb2)
  have hne7 : W1.heap.size ≠ w0.heap.size := by omega
  have y7' := Y7.out
  clear s1 u0 u1 u2 u3 hb2 bq
  go_upto_region 2 with (first
    | ((with_reducible refine wpList_store_box rfl 37 _ _ rfl w0.heap.size #[.slice D.A D.n D.c, .int .i64 (i2 : Int), .slice D.V D.m D.d, .bool D.known] rfl rfl _ xT (by kernel_rfl) rfl (by simp [Value.oneCell']) ?_); intro W2 k2 ho2; have y7 := Box.other y7' ho2 hne7)
    | ((with_reducible refine wpList_store_box rfl 45 _ _ rfl W1.heap.size #[.int .i64 kd, .slice Al nl cl, .slice Ar nr cr, .int .i64 op, .string p, .string q, .slice A n c] rfl rfl _ y7 (by kernel_rfl) rfl (by simp [Value.oneCell']) ?_); intro W3 k3 ho3))
  have R1 := hide (show RChRel D W1.heap.size i lv .condGo O w0 W3 code from by
    refine ⟨i2, kd, Al, nl, cl, Ar, nr, cr, op, p, q, A, n, c, k3, k2.other ho3 (by omega), (R2.out.other ho2 (by omega)).other ho3 (by omega), (Y2.out.other ho2 (by omega)).other ho3 (by omega), (B2.out.trans (ho2.below B2.out.size (by omega))).trans (ho3.below (B2.out.trans (ho2.below B2.out.size (by omega))).size (by omega)), ?_⟩
    rcases hor with ⟨h0, t, r1, ho, hT, hs⟩ | ⟨cd, r1, h0, hc, ho, -, hs⟩
    · have hT2 := ((hT.old.keep (Keep.of_below (bl_alloc W1 (.cells #[.int .i64 0, .slice none 0 0, .slice none 0 0, .int .i64 0, .string ⟨#[]⟩, .string ⟨#[]⟩, .slice none 0 0] 45)))).keep (Keep.of_only' ho2 (fun hh => by have := hh.1; unfold From at this; omega))).keep (Keep.of_only' ho3 (fun hh => by have := hh.2; omega))
      refine Or.inl ⟨h0, t, hT2.sub (fun b hb => ⟨by have := hb.1; unfold From at this; omega, Nat.ne_of_lt hb.2⟩), by rw [hs.1]; exact hs, ?_, by rw [hs.1]; exact parsF_len ho⟩
      rw [HO.out, ho, hs.1]; rfl
    · exact Or.inr ⟨cd, r1, h0, hc, hs, by rw [HO.out, ho]; rfl⟩)
  clear hor k3 ho3 k2 ho2 R2 Y2 B2 y7' Y7 T0 R0 Y0 B0
  go_wp2_with fail
  go_loopw [8] (fun ec wr => ∃ code : Int, ec = .int .i64 code ∧ Hid (RChRel D W1.heap.size i lv .condGo O w0 wr code)) (fun ec wr => mz (intOf ec) (i + (rd D.ts i).length - curI wr w0.heap.size + 1))
  case atStart => exact ⟨_, rfl, R1⟩
  case round =>
    obtain ⟨code, rfl, HR⟩ := hrel
    obtain ⟨i', kd1, Al1, nl1, cl1, Ar1, nr1, cr1, op1, p1, q1, A1, n1, c1, x7, xt, xr, xy, bb, hor⟩ := HR.out
    rcases hor with ⟨h0, t, hT, hs, ho, hle⟩ | ⟨cd, r1, h0, hcd, hs, ho⟩
    · subst h0
      have X7 := hide x7
      have XT := hide xt
      have XR := hide xr
      have XY := hide xy
      have BW := hide bb
      have T1 := hide hT
      have HF1 := hide (hs.fits HTG.out.fits)
      have u0 := xt.cell 0 _ rfl
      have u1 := xt.cell 1 _ rfl
      have u2 := xt.cell 2 _ rfl
      have u3 := xt.cell 3 _ rfl
      have hq := HIS.out i' ⟨#[124]⟩ wr bb HF1.out
      have hc1 := curI_box xt
      cases hsg : isT ⟨#[124]⟩ (rd D.ts i') with
      | false =>
        rw [hsg] at hq
        have ho2 := HEQ.out t (rd D.ts i')
        rw [if_neg (by rw [hsg]; decide), ← ho] at ho2
        have HO2 := hide ho2
        have HST := hide hs
        clear hs ho ho2 hsg hT x7 xt xr xy bb hle hc1
        go_wp2_with fail
        refine hq.mono ?_
        rintro e W4 ⟨rfl, bq⟩
        have X4 := X7.out.next bq
        have T4 := XT.out.next bq
        have xR := XR.out.next bq
        have xY := XY.out.next bq
        have BB := hide (BW.out.next bq)
        have TI := hide (T1.out.keep (Keep.of_below bq))
        have l0 := X4.cell 0 _ rfl
        have l1 := X4.cell 1 _ rfl
        have l2 := X4.cell 2 _ rfl
        have l3 := X4.cell 3 _ rfl
        have l4 := X4.cell 4 _ rfl
        have l5 := X4.cell 5 _ rfl
        have l6 := X4.cell 6 _ rfl
        clear u0 u1 u2 u3
        have u0 := T4.cell 0 _ rfl
        have u1 := T4.cell 1 _ rfl
        have u2 := T4.cell 2 _ rfl
        have u3 := T4.cell 3 _ rfl
        clear bq hq
        have hg2 := T4.lt
        have hg7 := X4.lt
        have SOF := hide (show ∀ W, K2 (w0.heap.size + 1) (w0.heap.size + 1 + 1) W4 W → (W.cell? ⟨w0.heap.size, 0, none⟩ = some (.slice D.A D.n D.c) ∧ W.cell? ⟨w0.heap.size, 1, none⟩ = some (.int .i64 (i' : Int)) ∧ W.cell? ⟨w0.heap.size, 2, none⟩ = some (.slice D.V D.m D.d) ∧ W.cell? ⟨w0.heap.size, 3, none⟩ = some (.bool D.known) ∧ W.cell? ⟨W1.heap.size, 0, none⟩ = some (.int .i64 kd1) ∧ W.cell? ⟨W1.heap.size, 1, none⟩ = some (.slice Al1 nl1 cl1) ∧ W.cell? ⟨W1.heap.size, 2, none⟩ = some (.slice Ar1 nr1 cr1) ∧ W.cell? ⟨W1.heap.size, 3, none⟩ = some (.int .i64 op1) ∧ W.cell? ⟨W1.heap.size, 4, none⟩ = some (.string p1) ∧ W.cell? ⟨W1.heap.size, 5, none⟩ = some (.string q1) ∧ W.cell? ⟨W1.heap.size, 6, none⟩ = some (.slice A1 n1 c1)) from fun W h => ⟨(h.cell hg2 (by omega) (by omega)).trans u0, (h.cell hg2 (by omega) (by omega)).trans u1, (h.cell hg2 (by omega) (by omega)).trans u2, (h.cell hg2 (by omega) (by omega)).trans u3, (h.cell hg7 (by omega) (by omega)).trans l0, (h.cell hg7 (by omega) (by omega)).trans l1, (h.cell hg7 (by omega) (by omega)).trans l2, (h.cell hg7 (by omega) (by omega)).trans l3, (h.cell hg7 (by omega) (by omega)).trans l4, (h.cell hg7 (by omega) (by omega)).trans l5, (h.cell hg7 (by omega) (by omega)).trans l6⟩)
        go_upto_region 8 with fail
        clear u0 u1 u2 u3 l0 l1 l2 l3 l4 l5 l6 X4 T4
        refine wp_drawn (by kernel_rfl) (by kernel_rfl) (by kernel_rfl) (K2 (w0.heap.size + 1) (w0.heap.size + 1 + 1)) (fun j v w => match j with | 0 => v = .agg #[.slice D.A D.n D.c, .int .i64 (i' : Int), .slice D.V D.m D.d, .bool D.known] | 1 => v = .agg #[.int .i64 kd1, .slice Al1 nl1 cl1, .slice Ar1 nr1 cr1, .int .i64 op1, .string p1, .string q1, .slice A1 n1 c1] | 2 => True | 3 => True | 4 => v = .int .i64 0 | _ => True) (G2 W4 (w0.heap.size + 1) 2 37 #[.slice D.A D.n D.c, .int .i64 (i' : Int), .slice D.V D.m D.d, .bool D.known] (w0.heap.size + 1 + 1) 3 45 #[.int .i64 kd1, .slice Al1 nl1 cl1, .slice Ar1 nr1 cr1, .int .i64 op1, .string p1, .string q1, .slice A1 n1 c1] 4) ?_ (fun _ => G2.start ((xR).drew) rfl ((xY).drew) rfl (bl_drewN W4 1) rfl (by decide)) ?_ ?_
        · intro j v w w' hT h
          match j, h with
          | 0, h => exact h
          | 1, h => exact h
          | 2, h => trivial
          | 3, h => trivial
          | 4, h => exact h
          | j + 5, h => trivial
        · refine ⟨?_, ?_, ?_, ?_, ?_, trivial⟩
          · intro listed σ w a hin hout hl hc hp hG hF
            refine Guarded.none rfl ?_
            have e2 : a.tmps.getD 2 undef = .pointer (some ⟨w0.heap.size, 0, none⟩) := hout 2 (outB_spec (by kernel_rfl))
            have CC := SOF.out w hG.k; obtain ⟨C0, C1, C2, C3, D0, D1, D2, D3, D4, D5, D6⟩ := CC
            refine Does.val (.agg #[.slice D.A D.n D.c, .int .i64 (i' : Int), .slice D.V D.m D.d, .bool D.known]) (w' := w) ?_ ⟨K2.refl _ _ _, rfl, hG.next (Below.refl _ _) (by decide) (by decide) (Or.inr rfl)⟩
            go_simp
          · intro listed σ w a hin hout hl hc hp hG hF
            refine Guarded.none rfl ?_
            have e7 : a.tmps.getD 7 undef = .pointer (some ⟨W1.heap.size, 0, none⟩) := hout 7 (outB_spec (by kernel_rfl))
            have CC := SOF.out w hG.k; obtain ⟨C0, C1, C2, C3, D0, D1, D2, D3, D4, D5, D6⟩ := CC
            refine Does.val (.agg #[.int .i64 kd1, .slice Al1 nl1 cl1, .slice Ar1 nr1 cr1, .int .i64 op1, .string p1, .string q1, .slice A1 n1 c1]) (w' := w) ?_ ⟨K2.refl _ _ _, rfl, hG.next (Below.refl _ _) (by decide) (by decide) (Or.inr rfl)⟩
            go_simp
          · intro listed σ w a hin hout hl hc hp hG hF
            refine Guarded.none rfl ?_
            have e4 : a.tmps.getD 4 undef = .pointer (some ⟨w0.heap.size + 1, 0, none⟩) := hout 4 (outB_spec (by kernel_rfl))
            have e44 : a.tmps.getD 44 undef = .agg #[.slice D.A D.n D.c, .int .i64 (i' : Int), .slice D.V D.m D.d, .bool D.known] := (hin 0 44 rfl (hp ⟨0, .data⟩ (by simp) rfl)).trans (hF 0 (hp ⟨0, .data⟩ (by simp) rfl))
            obtain ⟨cc, zz, bb, -⟩ := hG.b1
            refine Does.store_boxE (T := 37) (cells := #[.slice D.A D.n D.c, .int .i64 (i' : Int), .slice D.V D.m D.d, .bool D.known]) rfl e4 e44 bb (by kernel_rfl) zz (by simp [Value.oneCell']) (fun w2 x9 o9 z9 => ?_)
            have q9 := G2.st1 (τ := upd σ 2 undef) hG (by omega) (by decide) (by decide) x9 o9 z9
            exact ⟨q9.1, trivial, q9.2⟩
          · intro listed σ w a hin hout hl hc hp hG hF
            refine Guarded.none rfl ?_
            have e5 : a.tmps.getD 5 undef = .pointer (some ⟨w0.heap.size + 1 + 1, 0, none⟩) := hout 5 (outB_spec (by kernel_rfl))
            have e45 : a.tmps.getD 45 undef = .agg #[.int .i64 kd1, .slice Al1 nl1 cl1, .slice Ar1 nr1 cr1, .int .i64 op1, .string p1, .string q1, .slice A1 n1 c1] := (hin 1 45 rfl (hp ⟨1, .data⟩ (by simp) rfl)).trans (hF 1 (hp ⟨1, .data⟩ (by simp) rfl))
            obtain ⟨cc, zz, bb, -⟩ := hG.b2
            refine Does.store_boxE (T := 45) (cells := #[.int .i64 kd1, .slice Al1 nl1 cl1, .slice Ar1 nr1 cr1, .int .i64 op1, .string p1, .string q1, .slice A1 n1 c1]) rfl e5 e45 bb (by kernel_rfl) zz (by simp [Value.oneCell']) (fun w2 x9 o9 z9 => ?_)
            have q9 := G2.st2 (τ := upd σ 3 undef) hG (by omega) (by decide) (by decide) x9 o9 z9
            exact ⟨q9.1, trivial, q9.2⟩
          · intro listed σ w a hin hout hl hc hp hG hF
            refine Guarded.none rfl ?_
            refine Does.val (.int .i64 0) (w' := w) ?_ ⟨K2.refl _ _ _, rfl, hG.next (Below.refl _ _) (by decide) (by decide) (Or.inr rfl)⟩
            go_simp
        · intro listed σ W9 hall hG hF
          rw [show mid _ σ listed _ = (Act.put (Act.put (Act.put (Act.put (Act.put _ (some 44) (σ 0)) (some 45) (σ 1)) none (σ 2)) none (σ 3)) (some 6) (σ 4)) from (mid_all hall).trans rfl]
          generalize σ 0 = tt0 at *
          generalize σ 1 = tt1 at *
          rw [show σ 4 = .int .i64 0 from hF 4 (by decide)]
          simp only [Act.put, List.setIfInBounds_toArray, List.set_cons_zero, List.set_cons_succ]
          have TK := hG.k
          obtain ⟨c91, -, X9, E9⟩ := hG.b1
          have E9 := E9 (hall 2 (by decide))
          subst E9
          obtain ⟨c92, -, Y9, E9⟩ := hG.b2
          have E9 := E9 (hall 3 (by decide))
          subst E9
          clear hF hG hall

          have hb9 := BB.out.trans (TK.below BB.out.size (by omega) (by omega))
          have TI9 := (TI.out.keep (TK.keep (fun hh => by have := hh.1; omega) (fun hh => by have := hh.1; omega)) : TIn (But (w0.heap.size + 3) W1.heap.size) W9 (gt t) _)
          have HPP := hide (RPPost.ok (vs := #[.int .i64 kd1, .slice Al1 nl1 cl1, .slice Ar1 nr1 cr1, .int .i64 op1, .string p1, .string q1, .slice A1 n1 c1]) HO2.out (TI9.sub (fun b hb => by have := hb.1; unfold From; omega)) HST.out hb9)
          clear SOF TK hb9 TI9
          go_wp2_with fail
          refine bodyPost_tt rfl rfl rfl rfl X9 Y9 rfl ?_
          exact HPP.out
      | true =>
        rw [hsg] at hq
        have hst := isT_step HTG.out.good.ends hsg
        have hol := HEQ.out t (rd D.ts i')
        rw [if_pos hsg, ← ho, ← hst.1] at hol
        have HOL := hide hol
        have HST := hide (hs.trans' (i2 := i' + 1) rfl (by omega))
        have hl1 := hst.2.1
        have hlen : (rd D.ts (i' + 1)).length ≤ (rd D.ts i).length := by omega
        have HL := hide (show i' + (rd D.ts i').length = i + (rd D.ts i).length from hs.2)
        have HF2 := hide (show i' + 1 + (rd D.ts (i' + 1)).length ≤ 1099511627776 from by have := HF1.out; omega)
        clear hs ho hsg hT x7 xt xr xy bb hol hst hle
        go_wp2_with fail
        refine hq.mono ?_
        rintro e W4 ⟨rfl, bq⟩
        have T4 := XT.out.next bq
        have B4 := hide bq
        clear u0 u1 u2 u3 bq hq
        have u0 := T4.cell 0 _ rfl
        have u1 := T4.cell 1 _ rfl
        have u2 := T4.cell 2 _ rfl
        have u3 := T4.cell 3 _ rfl
        go_wp2_with fail
        have hq := on_any D i' W4 (by have := HF1.out; omega)
        unfold OnPost at hq
        refine hq.mono ?_
        rintro e W5 ⟨rfl, bq⟩
        have B5 := hide (B4.out.next bq)
        clear u0 u1 u2 u3 bq hq T4
        have hp := HPA.out W5 (i' + 1) (HTP.out (i' + 1) W5 (BW.out.next B5.out) HF2.out) hlen
        rw [show ((i' + 1 : Nat) : Int) = (i' : Int) + 1 from by omega] at hp
        unfold RPPost at hp
        have hs5 := B5.out.size
        go_wp2_with fail
        refine hp.mono ?_
        rintro e W6 ⟨i5, code2, kd2, Al2, nl2, cl2, Ar2, nr2, cr2, op2, p2, q2, A2, n2, c2, rfl, bq, hor⟩
        have B6 := hide (B5.out.next bq)
        have hs6 := bq.size
        have HOR := hide hor
        have hgt7 := X7.out.lt
        clear hp bq hor
        go_upto_region 4 with fail
        obtain ⟨n9, n10, nb, nz⟩ := bstart2 37 45 W6 #[.slice D.A D.n D.c, .int .i64 (i5 : Int), .slice D.V D.m D.d, .bool D.known] #[.int .i64 kd2, .slice Al2 nl2 cl2, .slice Ar2 nr2 cr2, .int .i64 op2, .string p2, .string q2, .slice A2 n2 c2]
        have zV := Nat.lt_of_lt_of_eq (show W6.heap.size + 1 < W6.heap.size + 2 from by omega) nz.symm
        clear nz
        have HORV := hide (show (code2 = 0 ∧ ∃ t r1, parsF D.kn .both lv (rd D.ts (i' + 1)) = .ok t r1 ∧ TIn (From W5.heap.size) ((W6.alloc (.cells #[.slice D.A D.n D.c, .int .i64 (i5 : Int), .slice D.V D.m D.d, .bool D.known] 37)).alloc (.cells #[.int .i64 kd2, .slice Al2 nl2 cl2, .slice Ar2 nr2 cr2, .int .i64 op2, .string p2, .string q2, .slice A2 n2 c2] 45)) (gt t) [.int .i64 kd2, .slice Al2 nl2 cl2, .slice Ar2 nr2 cr2, .int .i64 op2, .string p2, .string q2, .slice A2 n2 c2] ∧ Stands D (i' + 1) r1 i5) ∨ (∃ cd r1, code2 = ((cd : Nat) : Int) ∧ cd ≠ 0 ∧ parsF D.kn .both lv (rd D.ts (i' + 1)) = .err cd r1 ∧ Stands D (i' + 1) r1 i5) from by
          rcases HOR.out with ⟨h0, t, r1, h1, h2, h3⟩ | ⟨cd, r1, h0, h1, h2, -, h3⟩
          · exact Or.inl ⟨h0, t, r1, h1, h2.keep (Keep.of_below nb), h3⟩
          · exact Or.inr ⟨cd, r1, h0, h1, h2, h3⟩)
        have BV := hide (B6.out.next nb)
        generalize hV : (W6.alloc (.cells #[.slice D.A D.n D.c, .int .i64 (i5 : Int), .slice D.V D.m D.d, .bool D.known] 37)).alloc (.cells #[.int .i64 kd2, .slice Al2 nl2 cl2, .slice Ar2 nr2 cr2, .int .i64 op2, .string p2, .string q2, .slice A2 n2 c2] 45) = V at *
        clear hV HOR B6 nb B4 B5
        have XTV := XT.out.next BV.out
        have XRV := hide (XR.out.next BV.out)
        have XYV := hide (XY.out.next BV.out)
        have X7V := hide (X7.out.next BV.out)
        have BBV := hide (BW.out.next BV.out)
        have N10 := hide n10
        have TIV := hide ((T1.out.old.keep (Keep.of_below BV.out)))
        have v0 := n9.cell 0 _ rfl
        have v1 := n9.cell 1 _ rfl
        have v2 := n9.cell 2 _ rfl
        have v3 := n9.cell 3 _ rfl
        clear BV n10
        go_upto_region 5 with ((with_reducible refine wpList_store_box rfl 37 _ _ rfl w0.heap.size #[.slice D.A D.n D.c, .int .i64 (i5 : Int), .slice D.V D.m D.d, .bool D.known] rfl rfl _ XTV (by kernel_rfl) rfl (by simp [Value.oneCell']) ?_); intro W7 k7 ho7)
        have R7 := hide (XRV.out.other ho7 (by omega))
        have Y7 := hide (XYV.out.other ho7 (by omega))
        have x7 := X7V.out.other ho7 (by omega)
        have n7 := N10.out.other ho7 (by omega)
        have B7 := hide (BBV.out.trans (ho7.below BBV.out.size (by omega)))
        have TI7 := hide (TIV.out.keep (Keep.of_only' ho7 (fun hh => by have := hh.1.1; omega)))
        have KT7 := hide k7
        have hs7 := ho7.size
        have HOR7 := hide (show (code2 = 0 ∧ ∃ t r1, parsF D.kn .both lv (rd D.ts (i' + 1)) = .ok t r1 ∧ TIn (From W5.heap.size) W7 (gt t) [.int .i64 kd2, .slice Al2 nl2 cl2, .slice Ar2 nr2 cr2, .int .i64 op2, .string p2, .string q2, .slice A2 n2 c2] ∧ Stands D (i' + 1) r1 i5) ∨ (∃ cd r1, code2 = ((cd : Nat) : Int) ∧ cd ≠ 0 ∧ parsF D.kn .both lv (rd D.ts (i' + 1)) = .err cd r1 ∧ Stands D (i' + 1) r1 i5) from by
          rcases HORV.out with ⟨h0, t, r1, h1, h2, h3⟩ | hh
          · exact Or.inl ⟨h0, t, r1, h1, h2.keep (Keep.of_only ho7 (by omega)), h3⟩
          · exact Or.inr hh)
        clear v0 v1 v2 v3 n9 XTV HORV k7
        have a0 := n7.cell 0 _ rfl
        have a1 := n7.cell 1 _ rfl
        have a2 := n7.cell 2 _ rfl
        have a3 := n7.cell 3 _ rfl
        have a4 := n7.cell 4 _ rfl
        have a5 := n7.cell 5 _ rfl
        have a6 := n7.cell 6 _ rfl
        have l0 := x7.cell 0 _ rfl
        have l1 := x7.cell 1 _ rfl
        have l2 := x7.cell 2 _ rfl
        have l3 := x7.cell 3 _ rfl
        have l4 := x7.cell 4 _ rfl
        have l5 := x7.cell 5 _ rfl
        have l6 := x7.cell 6 _ rfl
        have hb8 := bl_alloc W7 (.cells #[.int .i64 kd1, .slice Al1 nl1 cl1, .slice Ar1 nr1 cr1, .int .i64 op1, .string p1, .string q1, .slice A1 n1 c1, .int .i64 kd2, .slice Al2 nl2 cl2, .slice Ar2 nr2 cr2, .int .i64 op2, .string p2, .string q2, .slice A2 n2 c2] 45)
        have x8 := x7.next hb8
        have G8 := hide (Box.new 45 W7 #[.int .i64 kd1, .slice Al1 nl1 cl1, .slice Ar1 nr1 cr1, .int .i64 op1, .string p1, .string q1, .slice A1 n1 c1, .int .i64 kd2, .slice Al2 nl2 cl2, .slice Ar2 nr2 cr2, .int .i64 op2, .string p2, .string q2, .slice A2 n2 c2])
        have T8 := hide (TI7.out.keep (Keep.of_below hb8))
        have B8 := hide (B7.out.next hb8)
        have R8 := hide (R7.out.next hb8)
        have Y8 := hide (Y7.out.next hb8)
        have KT8 := hide (KT7.out.next hb8)
        have HOR8 := hide (show (code2 = 0 ∧ ∃ t r1, parsF D.kn .both lv (rd D.ts (i' + 1)) = .ok t r1 ∧ TIn (From W5.heap.size) (W7.alloc (.cells #[.int .i64 kd1, .slice Al1 nl1 cl1, .slice Ar1 nr1 cr1, .int .i64 op1, .string p1, .string q1, .slice A1 n1 c1, .int .i64 kd2, .slice Al2 nl2 cl2, .slice Ar2 nr2 cr2, .int .i64 op2, .string p2, .string q2, .slice A2 n2 c2] 45)) (gt t) [.int .i64 kd2, .slice Al2 nl2 cl2, .slice Ar2 nr2 cr2, .int .i64 op2, .string p2, .string q2, .slice A2 n2 c2] ∧ Stands D (i' + 1) r1 i5) ∨ (∃ cd r1, code2 = ((cd : Nat) : Int) ∧ cd ≠ 0 ∧ parsF D.kn .both lv (rd D.ts (i' + 1)) = .err cd r1 ∧ Stands D (i' + 1) r1 i5) from by
          rcases HOR7.out with ⟨h0, t, r1, h1, h2, h3⟩ | hh
          · exact Or.inl ⟨h0, t, r1, h1, h2.keep (Keep.of_below hb8), h3⟩
          · exact Or.inr hh)
        clear hb8
        go_wp2_with ((with_reducible refine wpList_store_box rfl 45 _ _ rfl W1.heap.size #[.int .i64 5, .slice none 0 0, .slice none 0 0, .int .i64 0, .string ⟨#[]⟩, .string ⟨#[]⟩, .slice (some ⟨W7.heap.size, 0, none⟩) 2 2] rfl rfl _ x8 (by kernel_rfl) rfl (by simp [Value.oneCell']) ?_); intro W9 k9 ho9)
        have hc9 := curI_box (KT8.out.other ho9 (by omega))
        have HRR := hide (show RChRel D W1.heap.size i lv .condGo O w0 W9 code2 ∧ (code2 = 0 → i' < i5 ∧ i5 < i + (rd D.ts i).length) from by
          have hbel := B8.out.trans (ho9.below B8.out.size (by omega))
          have hkt := KT8.out.other ho9 (by omega)
          have hr9 := R8.out.other ho9 (by omega)
          have hy9 := Y8.out.other ho9 (by omega)
          have hg9 := G8.out.other ho9 (by omega)
          rcases HOR8.out with ⟨h0, k, r1, h1, h2, h3⟩ | ⟨cd, r1, h0, hcd, h1, h3⟩
          · have hlk := parsF_len h1
            have h4 := h3.2
            have h5 : 0 < r1.length := by rw [← h3.1]; exact rd_pos _ _
            refine ⟨⟨i5, _, none, 0, 0, none, 0, 0, _, _, _, _, _, _, k9, hkt, hr9, hy9, hbel, Or.inl ⟨h0, .any t k, ?_, ?_, ?_, ?_⟩⟩, fun _ => by have := HL.out; omega⟩
            · show TIn _ _ (.mk 5 [] [] 0 ⟨#[]⟩ ⟨#[]⟩ [gt t, gt k]) _
              refine TIn.kids (T := 45) 5 [gt t, gt k] [[.int .i64 kd1, .slice Al1 nl1 cl1, .slice Ar1 nr1 cr1, .int .i64 op1, .string p1, .string q1, .slice A1 n1 c1], [.int .i64 kd2, .slice Al2 nl2 cl2, .slice Ar2 nr2 cr2, .int .i64 op2, .string p2, .string q2, .slice A2 n2 c2]] rfl ⟨by omega, by omega⟩ hg9 (fun j x hx => ?_) (by simp)
              have h2' := h2.keep (Keep.of_only ho9 (by omega) : Keep (From W5.heap.size) _ W9)
              have h8' := T8.out.keep (Keep.of_only' ho9 (fun hh => by have := hh.1.2; omega))
              match j, hx with
              | 0, hx =>
                injection hx with hx; subst hx
                exact ⟨_, rfl, h8'.sub (fun b hb => hb.1)⟩
              | 1, hx =>
                injection hx with hx; subst hx
                exact ⟨_, rfl, h2'.sub (fun b hb => ⟨by unfold From at hb; omega, by unfold From at hb; omega⟩)⟩
              | j + 2, hx => simp at hx
            · rw [h3.1]; exact HST.out.trans h3
            · rw [HOL.out, h1, h3.1]; rfl
            · rw [h3.1]; omega
          · refine ⟨⟨i5, _, none, 0, 0, none, 0, 0, _, _, _, _, _, _, k9, hkt, hr9, hy9, hbel, Or.inr ⟨cd, r1, h0, hcd, HST.out.trans h3, ?_⟩⟩, fun h => by omega⟩
            rw [HOL.out, h1]; rfl)
        clear l0 l1 l2 l3 l4 l5 l6 a0 a1 a2 a3 a4 a5 a6 x8 k9 ho9
        simp only [Act.put]
        go_roundw
        case rel => exact ⟨_, rfl, hide HRR.out.1⟩
        case measure =>
          have hm := HRR.out.2
          refine mz_lt (fun hz => ?_) (by omega)
          have h9 := hm hz
          rw [hc9, hc1]
          omega
    · have gc := err_ne2 hcd
      have gc2 := err_ne hcd
      subst h0
      have HPP := hide (fun w9 hb9 => RPPost.err (w := w0) (w' := w9) ho hcd hs hb9)
      have u0 := xt.cell 0 _ rfl
      have u1 := xt.cell 1 _ rfl
      have u2 := xt.cell 2 _ rfl
      have u3 := xt.cell 3 _ rfl
      have xR := xr
      have xY := xy
      have BB := hide bb
      clear hs ho hcd bb x7 xt xr xy
      have hryy : (w0.heap.size + 1 + 1) ≠ (w0.heap.size + 1) := by omega
      go_wp2_with (first
        | ((with_reducible refine wpList_store_box rfl 37 _ _ rfl (w0.heap.size + 1) #[.slice D.A D.n D.c, .int .i64 (i' : Int), .slice D.V D.m D.d, .bool D.known] rfl rfl _ xR (by kernel_rfl) rfl (by simp [Value.oneCell']) ?_); intro w8 k8 ho8; have yY := Box.other xY ho8 hryy)
        | ((with_reducible refine wpList_store_box rfl 45 _ _ rfl (w0.heap.size + 1 + 1) #[.int .i64 0, .slice none 0 0, .slice none 0 0, .int .i64 0, .string ⟨#[]⟩, .string ⟨#[]⟩, .slice none 0 0] rfl rfl _ yY (by kernel_rfl) rfl (by simp [Value.oneCell']) ?_); intro w9 k9 ho9))
      refine bodyPost_tt rfl rfl rfl rfl (k8.other ho9 (by omega)) k9 rfl ?_
      have hb9 := (BB.out.trans (ho8.below BB.out.size (by omega))).trans (ho9.below (BB.out.trans (ho8.below BB.out.size (by omega))).size (by omega))
      exact HPP.out _ hb9
end Go.Proofs.YtneiajkcikcnnaaDoor
