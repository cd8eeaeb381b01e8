/- Texts of one seat, put together: RPutAll. -/
import Derived.Test.YtdeakieenppmiaaGreatB32
import Derived.Test.YtdeakieenppmiaaGreatB33
import Derived.Test.YtdeakieenppmiaaGreatB34
import Derived.Test.YtdeakieenppmiaaGreatB27
set_option linter.unusedVariables false
/- plumblineref03.PutAll. -/
namespace Go.Proofs.YtdeakieenppmiaaGreat
open Go.RowKit
open Tm

/-- How far the outer loop has come: the variable in box g; the loop began in W2. -/
def OutRel (W2 : World) (g : Nat) (R : List (Int × Int)) (K : Int) (j : Nat) (wr : World) : Prop :=
  ∃ (A : Option Addr) (r c : Nat) (s : Bool) (B : Option Addr) (m d : Nat), Box 28 wr g #[.slice A r c, .bool s, .slice B m d] ∧ TRes wr (.agg #[.slice A r c, .bool s, .slice B m d]) R K j ∧ Only g W2 wr
/-- How far the inner loop has come: the variable in box g, made in w5. -/
def InRel (w5 : World) (g : Nat) (P : List (Int × Int) × Int) (j : Nat) (wr : World) : Prop :=
  ∃ (A : Option Addr) (r c : Nat) (s : Bool) (B : Option Addr) (m d : Nat), Box 28 wr g #[.slice A r c, .bool s, .slice B m d] ∧ TIn wr (.agg #[.slice A r c, .bool s, .slice B m d]) P.1 P.2 j ∧ Below w5.heap.size w5 wr
theorem InRel.next {w5 w w' : World} {g j : Nat} {P : List (Int × Int) × Int} (h : InRel w5 g P j w) (hb : Below w.heap.size w w') : InRel w5 g P j w' := by
  obtain ⟨A, r, c, s, B, m, d, h1, h2, h3⟩ := h
  exact ⟨A, r, c, s, B, m, d, h1.next hb, h2.below hb, h3.next hb⟩
theorem TIn.onlyT {w w' : World} {v : Value} {g m c d q k : Nat} {B C : Option Addr} {s : Bool} {L : List (Int × Int)} {K : Int} (h : TIn w v L K k) (hb : Box 28 w g #[.slice B m c, .bool s, .slice C q d]) (ho : Only g w w') : TIn w' v L K k := by
  have hk : Kp w w' := hb.kp (nlT _ _ _ _ _ _ _) ho
  obtain ⟨A, n, c', s', B', m', d', e, h1, h2, h3, h4⟩ := h
  exact ⟨A, n, c', s', B', m', d', e, h1.keep ho hk (h1.offTerm hb), h2, h3, h4.kp hk⟩
theorem tv_agg (t : TV) : t.agg = .agg #[.slice t.A t.n t.c, .bool t.s, .slice t.B t.m t.d] := rfl
set_option maxRecDepth 100000 in
set_option maxHeartbeats 16000000 in
theorem rputAll_any (v : Value) (L : List (Int × Int)) (K : Int) (k : Nat) (VA : Option Addr) (vn vc : Nat) (vs : List Int) (TA : Option Addr) (tn tc : Nat) (ts : List TV) (kt : Nat) (w0 : World) (hv : TIn w0 v L K k) (hvs : IIn w0 VA vn vs) (hvn : vn ≤ 1099511627)
    (hts : TermsIn w0 TA tn ts kt) (htn : tn ≤ 9223372036854775807) (htl : ∀ t ∈ ts, t.L.length ≤ 100) (hl : L.length ≤ 100) (hk : k ≤ 1000000) (hkt : kt ≤ 1000000) :
    Calls Tryz.prog 9 #[v, .slice VA vn vc, .slice TA tn tc] w0 (TPost (norm (putL vs (pairs ts) (norm L))) (K + putK vs (pairs ts) (norm L)) (k + kt + 1000 + 20000 * 100) w0) := by
  have hv0 := hv
  obtain ⟨A, n, c, s, B, m, d, rfl, hp, hc1, hc2, hK⟩ := hv
  obtain ⟨z0, z1, z2, z3⟩ := bstart2 28 28 w0 #[.slice A n c, .bool s, .slice B m d] #[.slice none 0 0, .bool false, .slice none 0 0]
  have hnu := rnumber_t _ K k _ (hK.below z2) (by omega)
  have x1 := z0.c1
  have x2 := z0.c2
  have HTL := hide (show ∀ t ∈ pairs ts, t.1.length ≤ 100 from fun t ht => by
    obtain ⟨t', h1, rfl⟩ := List.mem_map.1 ht
    exact htl t' h1)
  have HNL := hide (norm_length L)
  have HVS := hide hvs
  have HVN := hide hvs.1
  have HTS := hide hts
  have HTN := hide hts.1
  clear hp hK htl hvs hts
  go_enter Tryz.func9, Tryz.ntmps9
  go_wp2_with fail
  refine hnu.mono ?_
  rintro e w1 ⟨v1, rfl, r1, b1⟩
  obtain ⟨A1, n1, c1, s1, B1, m1', d1, rfl⟩ := r1.form
  obtain ⟨y0, y1, y2⟩ := bstart1 28 w1 #[.slice A1 n1 c1, .bool s1, .slice B1 m1' d1]
  have Q0 := (z0.next b1).next y1
  have x0 := Q0.c0
  have x1' := Q0.c1
  have x2' := Q0.c2
  have hT1 := (z2.next b1).next y1
  have hva := rvars_any _ L K k _ (hv0.below hT1) (by omega) (by omega)
  have HY0 := hide y0
  have HR1 := hide (r1.below y1)
  have HQ0 := hide Q0
  have HQ1 := hide ((z1.next b1).next y1)
  have HT1 := hide hT1
  have HG8 := hide (show w0.heap.size + 1 < w1.heap.size by have := b1.size; omega)
  clear hnu r1 b1 y0 y1 y2 z0 z1 z2 z3 x1 x2 Q0 hT1
  go_wp2_with fail
  refine hva.mono ?_
  rintro e W2 ⟨AV, cV, rfl, iv, hv1, hv2, b2⟩
  have IV := hide iv
  have HT2 := hide (HT1.out.next b2)
  have HX0 := hide (HQ0.out.next b2)
  have HX1 := hide (HQ1.out.next b2)
  have HW2 := hide (show w1.heap.size < W2.heap.size by have := b2.size; rw [size_alloc] at this; omega)
  have HY2 := hide (HY0.out.next b2)
  have HE := hide (show OutRel W2 w1.heap.size (norm (putL vs (pairs ts) ((norm L).take 0))) (K + putK vs (pairs ts) ((norm L).take 0)) (k + kt + 1000 + 20000 * 0) W2 from
    ⟨A1, n1, c1, s1, B1, m1', d1, HY0.out.next b2, (TRes.ofEq (HR1.out.below b2) rfl (by simp [putK])).mono (by omega), Only.refl _ _⟩)
  have hm1 : (vars L).length ≤ 100 := by have := vars_length L; omega
  clear iv b2 x0 x1' x2' hva
  generalize hm : (vars L).length = m1 at *
  have HM := hide hm
  clear hm
  go_wp2_with fail
  go_loopw [9] (fun i wr => ∃ q : Nat, q ≤ m1 ∧ i = .int .i64 q ∧ Hid (OutRel W2 w1.heap.size (norm (putL vs (pairs ts) ((norm L).take q))) (K + putK vs (pairs ts) ((norm L).take q)) (k + kt + 1000 + 20000 * q) wr)) (fun i _ => m1 - (intOf i).toNat)
  case atStart => exact ⟨0, Nat.zero_le _, rfl, HE⟩
  case round =>
    obtain ⟨q, hq, rfl, HR⟩ := hrel
    obtain ⟨A4, n4, c4, s4, B4, m4, d4, xg, r4, oW⟩ := HR.out
    have hT : Below w0.heap.size w0 wr := HT2.out.trans (oW.below HT2.out.size (by have := HG8.out; omega))
    by_cases hqm : q < m1
    · obtain ⟨bb, o, x, rfl, hlt, hx, c0⟩ := (IV.out.keepT (b0 := #[]) HY2.out oW).at_ hqm
      have HLp := hide (norm_get L q x hx)
      have HXN := hide (vars_range L q x hx)
      have HXT := hide (HX0.out.other oW (by have := HG8.out; omega))
      have hvr := rvar_any x wr
      have HXG := hide xg
      have HR4 := hide r4
      have HOW := hide oW
      have HTT := hide hT
      have HC0 := hide c0
      have HLT := hide hlt
      clear xg r4 oW hT hx HR
      go_wp2_with fail
      refine hvr.mono ?_
      rintro e w5 ⟨v5, rfl, r5, b5⟩
      obtain ⟨A5, n5, c5, s5, B5, m5, d5, rfl⟩ := r5.form
      obtain ⟨p0, p1, -⟩ := bstart1 28 w5 #[.slice A5 n5 c5, .bool s5, .slice B5 m5 d5]
      have hi0 : IntKind.i64.wrap ((vn : Int) - 1) = (vn : Int) - 1 := IntWalk.i64_in _ (by omega)
      have HI := hide (show InRel w5 w5.heap.size (place (vs.drop vn) ((pairs ts).drop vn) x) (kt + 3) (w5.alloc (.cells #[.slice A5 n5 c5, .bool s5, .slice B5 m5 d5] 28)) from
        ⟨A5, n5, c5, s5, B5, m5, d5, p0, by
          rw [List.drop_eq_nil_of_le (by rw [HVN.out]; exact Nat.le_refl _), place_nil]
          show TIn _ _ [(x, 1)] 0 _
          rw [← HXN.out]
          exact (r5.in_.below p1).mono (by omega), p1⟩)
      have HB5 := hide b5
      clear hvr r5 b5 p0 p1 c0 hlt
      go_wp2_with fail
      go_loopw [11] (fun i wr => ∃ kk : Nat, kk ≤ vn ∧ i = .int .i64 ((kk : Int) - 1) ∧ Hid (InRel w5 w5.heap.size (place (vs.drop kk) ((pairs ts).drop kk) x) (kt + 3) wr)) (fun i _ => (intOf i + 1).toNat)
      case atStart => exact ⟨vn, Nat.le_refl _, by go_num, HI⟩
      case round =>
        obtain ⟨kk, hkk, hi, HI2⟩ := hrel
        obtain ⟨A6, n6, c6, s6, B6, m6, d6, xp, tp, bI⟩ := HI2.out
        have HTI := hide (show Below w0.heap.size w0 wr from (HTT.out.next HB5.out).next bI)
        by_cases hk0 : kk = 0
        · subst hk0
          have hi2 := hi.trans (show Value.int .i64 (((0 : Nat) : Int) - 1) = .int .i64 (-1) from rfl)
          clear hi
          subst hi2
          have HPP := hide (show TIn wr (.agg #[.slice A6 n6 c6, .bool s6, .slice B6 m6 d6]) (place vs (pairs ts) x).1 (place vs (pairs ts) x).2 (kt + 3) from by simpa using tp)
          have HXI := hide ((HXG.out.next HB5.out).next bI)
          have HA := hide (hv0.below HTI.out)
          have HO := hide ((HR4.out.below HB5.out).below bI)
          have HXTI := hide ((HXT.out.next HB5.out).next bI)
          have HPL := hide (place_length vs (pairs ts) x 100 (by decide) HTL.out)
          have HPU := hide (show (norm (putL vs (pairs ts) ((norm L).take q))).length ≤ 10000 from by
            have h1 := norm_length (putL vs (pairs ts) ((norm L).take q))
            have h2 := putL_length vs (pairs ts) 100 (by decide) HTL.out ((norm L).take q)
            have h3 : ((norm L).take q).length ≤ 100 := by rw [List.length_take]; have := HNL.out; omega
            have h4 := Nat.mul_le_mul_right 100 h3
            omega)
          have HPN := hide (show (norm ((place vs (pairs ts) x).1.map fun r => (r.1, r.2 * coef L x))).length ≤ 100 from by
            have h1 := norm_length ((place vs (pairs ts) x).1.map fun r => (r.1, r.2 * coef L x))
            rw [List.length_map] at h1
            have := HPL.out
            omega)
          have hq100 : q ≤ 100 := by omega
          obtain ⟨jq, hjq⟩ : ∃ jq, jq = k + kt + 1000 + 20000 * q := ⟨_, rfl⟩
          rw [← hjq] at HO
          have hj1 : k + kt + 1000 ≤ jq := by omega
          have hj2 : jq ≤ 10000000 := by omega
          have HJ3 := hide (show jq + 20000 = k + kt + 1000 + 20000 * (q + 1) by omega)
          have HBI := hide bI
          have HXP := hide xp
          have SOF := hide (show ∀ W, Below wr.heap.size wr W → (W.cell? ⟨w1.heap.size, 0, none⟩ = some (.slice A4 n4 c4) ∧ W.cell? ⟨w1.heap.size, 1, none⟩ = some (.bool s4) ∧ W.cell? ⟨w1.heap.size, 2, none⟩ = some (.slice B4 m4 d4) ∧ W.cell? ⟨w5.heap.size, 0, none⟩ = some (.slice A6 n6 c6) ∧ W.cell? ⟨w5.heap.size, 1, none⟩ = some (.bool s6) ∧ W.cell? ⟨w5.heap.size, 2, none⟩ = some (.slice B6 m6 d6) ∧ W.cell? ⟨w0.heap.size, 0, none⟩ = some (.slice A n c) ∧ W.cell? ⟨w0.heap.size, 1, none⟩ = some (.bool s) ∧ W.cell? ⟨w0.heap.size, 2, none⟩ = some (.slice B m d) ∧ W.cell? ⟨bb, o + q, none⟩ = some (.int .i64 x)) from fun W h =>
            ⟨(HXI.out.next h).c0, (HXI.out.next h).c1, (HXI.out.next h).c2, (HXP.out.next h).c0, (HXP.out.next h).c1, (HXP.out.next h).c2, (HXTI.out.next h).c0, (HXTI.out.next h).c1, (HXTI.out.next h).c2, (((HB5.out.next HBI.out).next h).cell (p := ⟨bb, o + q, none⟩) HLT.out).trans HC0.out⟩)
          clear hjq bI xp tp HI2
          go_wp2_with fail
          refine wp_drawnL (by kernel_rfl) (by kernel_rfl) (by kernel_rfl) (by kernel_rfl) (fun w w' => Below w.heap.size w w') (fun j v w => match j with | 0 => v = .agg #[.slice A4 n4 c4, .bool s4, .slice B4 m4 d4] | 1 => v = .agg #[.slice A6 n6 c6, .bool s6, .slice B6 m6 d6] | 2 => v = .agg #[.slice A n c, .bool s, .slice B m d] | 3 => v = .slice (some ⟨bb, o, none⟩) m1 cV | 4 => v = .int .i64 (q : Int) | 5 => v = .pointer (some ⟨bb, o + q, none⟩) | 6 => v = .int .i64 x | 7 => ZRes w v (coef L x) (k + L.length) | 8 => TRes w v (norm ((place vs (pairs ts) x).1.map fun r => (r.1, r.2 * coef L x))) ((place vs (pairs ts) x).2 * coef L x) (k + kt + 300) | 9 => TRes w v (norm (norm (putL vs (pairs ts) ((norm L).take q)) ++ norm ((place vs (pairs ts) x).1.map fun r => (r.1, r.2 * coef L x)))) (K + putK vs (pairs ts) ((norm L).take q) + (place vs (pairs ts) x).2 * coef L x) (jq + 20000) | _ => True) (fun _ _ w => Below wr.heap.size wr w) ?_ (fun _ => bl_drewN wr 1) ?_ ?_
          · intro j v w w' hT h
            match j, h with
            | 0, h => exact h
            | 1, h => exact h
            | 2, h => exact h
            | 3, h => exact h
            | 4, h => exact h
            | 5, h => exact h
            | 6, h => exact h
            | 7, h => exact h.below hT
            | 8, h => exact h.below hT
            | 9, h => exact h.below hT
            | j + 10, h => trivial
          · refine ⟨?_, ?_, ?_, ?_, ?_, ?_, ?_, ?_, ?_, ?_, trivial⟩
            · intro listed σ w a hin hout hl hla hs hc hp hG hF
              refine Guarded.none rfl ?_
              have e7 : a.tmps.getD 7 undef = .pointer (some ⟨w1.heap.size, 0, none⟩) := hout 7 (outB_spec (by kernel_rfl))
              have CC := SOF.out w hG; obtain ⟨C0, C1, C2, D0, D1, D2, E0, E1, E2, I0⟩ := CC
              refine Does.val (.agg #[.slice A4 n4 c4, .bool s4, .slice B4 m4 d4]) (w' := w) ?_ ⟨Below.refl _ _, rfl, hG⟩
              go_simp
            · intro listed σ w a hin hout hl hla hs hc hp hG hF
              refine Guarded.none rfl ?_
              have e10 : a.tmps.getD 10 undef = .pointer (some ⟨w5.heap.size, 0, none⟩) := hout 10 (outB_spec (by kernel_rfl))
              have CC := SOF.out w hG; obtain ⟨C0, C1, C2, D0, D1, D2, E0, E1, E2, I0⟩ := CC
              refine Does.val (.agg #[.slice A6 n6 c6, .bool s6, .slice B6 m6 d6]) (w' := w) ?_ ⟨Below.refl _ _, rfl, hG⟩
              go_simp
            · intro listed σ w a hin hout hl hla hs hc hp hG hF
              refine Guarded.none rfl ?_
              have e3 : a.tmps.getD 3 undef = .pointer (some ⟨w0.heap.size, 0, none⟩) := hout 3 (outB_spec (by kernel_rfl))
              have CC := SOF.out w hG; obtain ⟨C0, C1, C2, D0, D1, D2, E0, E1, E2, I0⟩ := CC
              refine Does.val (.agg #[.slice A n c, .bool s, .slice B m d]) (w' := w) ?_ ⟨Below.refl _ _, rfl, hG⟩
              go_simp
            · intro listed σ w a hin hout hl hla hs hc hp hG hF
              refine Guarded.none rfl ?_
              have e8 : a.tmps.getD 8 undef = .slice (some ⟨bb, o, none⟩) m1 cV := hout 8 (outB_spec (by kernel_rfl))
              refine Does.val (.slice (some ⟨bb, o, none⟩) m1 cV) (w' := w) ?_ ⟨Below.refl _ _, rfl, hG⟩
              simp only [Array.getD_eq_getD_getElem?] at e8
              go_simp
            · intro listed σ w a hin hout hl hla hs hc hp hG hF
              refine Guarded.none rfl ?_
              have e9 : a.tmps.getD 9 undef = .int .i64 (q : Int) := hout 9 (outB_spec (by kernel_rfl))
              refine Does.val (.int .i64 (q : Int)) (w' := w) ?_ ⟨Below.refl _ _, rfl, hG⟩
              simp only [Array.getD_eq_getD_getElem?] at e9
              go_simp
            · intro listed σ w a hin hout hl hla hs hc hp hG hF
              refine Guarded.none rfl ?_
              have e77 : a.tmps.getD 77 undef = .slice (some ⟨bb, o, none⟩) m1 cV := (hin 3 77 rfl (hp ⟨3, .data⟩ (by simp) rfl)).trans (hF 3 (hp ⟨3, .data⟩ (by simp) rfl))
              have e78 : a.tmps.getD 78 undef = .int .i64 (q : Int) := (hin 4 78 rfl (hp ⟨4, .data⟩ (by simp) rfl)).trans (hF 4 (hp ⟨4, .data⟩ (by simp) rfl))
              refine Does.val (.pointer (some ⟨bb, o + q, none⟩)) (w' := w) ?_ ⟨Below.refl _ _, rfl, hG⟩
              simp only [Array.getD_eq_getD_getElem?] at e77 e78
              go_simp
              (try (intro hh; exfalso; omega))
            · intro listed σ w a hin hout hl hla hs hc hp hG hF
              refine Guarded.none rfl ?_
              have e79 : a.tmps.getD 79 undef = .pointer (some ⟨bb, o + q, none⟩) := (hin 5 79 rfl (hp ⟨5, .data⟩ (by simp) rfl)).trans (hF 5 (hp ⟨5, .data⟩ (by simp) rfl))
              have CC := SOF.out w hG; obtain ⟨C0, C1, C2, D0, D1, D2, E0, E1, E2, I0⟩ := CC
              refine Does.val (.int .i64 x) (w' := w) ?_ ⟨Below.refl _ _, rfl, hG⟩
              go_simp
            · intro listed σ w a hin hout hl hla hs hc hp hG hF
              refine Guarded.none rfl ?_
              have e76 : a.tmps.getD 76 undef = .agg #[.slice A n c, .bool s, .slice B m d] := (hin 2 76 rfl (hp ⟨2, .data⟩ (by simp) rfl)).trans (hF 2 (hp ⟨2, .data⟩ (by simp) rfl))
              have e80 : a.tmps.getD 80 undef = .int .i64 x := (hin 6 80 rfl (hp ⟨6, .data⟩ (by simp) rfl)).trans (hF 6 (hp ⟨6, .data⟩ (by simp) rfl))
              refine Does.call ?_ (rcoef_any _ L K x k w (HA.out.below hG) (by omega) (by omega)) ?_
              · go_simp
              · rintro e w' ⟨v, rfl, z, hb⟩
                exact ⟨_, rfl, hb, z, hG.next hb⟩
            · intro listed σ w a hin hout hl hla hs hc hp hG hF
              refine Guarded.none rfl ?_
              have e75 : a.tmps.getD 75 undef = .agg #[.slice A6 n6 c6, .bool s6, .slice B6 m6 d6] := (hin 1 75 rfl (hp ⟨1, .data⟩ (by simp) rfl)).trans (hF 1 (hp ⟨1, .data⟩ (by simp) rfl))
              have e81 := hin 7 81 rfl (hp ⟨7, .data⟩ (by simp) rfl)
              have z7 := hF 7 (hp ⟨7, .data⟩ (by simp) rfl)
              refine Does.call ?_ (rtscale_any _ _ _ _ _ (kt + 3) (k + L.length) w (HPP.out.below hG) z7.in_ (by have := HPL.out; omega) (by omega) (by omega)) ?_
              · go_simp
              · rintro e w' ⟨v, rfl, z, hb⟩
                exact ⟨_, rfl, hb, z.mono (by have := HPL.out; omega), hG.next hb⟩
            · intro listed σ w a hin hout hl hla hs hc hp hG hF
              refine Guarded.none rfl ?_
              have e74 : a.tmps.getD 74 undef = .agg #[.slice A4 n4 c4, .bool s4, .slice B4 m4 d4] := (hin 0 74 rfl (hp ⟨0, .data⟩ (by simp) rfl)).trans (hF 0 (hp ⟨0, .data⟩ (by simp) rfl))
              have e82 := hin 8 82 rfl (hp ⟨8, .data⟩ (by simp) rfl)
              have z8 := hF 8 (hp ⟨8, .data⟩ (by simp) rfl)
              refine Does.call ?_ (rtadd_any _ _ _ _ _ _ jq w (HO.out.below hG).in_ (z8.in_.mono (by omega)) (by have := HPU.out; omega) (by have := HPN.out; omega) (by omega)) ?_
              · go_simp
              · rintro e w' ⟨v, rfl, z, hb⟩
                exact ⟨_, rfl, hb, z.mono (by have := HPU.out; have := HPN.out; omega), hG.next hb⟩
          · intro o ho
            injection ho with ho; subst ho
            intro listed σ w a hall hin hout hG hF
            refine Guarded.none rfl ?_
            have e7 : a.tmps.getD 7 undef = .pointer (some ⟨w1.heap.size, 0, none⟩) := hout 7 (outL (by kernel_rfl))
            have e83 := hin 9 83 rfl (by decide)
            have z9 := hF 9 (by decide)
            obtain ⟨A8, n8, c8, s8, B8, m8, d8, ev8⟩ := TRes.form z9
            rw [ev8] at e83 z9
            refine Does.store_box (T := 28) (cells := #[.slice A8 n8 c8, .bool s8, .slice B8 m8 d8]) rfl e7 e83 (HXI.out.next hG) (by kernel_rfl) rfl (by simp [Value.oneCell']) (fun w2 x9 o9 => ?_)
            rw [show fin _ σ undef _ = (Act.put (Act.put (Act.put (Act.put (Act.put (Act.put (Act.put (Act.put (Act.put (Act.put (Act.put _ (some 74) (σ 0)) (some 75) (σ 1)) (some 76) (σ 2)) (some 77) (σ 3)) (some 78) (σ 4)) (some 79) (σ 5)) (some 80) (σ 6)) (some 81) (σ 7)) (some 82) (σ 8)) (some 83) (σ 9)) none undef) from (fin_all hall).trans rfl]
            simp only [Act.put, List.setIfInBounds_toArray, List.set_cons_zero, List.set_cons_succ]
            generalize σ 0 = tt0; generalize σ 1 = tt1; generalize σ 2 = tt2; generalize σ 3 = tt3; generalize σ 4 = tt4; generalize σ 5 = tt5; generalize σ 6 = tt6; generalize σ 7 = tt7; generalize σ 8 = tt8; generalize σ 9 = tt9
            have HE2 := hide (show OutRel W2 w1.heap.size (norm (putL vs (pairs ts) ((norm L).take (q + 1)))) (K + putK vs (pairs ts) ((norm L).take (q + 1))) (k + kt + 1000 + 20000 * (q + 1)) w2 from
              ⟨A8, n8, c8, s8, B8, m8, d8, x9, by rw [← HJ3.out]; exact (z9.only (HXI.out.next hG) o9).ofEq (rput_step vs (pairs ts) (norm L) q x _ HLp.out) (rput_stepK vs (pairs ts) (norm L) q x _ K HLp.out), (((HOW.out.next HB5.out).next HBI.out).next hG).trans o9⟩)
            clear hF hG hall hin hout SOF z9 x9 o9 ev8 e83 e7
            go_wp2_with fail
            go_roundw
            case rel => exact ⟨q + 1, by omega, by go_num, HE2⟩
            case measure => simp [intOf] <;> omega
        · obtain ⟨ii, rfl⟩ : ∃ ii, kk = ii + 1 := ⟨kk - 1, by omega⟩
          have hi2 := hi.trans (show Value.int .i64 (((ii + 1 : Nat) : Int) - 1) = .int .i64 (ii : Int) by rw [show (((ii + 1 : Nat) : Int) - 1) = (ii : Int) by omega])
          clear hi hk0
          subst hi2
          obtain ⟨vb, vo, y, rfl, hvlt, hy, cy⟩ := (HVS.out.below HTI.out).at_ (i := ii) (by omega)
          have hwi : IntKind.i64.wrap ((ii : Int) - 1) = (ii : Int) - 1 := IntWalk.i64_in _ (by omega)
          have HPD := hide (place_drop vs (pairs ts) ii y x hy)
          have HBI := hide bI
          have HXP := hide xp
          have HTP := hide tp
          have SO5 := hide (show ∀ W, Below w5.heap.size w5 W → (W.cell? ⟨vb, vo + ii, none⟩ = some (.int .i64 y) ∧ W.cell? ⟨bb, o + q, none⟩ = some (.int .i64 x)) from fun W h => by
            obtain ⟨vb', vo', y', e1, h1, h2, h3⟩ := (HVS.out.below ((HTT.out.next HB5.out).next h)).at_ (i := ii) (by omega)
            injection e1 with e1
            injection e1 with e2 e3
            subst e2 e3
            rw [hy] at h2
            injection h2 with h2
            subst h2
            exact ⟨h3, ((HB5.out.next h).cell (p := ⟨bb, o + q, none⟩) HLT.out).trans HC0.out⟩)
          have SOF := hide (fun W (h : Below wr.heap.size wr W) => SO5.out W (HBI.out.next h))
          clear hy cy hvlt bI xp tp HI2
          by_cases hyx : y = x
          · have hxy := hyx.symm
            clear hyx
            subst hxy
            by_cases hkt : ii < tn
            · obtain ⟨tb, to_, t, rfl, ht, k0, k1, k2, tt⟩ := (HTS.out.below HTI.out).at_ hkt
              have hkt2 : (ii : Int) < (tn : Int) := by omega
              have HPE := hide (show place (vs.drop ii) ((pairs ts).drop ii) x = (t.L, t.K) from by rw [HPD.out, if_pos rfl]; exact pairs_get ts ii t _ ht)
              have HTT5 := hide tt
              have HKC := hide (show ∀ W, Below wr.heap.size wr W → (W.cell? ⟨tb, to_ + ii * 3, none⟩ = some (.slice t.A t.n t.c) ∧ W.cell? ⟨tb, to_ + ii * 3 + 1, none⟩ = some (.bool t.s) ∧ W.cell? ⟨tb, to_ + ii * 3 + 2, none⟩ = some (.slice t.B t.m t.d)) from fun W h => by
                obtain ⟨tb', to', t', e1, h1, h2, h3, h4, -⟩ := (HTS.out.below (HTI.out.next h)).at_ hkt
                injection e1 with e1
                injection e1 with e2 e3
                subst e2 e3
                rw [ht] at h1
                injection h1 with h1
                subst h1
                exact ⟨h2, h3, h4⟩)
              clear ht k0 k1 k2 tt
              go_wp2_with fail
              refine wp_drawn (by kernel_rfl) (by kernel_rfl) (by kernel_rfl) (fun w w' => Below w.heap.size w w') (fun j v w => match j with | 0 => v = .slice (some ⟨vb, vo, none⟩) vn vc | 1 => v = .int .i64 (ii : Int) | 2 => v = .pointer (some ⟨vb, vo + ii, none⟩) | 3 => v = .int .i64 x | 4 => v = .slice (some ⟨bb, o, none⟩) m1 cV | 5 => v = .int .i64 (q : Int) | 6 => v = .pointer (some ⟨bb, o + q, none⟩) | 7 => v = .int .i64 x | 8 => v = .bool true | 9 => v = .bool true | 10 => v = .int .i64 (ii : Int) | 11 => v = .slice (some ⟨tb, to_, none⟩) tn tc | 12 => v = .int .i64 tn | 13 => v = .bool true | 14 => v = .bool true | _ => True) (fun _ _ w => Below wr.heap.size wr w) ?_ (fun _ => bl_drewN wr 1) ?_ ?_
              · intro j v w w' hT h
                match j, h with
                | 0, h => exact h
                | 1, h => exact h
                | 2, h => exact h
                | 3, h => exact h
                | 4, h => exact h
                | 5, h => exact h
                | 6, h => exact h
                | 7, h => exact h
                | 8, h => exact h
                | 9, h => exact h
                | 10, h => exact h
                | 11, h => exact h
                | 12, h => exact h
                | 13, h => exact h
                | 14, h => exact h
                | j + 15, h => trivial
              · refine ⟨?_, ?_, ?_, ?_, ?_, ?_, ?_, ?_, ?_, ?_, ?_, ?_, ?_, ?_, ?_, trivial⟩
                · intro listed σ w a hin hout hl hc hp hG hF
                  refine Guarded.none rfl ?_
                  have e1 : a.tmps.getD 1 undef = .slice (some ⟨vb, vo, none⟩) vn vc := hout 1 (outB_spec (by kernel_rfl))
                  refine Does.val (.slice (some ⟨vb, vo, none⟩) vn vc) (w' := w) ?_ ⟨Below.refl _ _, rfl, hG⟩
                  simp only [Array.getD_eq_getD_getElem?] at e1
                  go_simp
                · intro listed σ w a hin hout hl hc hp hG hF
                  refine Guarded.none rfl ?_
                  have e11 : a.tmps.getD 11 undef = .int .i64 (ii : Int) := hout 11 (outB_spec (by kernel_rfl))
                  refine Does.val (.int .i64 (ii : Int)) (w' := w) ?_ ⟨Below.refl _ _, rfl, hG⟩
                  simp only [Array.getD_eq_getD_getElem?] at e11
                  go_simp
                · intro listed σ w a hin hout hl hc hp hG hF
                  refine Guarded.none rfl ?_
                  have e35 : a.tmps.getD 35 undef = .slice (some ⟨vb, vo, none⟩) vn vc := (hin 0 35 rfl (hp ⟨0, .data⟩ (by simp) rfl)).trans (hF 0 (hp ⟨0, .data⟩ (by simp) rfl))
                  have e36 : a.tmps.getD 36 undef = .int .i64 (ii : Int) := (hin 1 36 rfl (hp ⟨1, .data⟩ (by simp) rfl)).trans (hF 1 (hp ⟨1, .data⟩ (by simp) rfl))
                  refine Does.val (.pointer (some ⟨vb, vo + ii, none⟩)) (w' := w) ?_ ⟨Below.refl _ _, rfl, hG⟩
                  simp only [Array.getD_eq_getD_getElem?] at e35 e36
                  go_simp
                  (try (intro hh; exfalso; omega))
                · intro listed σ w a hin hout hl hc hp hG hF
                  refine Guarded.none rfl ?_
                  have e37 : a.tmps.getD 37 undef = .pointer (some ⟨vb, vo + ii, none⟩) := (hin 2 37 rfl (hp ⟨2, .data⟩ (by simp) rfl)).trans (hF 2 (hp ⟨2, .data⟩ (by simp) rfl))
                  have CC := SOF.out w hG; obtain ⟨C0, D0⟩ := CC
                  refine Does.val (.int .i64 x) (w' := w) ?_ ⟨Below.refl _ _, rfl, hG⟩
                  go_simp
                · intro listed σ w a hin hout hl hc hp hG hF
                  refine Guarded.none rfl ?_
                  have e8 : a.tmps.getD 8 undef = .slice (some ⟨bb, o, none⟩) m1 cV := hout 8 (outB_spec (by kernel_rfl))
                  refine Does.val (.slice (some ⟨bb, o, none⟩) m1 cV) (w' := w) ?_ ⟨Below.refl _ _, rfl, hG⟩
                  simp only [Array.getD_eq_getD_getElem?] at e8
                  go_simp
                · intro listed σ w a hin hout hl hc hp hG hF
                  refine Guarded.none rfl ?_
                  have e9 : a.tmps.getD 9 undef = .int .i64 (q : Int) := hout 9 (outB_spec (by kernel_rfl))
                  refine Does.val (.int .i64 (q : Int)) (w' := w) ?_ ⟨Below.refl _ _, rfl, hG⟩
                  simp only [Array.getD_eq_getD_getElem?] at e9
                  go_simp
                · intro listed σ w a hin hout hl hc hp hG hF
                  refine Guarded.none rfl ?_
                  have e39 : a.tmps.getD 39 undef = .slice (some ⟨bb, o, none⟩) m1 cV := (hin 4 39 rfl (hp ⟨4, .data⟩ (by simp) rfl)).trans (hF 4 (hp ⟨4, .data⟩ (by simp) rfl))
                  have e40 : a.tmps.getD 40 undef = .int .i64 (q : Int) := (hin 5 40 rfl (hp ⟨5, .data⟩ (by simp) rfl)).trans (hF 5 (hp ⟨5, .data⟩ (by simp) rfl))
                  refine Does.val (.pointer (some ⟨bb, o + q, none⟩)) (w' := w) ?_ ⟨Below.refl _ _, rfl, hG⟩
                  simp only [Array.getD_eq_getD_getElem?] at e39 e40
                  go_simp
                  (try (intro hh; exfalso; omega))
                · intro listed σ w a hin hout hl hc hp hG hF
                  refine Guarded.none rfl ?_
                  have e41 : a.tmps.getD 41 undef = .pointer (some ⟨bb, o + q, none⟩) := (hin 6 41 rfl (hp ⟨6, .data⟩ (by simp) rfl)).trans (hF 6 (hp ⟨6, .data⟩ (by simp) rfl))
                  have CC := SOF.out w hG; obtain ⟨C0, D0⟩ := CC
                  refine Does.val (.int .i64 x) (w' := w) ?_ ⟨Below.refl _ _, rfl, hG⟩
                  go_simp
                · intro listed σ w a hin hout hl hc hp hG hF
                  refine Guarded.none rfl ?_
                  have e38 : a.tmps.getD 38 undef = .int .i64 x := (hin 3 38 rfl (hp ⟨3, .data⟩ (by simp) rfl)).trans (hF 3 (hp ⟨3, .data⟩ (by simp) rfl))
                  have e42 : a.tmps.getD 42 undef = .int .i64 x := (hin 7 42 rfl (hp ⟨7, .data⟩ (by simp) rfl)).trans (hF 7 (hp ⟨7, .data⟩ (by simp) rfl))
                  refine Does.val (.bool true) (w' := w) ?_ ⟨Below.refl _ _, rfl, hG⟩
                  simp only [Array.getD_eq_getD_getElem?] at e38 e42
                  go_simp
                · intro listed σ w a hin hout hl hc hp hG hF
                  refine Guarded.none rfl ?_
                  have e43 : a.tmps.getD 43 undef = .bool true := (hin 8 43 rfl (hp ⟨8, .data⟩ (by simp) rfl)).trans (hF 8 (hp ⟨8, .data⟩ (by simp) rfl))
                  refine Does.val (.bool true) (w' := w) ?_ ⟨Below.refl _ _, rfl, hG⟩
                  simp only [Array.getD_eq_getD_getElem?] at e43
                  go_simp
                · intro listed σ w a hin hout hl hc hp hG hF
                  refine Guarded.some (d := 44) (b := true) rfl rfl ((hin 9 44 rfl (hp ⟨9, .guard⟩ (by simp) rfl)).trans (hF 9 (hp ⟨9, .guard⟩ (by simp) rfl))) ?_
                  refine Or.inl ⟨rfl, ?_⟩
                  have e11 : a.tmps.getD 11 undef = .int .i64 (ii : Int) := hout 11 (outB_spec (by kernel_rfl))
                  refine Does.val (.int .i64 (ii : Int)) (w' := w) ?_ ⟨Below.refl _ _, rfl, hG⟩
                  simp only [Array.getD_eq_getD_getElem?] at e11
                  go_simp
                · intro listed σ w a hin hout hl hc hp hG hF
                  refine Guarded.some (d := 44) (b := true) rfl rfl ((hin 9 44 rfl (hp ⟨9, .guard⟩ (by simp) rfl)).trans (hF 9 (hp ⟨9, .guard⟩ (by simp) rfl))) ?_
                  refine Or.inl ⟨rfl, ?_⟩
                  have e2 : a.tmps.getD 2 undef = .slice (some ⟨tb, to_, none⟩) tn tc := hout 2 (outB_spec (by kernel_rfl))
                  refine Does.val (.slice (some ⟨tb, to_, none⟩) tn tc) (w' := w) ?_ ⟨Below.refl _ _, rfl, hG⟩
                  simp only [Array.getD_eq_getD_getElem?] at e2
                  go_simp
                · intro listed σ w a hin hout hl hc hp hG hF
                  refine Guarded.some (d := 44) (b := true) rfl rfl ((hin 9 44 rfl (hp ⟨9, .guard⟩ (by simp) rfl)).trans (hF 9 (hp ⟨9, .guard⟩ (by simp) rfl))) ?_
                  refine Or.inl ⟨rfl, ?_⟩
                  have e46 : a.tmps.getD 46 undef = .slice (some ⟨tb, to_, none⟩) tn tc := (hin 11 46 rfl (hp ⟨11, .data⟩ (by simp) rfl)).trans (hF 11 (hp ⟨11, .data⟩ (by simp) rfl))
                  refine Does.val (.int .i64 tn) (w' := w) ?_ ⟨Below.refl _ _, rfl, hG⟩
                  simp only [Array.getD_eq_getD_getElem?] at e46
                  go_simp
                · intro listed σ w a hin hout hl hc hp hG hF
                  refine Guarded.some (d := 44) (b := true) rfl rfl ((hin 9 44 rfl (hp ⟨9, .guard⟩ (by simp) rfl)).trans (hF 9 (hp ⟨9, .guard⟩ (by simp) rfl))) ?_
                  refine Or.inl ⟨rfl, ?_⟩
                  have e45 : a.tmps.getD 45 undef = .int .i64 (ii : Int) := (hin 10 45 rfl (hp ⟨10, .data⟩ (by simp) rfl)).trans (hF 10 (hp ⟨10, .data⟩ (by simp) rfl))
                  have e47 : a.tmps.getD 47 undef = .int .i64 tn := (hin 12 47 rfl (hp ⟨12, .data⟩ (by simp) rfl)).trans (hF 12 (hp ⟨12, .data⟩ (by simp) rfl))
                  refine Does.val (.bool true) (w' := w) ?_ ⟨Below.refl _ _, rfl, hG⟩
                  simp only [Array.getD_eq_getD_getElem?] at e45 e47
                  go_simp
                · intro listed σ w a hin hout hl hc hp hG hF
                  refine Guarded.none rfl ?_
                  have e44 : a.tmps.getD 44 undef = .bool true := (hin 9 44 rfl (hp ⟨9, .data⟩ (by simp) rfl)).trans (hF 9 (hp ⟨9, .data⟩ (by simp) rfl))
                  have e48 : a.tmps.getD 48 undef = .bool true := (hin 13 48 rfl (hp ⟨13, .data⟩ (by simp) rfl)).trans (hF 13 (hp ⟨13, .data⟩ (by simp) rfl))
                  refine Does.val (.bool true) (w' := w) ?_ ⟨Below.refl _ _, rfl, hG⟩
                  simp only [Array.getD_eq_getD_getElem?] at e44 e48
                  go_simp
              · intro listed σ W9 hall hG hF
                rw [show mid _ σ listed _ = (Act.put (Act.put (Act.put (Act.put (Act.put (Act.put (Act.put (Act.put (Act.put (Act.put (Act.put (Act.put (Act.put (Act.put (Act.put _ (some 35) (σ 0)) (some 36) (σ 1)) (some 37) (σ 2)) (some 38) (σ 3)) (some 39) (σ 4)) (some 40) (σ 5)) (some 41) (σ 6)) (some 42) (σ 7)) (some 43) (σ 8)) (some 44) (σ 9)) (some 45) (σ 10)) (some 46) (σ 11)) (some 47) (σ 12)) (some 48) (σ 13)) (some 49) (σ 14)) from (mid_all hall).trans rfl]
                generalize σ 0 = tt0
                generalize σ 1 = tt1
                generalize σ 2 = tt2
                generalize σ 3 = tt3
                generalize σ 4 = tt4
                generalize σ 5 = tt5
                generalize σ 6 = tt6
                generalize σ 7 = tt7
                generalize σ 8 = tt8
                generalize σ 9 = tt9
                generalize σ 10 = tt10
                generalize σ 11 = tt11
                generalize σ 12 = tt12
                generalize σ 13 = tt13
                rw [show σ 14 = .bool true from hF 14 (by decide)]
                simp only [Act.put, List.setIfInBounds_toArray, List.set_cons_zero, List.set_cons_succ]
                have TG := hG
                clear hF hG hall
                clear σ
                obtain ⟨k0, k1, k2⟩ := HKC.out W9 TG
                have xp9 := HXP.out.next TG
                go_wp2_with (with_reducible refine wpList_store_t rfl _ _ rfl w5.heap.size _ _ _ _ _ _ _ rfl rfl _ _ _ xp9 ?_; intro w7 x7 o7)
                have HE2 := hide (show InRel w5 w5.heap.size (place (vs.drop ii) ((pairs ts).drop ii) x) (kt + 3) w7 from ⟨_, _, _, _, _, _, _, x7, by rw [HPE.out]; exact ((TIn.below (show TIn wr (.agg #[.slice t.A t.n t.c, .bool t.s, .slice t.B t.m t.d]) t.L t.K kt from HTT5.out) TG).onlyT xp9 o7).mono (by omega), zback (HBI.out.next TG) (Nat.le_refl _) o7⟩)
                have SOF := hide (fun W (h : Below w7.heap.size w7 W) => SO5.out W ((zback (HBI.out.next TG) (Nat.le_refl _) o7).next h))
                clear k0 k1 k2 xp9 x7 o7 TG
                refine wp_drawn (by kernel_rfl) (by kernel_rfl) (by kernel_rfl) (fun w w' => Below w.heap.size w w') (fun j v w => match j with | 0 => v = .slice (some ⟨vb, vo, none⟩) vn vc | 1 => v = .int .i64 (ii : Int) | 2 => v = .pointer (some ⟨vb, vo + ii, none⟩) | 3 => v = .int .i64 x | 4 => v = .slice (some ⟨bb, o, none⟩) m1 cV | 5 => v = .int .i64 (q : Int) | 6 => v = .pointer (some ⟨bb, o + q, none⟩) | 7 => v = .int .i64 x | 8 => v = .bool true | 9 => v = .bool true | 10 => v = .int .i64 (ii : Int) | 11 => v = .slice (some ⟨tb, to_, none⟩) tn tc | 12 => v = .int .i64 tn | 13 => v = .bool false | 14 => v = .bool false | _ => True) (fun _ _ w => Below w7.heap.size w7 w) ?_ (fun _ => bl_drewN w7 1) ?_ ?_
                · intro j v w w' hT h
                  match j, h with
                  | 0, h => exact h
                  | 1, h => exact h
                  | 2, h => exact h
                  | 3, h => exact h
                  | 4, h => exact h
                  | 5, h => exact h
                  | 6, h => exact h
                  | 7, h => exact h
                  | 8, h => exact h
                  | 9, h => exact h
                  | 10, h => exact h
                  | 11, h => exact h
                  | 12, h => exact h
                  | 13, h => exact h
                  | 14, h => exact h
                  | j + 15, h => trivial
                · refine ⟨?_, ?_, ?_, ?_, ?_, ?_, ?_, ?_, ?_, ?_, ?_, ?_, ?_, ?_, ?_, trivial⟩
                  · intro listed σ w a hin hout hl hc hp hG hF
                    refine Guarded.none rfl ?_
                    have e1 : a.tmps.getD 1 undef = .slice (some ⟨vb, vo, none⟩) vn vc := hout 1 (outB_spec (by kernel_rfl))
                    refine Does.val (.slice (some ⟨vb, vo, none⟩) vn vc) (w' := w) ?_ ⟨Below.refl _ _, rfl, hG⟩
                    simp only [Array.getD_eq_getD_getElem?] at e1
                    go_simp
                  · intro listed σ w a hin hout hl hc hp hG hF
                    refine Guarded.none rfl ?_
                    have e11 : a.tmps.getD 11 undef = .int .i64 (ii : Int) := hout 11 (outB_spec (by kernel_rfl))
                    refine Does.val (.int .i64 (ii : Int)) (w' := w) ?_ ⟨Below.refl _ _, rfl, hG⟩
                    simp only [Array.getD_eq_getD_getElem?] at e11
                    go_simp
                  · intro listed σ w a hin hout hl hc hp hG hF
                    refine Guarded.none rfl ?_
                    have e54 : a.tmps.getD 54 undef = .slice (some ⟨vb, vo, none⟩) vn vc := (hin 0 54 rfl (hp ⟨0, .data⟩ (by simp) rfl)).trans (hF 0 (hp ⟨0, .data⟩ (by simp) rfl))
                    have e55 : a.tmps.getD 55 undef = .int .i64 (ii : Int) := (hin 1 55 rfl (hp ⟨1, .data⟩ (by simp) rfl)).trans (hF 1 (hp ⟨1, .data⟩ (by simp) rfl))
                    refine Does.val (.pointer (some ⟨vb, vo + ii, none⟩)) (w' := w) ?_ ⟨Below.refl _ _, rfl, hG⟩
                    simp only [Array.getD_eq_getD_getElem?] at e54 e55
                    go_simp
                    (try (intro hh; exfalso; omega))
                  · intro listed σ w a hin hout hl hc hp hG hF
                    refine Guarded.none rfl ?_
                    have e56 : a.tmps.getD 56 undef = .pointer (some ⟨vb, vo + ii, none⟩) := (hin 2 56 rfl (hp ⟨2, .data⟩ (by simp) rfl)).trans (hF 2 (hp ⟨2, .data⟩ (by simp) rfl))
                    have CC := SOF.out w hG; obtain ⟨C0, D0⟩ := CC
                    refine Does.val (.int .i64 x) (w' := w) ?_ ⟨Below.refl _ _, rfl, hG⟩
                    go_simp
                  · intro listed σ w a hin hout hl hc hp hG hF
                    refine Guarded.none rfl ?_
                    have e8 : a.tmps.getD 8 undef = .slice (some ⟨bb, o, none⟩) m1 cV := hout 8 (outB_spec (by kernel_rfl))
                    refine Does.val (.slice (some ⟨bb, o, none⟩) m1 cV) (w' := w) ?_ ⟨Below.refl _ _, rfl, hG⟩
                    simp only [Array.getD_eq_getD_getElem?] at e8
                    go_simp
                  · intro listed σ w a hin hout hl hc hp hG hF
                    refine Guarded.none rfl ?_
                    have e9 : a.tmps.getD 9 undef = .int .i64 (q : Int) := hout 9 (outB_spec (by kernel_rfl))
                    refine Does.val (.int .i64 (q : Int)) (w' := w) ?_ ⟨Below.refl _ _, rfl, hG⟩
                    simp only [Array.getD_eq_getD_getElem?] at e9
                    go_simp
                  · intro listed σ w a hin hout hl hc hp hG hF
                    refine Guarded.none rfl ?_
                    have e58 : a.tmps.getD 58 undef = .slice (some ⟨bb, o, none⟩) m1 cV := (hin 4 58 rfl (hp ⟨4, .data⟩ (by simp) rfl)).trans (hF 4 (hp ⟨4, .data⟩ (by simp) rfl))
                    have e59 : a.tmps.getD 59 undef = .int .i64 (q : Int) := (hin 5 59 rfl (hp ⟨5, .data⟩ (by simp) rfl)).trans (hF 5 (hp ⟨5, .data⟩ (by simp) rfl))
                    refine Does.val (.pointer (some ⟨bb, o + q, none⟩)) (w' := w) ?_ ⟨Below.refl _ _, rfl, hG⟩
                    simp only [Array.getD_eq_getD_getElem?] at e58 e59
                    go_simp
                    (try (intro hh; exfalso; omega))
                  · intro listed σ w a hin hout hl hc hp hG hF
                    refine Guarded.none rfl ?_
                    have e60 : a.tmps.getD 60 undef = .pointer (some ⟨bb, o + q, none⟩) := (hin 6 60 rfl (hp ⟨6, .data⟩ (by simp) rfl)).trans (hF 6 (hp ⟨6, .data⟩ (by simp) rfl))
                    have CC := SOF.out w hG; obtain ⟨C0, D0⟩ := CC
                    refine Does.val (.int .i64 x) (w' := w) ?_ ⟨Below.refl _ _, rfl, hG⟩
                    go_simp
                  · intro listed σ w a hin hout hl hc hp hG hF
                    refine Guarded.none rfl ?_
                    have e57 : a.tmps.getD 57 undef = .int .i64 x := (hin 3 57 rfl (hp ⟨3, .data⟩ (by simp) rfl)).trans (hF 3 (hp ⟨3, .data⟩ (by simp) rfl))
                    have e61 : a.tmps.getD 61 undef = .int .i64 x := (hin 7 61 rfl (hp ⟨7, .data⟩ (by simp) rfl)).trans (hF 7 (hp ⟨7, .data⟩ (by simp) rfl))
                    refine Does.val (.bool true) (w' := w) ?_ ⟨Below.refl _ _, rfl, hG⟩
                    simp only [Array.getD_eq_getD_getElem?] at e57 e61
                    go_simp
                  · intro listed σ w a hin hout hl hc hp hG hF
                    refine Guarded.none rfl ?_
                    have e62 : a.tmps.getD 62 undef = .bool true := (hin 8 62 rfl (hp ⟨8, .data⟩ (by simp) rfl)).trans (hF 8 (hp ⟨8, .data⟩ (by simp) rfl))
                    refine Does.val (.bool true) (w' := w) ?_ ⟨Below.refl _ _, rfl, hG⟩
                    simp only [Array.getD_eq_getD_getElem?] at e62
                    go_simp
                  · intro listed σ w a hin hout hl hc hp hG hF
                    refine Guarded.some (d := 63) (b := true) rfl rfl ((hin 9 63 rfl (hp ⟨9, .guard⟩ (by simp) rfl)).trans (hF 9 (hp ⟨9, .guard⟩ (by simp) rfl))) ?_
                    refine Or.inl ⟨rfl, ?_⟩
                    have e11 : a.tmps.getD 11 undef = .int .i64 (ii : Int) := hout 11 (outB_spec (by kernel_rfl))
                    refine Does.val (.int .i64 (ii : Int)) (w' := w) ?_ ⟨Below.refl _ _, rfl, hG⟩
                    simp only [Array.getD_eq_getD_getElem?] at e11
                    go_simp
                  · intro listed σ w a hin hout hl hc hp hG hF
                    refine Guarded.some (d := 63) (b := true) rfl rfl ((hin 9 63 rfl (hp ⟨9, .guard⟩ (by simp) rfl)).trans (hF 9 (hp ⟨9, .guard⟩ (by simp) rfl))) ?_
                    refine Or.inl ⟨rfl, ?_⟩
                    have e2 : a.tmps.getD 2 undef = .slice (some ⟨tb, to_, none⟩) tn tc := hout 2 (outB_spec (by kernel_rfl))
                    refine Does.val (.slice (some ⟨tb, to_, none⟩) tn tc) (w' := w) ?_ ⟨Below.refl _ _, rfl, hG⟩
                    simp only [Array.getD_eq_getD_getElem?] at e2
                    go_simp
                  · intro listed σ w a hin hout hl hc hp hG hF
                    refine Guarded.some (d := 63) (b := true) rfl rfl ((hin 9 63 rfl (hp ⟨9, .guard⟩ (by simp) rfl)).trans (hF 9 (hp ⟨9, .guard⟩ (by simp) rfl))) ?_
                    refine Or.inl ⟨rfl, ?_⟩
                    have e65 : a.tmps.getD 65 undef = .slice (some ⟨tb, to_, none⟩) tn tc := (hin 11 65 rfl (hp ⟨11, .data⟩ (by simp) rfl)).trans (hF 11 (hp ⟨11, .data⟩ (by simp) rfl))
                    refine Does.val (.int .i64 tn) (w' := w) ?_ ⟨Below.refl _ _, rfl, hG⟩
                    simp only [Array.getD_eq_getD_getElem?] at e65
                    go_simp
                  · intro listed σ w a hin hout hl hc hp hG hF
                    refine Guarded.some (d := 63) (b := true) rfl rfl ((hin 9 63 rfl (hp ⟨9, .guard⟩ (by simp) rfl)).trans (hF 9 (hp ⟨9, .guard⟩ (by simp) rfl))) ?_
                    refine Or.inl ⟨rfl, ?_⟩
                    have e64 : a.tmps.getD 64 undef = .int .i64 (ii : Int) := (hin 10 64 rfl (hp ⟨10, .data⟩ (by simp) rfl)).trans (hF 10 (hp ⟨10, .data⟩ (by simp) rfl))
                    have e66 : a.tmps.getD 66 undef = .int .i64 tn := (hin 12 66 rfl (hp ⟨12, .data⟩ (by simp) rfl)).trans (hF 12 (hp ⟨12, .data⟩ (by simp) rfl))
                    refine Does.val (.bool false) (w' := w) ?_ ⟨Below.refl _ _, rfl, hG⟩
                    simp only [Array.getD_eq_getD_getElem?] at e64 e66
                    go_simp
                  · intro listed σ w a hin hout hl hc hp hG hF
                    refine Guarded.none rfl ?_
                    have e63 : a.tmps.getD 63 undef = .bool true := (hin 9 63 rfl (hp ⟨9, .data⟩ (by simp) rfl)).trans (hF 9 (hp ⟨9, .data⟩ (by simp) rfl))
                    have e67 : a.tmps.getD 67 undef = .bool false := (hin 13 67 rfl (hp ⟨13, .data⟩ (by simp) rfl)).trans (hF 13 (hp ⟨13, .data⟩ (by simp) rfl))
                    refine Does.val (.bool false) (w' := w) ?_ ⟨Below.refl _ _, rfl, hG⟩
                    simp only [Array.getD_eq_getD_getElem?] at e63 e67
                    go_simp
                · intro listed σ W8 hall hG hF
                  rw [show mid _ σ listed _ = (Act.put (Act.put (Act.put (Act.put (Act.put (Act.put (Act.put (Act.put (Act.put (Act.put (Act.put (Act.put (Act.put (Act.put (Act.put _ (some 54) (σ 0)) (some 55) (σ 1)) (some 56) (σ 2)) (some 57) (σ 3)) (some 58) (σ 4)) (some 59) (σ 5)) (some 60) (σ 6)) (some 61) (σ 7)) (some 62) (σ 8)) (some 63) (σ 9)) (some 64) (σ 10)) (some 65) (σ 11)) (some 66) (σ 12)) (some 67) (σ 13)) (some 68) (σ 14)) from (mid_all hall).trans rfl]
                  generalize σ 0 = tt0
                  generalize σ 1 = tt1
                  generalize σ 2 = tt2
                  generalize σ 3 = tt3
                  generalize σ 4 = tt4
                  generalize σ 5 = tt5
                  generalize σ 6 = tt6
                  generalize σ 7 = tt7
                  generalize σ 8 = tt8
                  generalize σ 9 = tt9
                  generalize σ 10 = tt10
                  generalize σ 11 = tt11
                  generalize σ 12 = tt12
                  generalize σ 13 = tt13
                  rw [show σ 14 = .bool false from hF 14 (by decide)]
                  simp only [Act.put, List.setIfInBounds_toArray, List.set_cons_zero, List.set_cons_succ]
                  have TG := hG
                  clear hF hG hall
                  clear σ
                  go_wp2_with fail
                  go_roundw
                  case rel => exact ⟨ii, by omega, by go_num, hide (HE2.out.next TG)⟩
                  case measure => simp [intOf] <;> omega
            · have hkt2 : ¬ (ii : Int) < (tn : Int) := by omega
              have hkt3 : (tn : Int) ≤ (ii : Int) := by omega
              have HPE := hide (show place (vs.drop ii) ((pairs ts).drop ii) x = ([(x, 1)], 0) from by
                rw [HPD.out, if_pos rfl]
                exact pairs_out ts ii _ (by have := HTN.out; omega))
              have hvr := fun W => rvar_any x W
              go_wp2_with fail
              refine wp_drawn (by kernel_rfl) (by kernel_rfl) (by kernel_rfl) (fun w w' => Below w.heap.size w w') (fun j v w => match j with | 0 => v = .slice (some ⟨vb, vo, none⟩) vn vc | 1 => v = .int .i64 (ii : Int) | 2 => v = .pointer (some ⟨vb, vo + ii, none⟩) | 3 => v = .int .i64 x | 4 => v = .slice (some ⟨bb, o, none⟩) m1 cV | 5 => v = .int .i64 (q : Int) | 6 => v = .pointer (some ⟨bb, o + q, none⟩) | 7 => v = .int .i64 x | 8 => v = .bool true | 9 => v = .bool true | 10 => v = .int .i64 (ii : Int) | 11 => v = .slice TA tn tc | 12 => v = .int .i64 tn | 13 => v = .bool false | 14 => v = .bool false | _ => True) (fun _ _ w => Below wr.heap.size wr w) ?_ (fun _ => bl_drewN wr 1) ?_ ?_
              · intro j v w w' hT h
                match j, h with
                | 0, h => exact h
                | 1, h => exact h
                | 2, h => exact h
                | 3, h => exact h
                | 4, h => exact h
                | 5, h => exact h
                | 6, h => exact h
                | 7, h => exact h
                | 8, h => exact h
                | 9, h => exact h
                | 10, h => exact h
                | 11, h => exact h
                | 12, h => exact h
                | 13, h => exact h
                | 14, h => exact h
                | j + 15, h => trivial
              · refine ⟨?_, ?_, ?_, ?_, ?_, ?_, ?_, ?_, ?_, ?_, ?_, ?_, ?_, ?_, ?_, trivial⟩
                · intro listed σ w a hin hout hl hc hp hG hF
                  refine Guarded.none rfl ?_
                  have e1 : a.tmps.getD 1 undef = .slice (some ⟨vb, vo, none⟩) vn vc := hout 1 (outB_spec (by kernel_rfl))
                  refine Does.val (.slice (some ⟨vb, vo, none⟩) vn vc) (w' := w) ?_ ⟨Below.refl _ _, rfl, hG⟩
                  simp only [Array.getD_eq_getD_getElem?] at e1
                  go_simp
                · intro listed σ w a hin hout hl hc hp hG hF
                  refine Guarded.none rfl ?_
                  have e11 : a.tmps.getD 11 undef = .int .i64 (ii : Int) := hout 11 (outB_spec (by kernel_rfl))
                  refine Does.val (.int .i64 (ii : Int)) (w' := w) ?_ ⟨Below.refl _ _, rfl, hG⟩
                  simp only [Array.getD_eq_getD_getElem?] at e11
                  go_simp
                · intro listed σ w a hin hout hl hc hp hG hF
                  refine Guarded.none rfl ?_
                  have e35 : a.tmps.getD 35 undef = .slice (some ⟨vb, vo, none⟩) vn vc := (hin 0 35 rfl (hp ⟨0, .data⟩ (by simp) rfl)).trans (hF 0 (hp ⟨0, .data⟩ (by simp) rfl))
                  have e36 : a.tmps.getD 36 undef = .int .i64 (ii : Int) := (hin 1 36 rfl (hp ⟨1, .data⟩ (by simp) rfl)).trans (hF 1 (hp ⟨1, .data⟩ (by simp) rfl))
                  refine Does.val (.pointer (some ⟨vb, vo + ii, none⟩)) (w' := w) ?_ ⟨Below.refl _ _, rfl, hG⟩
                  simp only [Array.getD_eq_getD_getElem?] at e35 e36
                  go_simp
                  (try (intro hh; exfalso; omega))
                · intro listed σ w a hin hout hl hc hp hG hF
                  refine Guarded.none rfl ?_
                  have e37 : a.tmps.getD 37 undef = .pointer (some ⟨vb, vo + ii, none⟩) := (hin 2 37 rfl (hp ⟨2, .data⟩ (by simp) rfl)).trans (hF 2 (hp ⟨2, .data⟩ (by simp) rfl))
                  have CC := SOF.out w hG; obtain ⟨C0, D0⟩ := CC
                  refine Does.val (.int .i64 x) (w' := w) ?_ ⟨Below.refl _ _, rfl, hG⟩
                  go_simp
                · intro listed σ w a hin hout hl hc hp hG hF
                  refine Guarded.none rfl ?_
                  have e8 : a.tmps.getD 8 undef = .slice (some ⟨bb, o, none⟩) m1 cV := hout 8 (outB_spec (by kernel_rfl))
                  refine Does.val (.slice (some ⟨bb, o, none⟩) m1 cV) (w' := w) ?_ ⟨Below.refl _ _, rfl, hG⟩
                  simp only [Array.getD_eq_getD_getElem?] at e8
                  go_simp
                · intro listed σ w a hin hout hl hc hp hG hF
                  refine Guarded.none rfl ?_
                  have e9 : a.tmps.getD 9 undef = .int .i64 (q : Int) := hout 9 (outB_spec (by kernel_rfl))
                  refine Does.val (.int .i64 (q : Int)) (w' := w) ?_ ⟨Below.refl _ _, rfl, hG⟩
                  simp only [Array.getD_eq_getD_getElem?] at e9
                  go_simp
                · intro listed σ w a hin hout hl hc hp hG hF
                  refine Guarded.none rfl ?_
                  have e39 : a.tmps.getD 39 undef = .slice (some ⟨bb, o, none⟩) m1 cV := (hin 4 39 rfl (hp ⟨4, .data⟩ (by simp) rfl)).trans (hF 4 (hp ⟨4, .data⟩ (by simp) rfl))
                  have e40 : a.tmps.getD 40 undef = .int .i64 (q : Int) := (hin 5 40 rfl (hp ⟨5, .data⟩ (by simp) rfl)).trans (hF 5 (hp ⟨5, .data⟩ (by simp) rfl))
                  refine Does.val (.pointer (some ⟨bb, o + q, none⟩)) (w' := w) ?_ ⟨Below.refl _ _, rfl, hG⟩
                  simp only [Array.getD_eq_getD_getElem?] at e39 e40
                  go_simp
                  (try (intro hh; exfalso; omega))
                · intro listed σ w a hin hout hl hc hp hG hF
                  refine Guarded.none rfl ?_
                  have e41 : a.tmps.getD 41 undef = .pointer (some ⟨bb, o + q, none⟩) := (hin 6 41 rfl (hp ⟨6, .data⟩ (by simp) rfl)).trans (hF 6 (hp ⟨6, .data⟩ (by simp) rfl))
                  have CC := SOF.out w hG; obtain ⟨C0, D0⟩ := CC
                  refine Does.val (.int .i64 x) (w' := w) ?_ ⟨Below.refl _ _, rfl, hG⟩
                  go_simp
                · intro listed σ w a hin hout hl hc hp hG hF
                  refine Guarded.none rfl ?_
                  have e38 : a.tmps.getD 38 undef = .int .i64 x := (hin 3 38 rfl (hp ⟨3, .data⟩ (by simp) rfl)).trans (hF 3 (hp ⟨3, .data⟩ (by simp) rfl))
                  have e42 : a.tmps.getD 42 undef = .int .i64 x := (hin 7 42 rfl (hp ⟨7, .data⟩ (by simp) rfl)).trans (hF 7 (hp ⟨7, .data⟩ (by simp) rfl))
                  refine Does.val (.bool true) (w' := w) ?_ ⟨Below.refl _ _, rfl, hG⟩
                  simp only [Array.getD_eq_getD_getElem?] at e38 e42
                  go_simp
                · intro listed σ w a hin hout hl hc hp hG hF
                  refine Guarded.none rfl ?_
                  have e43 : a.tmps.getD 43 undef = .bool true := (hin 8 43 rfl (hp ⟨8, .data⟩ (by simp) rfl)).trans (hF 8 (hp ⟨8, .data⟩ (by simp) rfl))
                  refine Does.val (.bool true) (w' := w) ?_ ⟨Below.refl _ _, rfl, hG⟩
                  simp only [Array.getD_eq_getD_getElem?] at e43
                  go_simp
                · intro listed σ w a hin hout hl hc hp hG hF
                  refine Guarded.some (d := 44) (b := true) rfl rfl ((hin 9 44 rfl (hp ⟨9, .guard⟩ (by simp) rfl)).trans (hF 9 (hp ⟨9, .guard⟩ (by simp) rfl))) ?_
                  refine Or.inl ⟨rfl, ?_⟩
                  have e11 : a.tmps.getD 11 undef = .int .i64 (ii : Int) := hout 11 (outB_spec (by kernel_rfl))
                  refine Does.val (.int .i64 (ii : Int)) (w' := w) ?_ ⟨Below.refl _ _, rfl, hG⟩
                  simp only [Array.getD_eq_getD_getElem?] at e11
                  go_simp
                · intro listed σ w a hin hout hl hc hp hG hF
                  refine Guarded.some (d := 44) (b := true) rfl rfl ((hin 9 44 rfl (hp ⟨9, .guard⟩ (by simp) rfl)).trans (hF 9 (hp ⟨9, .guard⟩ (by simp) rfl))) ?_
                  refine Or.inl ⟨rfl, ?_⟩
                  have e2 : a.tmps.getD 2 undef = .slice TA tn tc := hout 2 (outB_spec (by kernel_rfl))
                  refine Does.val (.slice TA tn tc) (w' := w) ?_ ⟨Below.refl _ _, rfl, hG⟩
                  simp only [Array.getD_eq_getD_getElem?] at e2
                  go_simp
                · intro listed σ w a hin hout hl hc hp hG hF
                  refine Guarded.some (d := 44) (b := true) rfl rfl ((hin 9 44 rfl (hp ⟨9, .guard⟩ (by simp) rfl)).trans (hF 9 (hp ⟨9, .guard⟩ (by simp) rfl))) ?_
                  refine Or.inl ⟨rfl, ?_⟩
                  have e46 : a.tmps.getD 46 undef = .slice TA tn tc := (hin 11 46 rfl (hp ⟨11, .data⟩ (by simp) rfl)).trans (hF 11 (hp ⟨11, .data⟩ (by simp) rfl))
                  refine Does.val (.int .i64 tn) (w' := w) ?_ ⟨Below.refl _ _, rfl, hG⟩
                  simp only [Array.getD_eq_getD_getElem?] at e46
                  go_simp
                · intro listed σ w a hin hout hl hc hp hG hF
                  refine Guarded.some (d := 44) (b := true) rfl rfl ((hin 9 44 rfl (hp ⟨9, .guard⟩ (by simp) rfl)).trans (hF 9 (hp ⟨9, .guard⟩ (by simp) rfl))) ?_
                  refine Or.inl ⟨rfl, ?_⟩
                  have e45 : a.tmps.getD 45 undef = .int .i64 (ii : Int) := (hin 10 45 rfl (hp ⟨10, .data⟩ (by simp) rfl)).trans (hF 10 (hp ⟨10, .data⟩ (by simp) rfl))
                  have e47 : a.tmps.getD 47 undef = .int .i64 tn := (hin 12 47 rfl (hp ⟨12, .data⟩ (by simp) rfl)).trans (hF 12 (hp ⟨12, .data⟩ (by simp) rfl))
                  refine Does.val (.bool false) (w' := w) ?_ ⟨Below.refl _ _, rfl, hG⟩
                  simp only [Array.getD_eq_getD_getElem?] at e45 e47
                  go_simp
                · intro listed σ w a hin hout hl hc hp hG hF
                  refine Guarded.none rfl ?_
                  have e44 : a.tmps.getD 44 undef = .bool true := (hin 9 44 rfl (hp ⟨9, .data⟩ (by simp) rfl)).trans (hF 9 (hp ⟨9, .data⟩ (by simp) rfl))
                  have e48 : a.tmps.getD 48 undef = .bool false := (hin 13 48 rfl (hp ⟨13, .data⟩ (by simp) rfl)).trans (hF 13 (hp ⟨13, .data⟩ (by simp) rfl))
                  refine Does.val (.bool false) (w' := w) ?_ ⟨Below.refl _ _, rfl, hG⟩
                  simp only [Array.getD_eq_getD_getElem?] at e44 e48
                  go_simp
              · intro listed σ W9 hall hG hF
                rw [show mid _ σ listed _ = (Act.put (Act.put (Act.put (Act.put (Act.put (Act.put (Act.put (Act.put (Act.put (Act.put (Act.put (Act.put (Act.put (Act.put (Act.put _ (some 35) (σ 0)) (some 36) (σ 1)) (some 37) (σ 2)) (some 38) (σ 3)) (some 39) (σ 4)) (some 40) (σ 5)) (some 41) (σ 6)) (some 42) (σ 7)) (some 43) (σ 8)) (some 44) (σ 9)) (some 45) (σ 10)) (some 46) (σ 11)) (some 47) (σ 12)) (some 48) (σ 13)) (some 49) (σ 14)) from (mid_all hall).trans rfl]
                generalize σ 0 = tt0
                generalize σ 1 = tt1
                generalize σ 2 = tt2
                generalize σ 3 = tt3
                generalize σ 4 = tt4
                generalize σ 5 = tt5
                generalize σ 6 = tt6
                generalize σ 7 = tt7
                generalize σ 8 = tt8
                generalize σ 9 = tt9
                generalize σ 10 = tt10
                generalize σ 11 = tt11
                generalize σ 12 = tt12
                generalize σ 13 = tt13
                rw [show σ 14 = .bool false from hF 14 (by decide)]
                simp only [Act.put, List.setIfInBounds_toArray, List.set_cons_zero, List.set_cons_succ]
                have TG := hG
                clear hF hG hall
                clear σ
                have SOF9 := SOF
                have SOF := hide (fun W (h : Below W9.heap.size W9 W) => SOF9.out W (TG.next h))
                have HT9 := hide TG
                clear TG
                go_wp2_with fail
                refine wp_drawn (by kernel_rfl) (by kernel_rfl) (by kernel_rfl) (fun w w' => Below w.heap.size w w') (fun j v w => match j with | 0 => v = .slice (some ⟨vb, vo, none⟩) vn vc | 1 => v = .int .i64 (ii : Int) | 2 => v = .pointer (some ⟨vb, vo + ii, none⟩) | 3 => v = .int .i64 x | 4 => v = .slice (some ⟨bb, o, none⟩) m1 cV | 5 => v = .int .i64 (q : Int) | 6 => v = .pointer (some ⟨bb, o + q, none⟩) | 7 => v = .int .i64 x | 8 => v = .bool true | 9 => v = .bool true | 10 => v = .int .i64 (ii : Int) | 11 => v = .slice TA tn tc | 12 => v = .int .i64 tn | 13 => v = .bool true | 14 => v = .bool true | _ => True) (fun _ _ w => Below W9.heap.size W9 w) ?_ (fun _ => bl_drewN W9 1) ?_ ?_
                · intro j v w w' hT h
                  match j, h with
                  | 0, h => exact h
                  | 1, h => exact h
                  | 2, h => exact h
                  | 3, h => exact h
                  | 4, h => exact h
                  | 5, h => exact h
                  | 6, h => exact h
                  | 7, h => exact h
                  | 8, h => exact h
                  | 9, h => exact h
                  | 10, h => exact h
                  | 11, h => exact h
                  | 12, h => exact h
                  | 13, h => exact h
                  | 14, h => exact h
                  | j + 15, h => trivial
                · refine ⟨?_, ?_, ?_, ?_, ?_, ?_, ?_, ?_, ?_, ?_, ?_, ?_, ?_, ?_, ?_, trivial⟩
                  · intro listed σ w a hin hout hl hc hp hG hF
                    refine Guarded.none rfl ?_
                    have e1 : a.tmps.getD 1 undef = .slice (some ⟨vb, vo, none⟩) vn vc := hout 1 (outB_spec (by kernel_rfl))
                    refine Does.val (.slice (some ⟨vb, vo, none⟩) vn vc) (w' := w) ?_ ⟨Below.refl _ _, rfl, hG⟩
                    simp only [Array.getD_eq_getD_getElem?] at e1
                    go_simp
                  · intro listed σ w a hin hout hl hc hp hG hF
                    refine Guarded.none rfl ?_
                    have e11 : a.tmps.getD 11 undef = .int .i64 (ii : Int) := hout 11 (outB_spec (by kernel_rfl))
                    refine Does.val (.int .i64 (ii : Int)) (w' := w) ?_ ⟨Below.refl _ _, rfl, hG⟩
                    simp only [Array.getD_eq_getD_getElem?] at e11
                    go_simp
                  · intro listed σ w a hin hout hl hc hp hG hF
                    refine Guarded.none rfl ?_
                    have e54 : a.tmps.getD 54 undef = .slice (some ⟨vb, vo, none⟩) vn vc := (hin 0 54 rfl (hp ⟨0, .data⟩ (by simp) rfl)).trans (hF 0 (hp ⟨0, .data⟩ (by simp) rfl))
                    have e55 : a.tmps.getD 55 undef = .int .i64 (ii : Int) := (hin 1 55 rfl (hp ⟨1, .data⟩ (by simp) rfl)).trans (hF 1 (hp ⟨1, .data⟩ (by simp) rfl))
                    refine Does.val (.pointer (some ⟨vb, vo + ii, none⟩)) (w' := w) ?_ ⟨Below.refl _ _, rfl, hG⟩
                    simp only [Array.getD_eq_getD_getElem?] at e54 e55
                    go_simp
                    (try (intro hh; exfalso; omega))
                  · intro listed σ w a hin hout hl hc hp hG hF
                    refine Guarded.none rfl ?_
                    have e56 : a.tmps.getD 56 undef = .pointer (some ⟨vb, vo + ii, none⟩) := (hin 2 56 rfl (hp ⟨2, .data⟩ (by simp) rfl)).trans (hF 2 (hp ⟨2, .data⟩ (by simp) rfl))
                    have CC := SOF.out w hG; obtain ⟨C0, D0⟩ := CC
                    refine Does.val (.int .i64 x) (w' := w) ?_ ⟨Below.refl _ _, rfl, hG⟩
                    go_simp
                  · intro listed σ w a hin hout hl hc hp hG hF
                    refine Guarded.none rfl ?_
                    have e8 : a.tmps.getD 8 undef = .slice (some ⟨bb, o, none⟩) m1 cV := hout 8 (outB_spec (by kernel_rfl))
                    refine Does.val (.slice (some ⟨bb, o, none⟩) m1 cV) (w' := w) ?_ ⟨Below.refl _ _, rfl, hG⟩
                    simp only [Array.getD_eq_getD_getElem?] at e8
                    go_simp
                  · intro listed σ w a hin hout hl hc hp hG hF
                    refine Guarded.none rfl ?_
                    have e9 : a.tmps.getD 9 undef = .int .i64 (q : Int) := hout 9 (outB_spec (by kernel_rfl))
                    refine Does.val (.int .i64 (q : Int)) (w' := w) ?_ ⟨Below.refl _ _, rfl, hG⟩
                    simp only [Array.getD_eq_getD_getElem?] at e9
                    go_simp
                  · intro listed σ w a hin hout hl hc hp hG hF
                    refine Guarded.none rfl ?_
                    have e58 : a.tmps.getD 58 undef = .slice (some ⟨bb, o, none⟩) m1 cV := (hin 4 58 rfl (hp ⟨4, .data⟩ (by simp) rfl)).trans (hF 4 (hp ⟨4, .data⟩ (by simp) rfl))
                    have e59 : a.tmps.getD 59 undef = .int .i64 (q : Int) := (hin 5 59 rfl (hp ⟨5, .data⟩ (by simp) rfl)).trans (hF 5 (hp ⟨5, .data⟩ (by simp) rfl))
                    refine Does.val (.pointer (some ⟨bb, o + q, none⟩)) (w' := w) ?_ ⟨Below.refl _ _, rfl, hG⟩
                    simp only [Array.getD_eq_getD_getElem?] at e58 e59
                    go_simp
                    (try (intro hh; exfalso; omega))
                  · intro listed σ w a hin hout hl hc hp hG hF
                    refine Guarded.none rfl ?_
                    have e60 : a.tmps.getD 60 undef = .pointer (some ⟨bb, o + q, none⟩) := (hin 6 60 rfl (hp ⟨6, .data⟩ (by simp) rfl)).trans (hF 6 (hp ⟨6, .data⟩ (by simp) rfl))
                    have CC := SOF.out w hG; obtain ⟨C0, D0⟩ := CC
                    refine Does.val (.int .i64 x) (w' := w) ?_ ⟨Below.refl _ _, rfl, hG⟩
                    go_simp
                  · intro listed σ w a hin hout hl hc hp hG hF
                    refine Guarded.none rfl ?_
                    have e57 : a.tmps.getD 57 undef = .int .i64 x := (hin 3 57 rfl (hp ⟨3, .data⟩ (by simp) rfl)).trans (hF 3 (hp ⟨3, .data⟩ (by simp) rfl))
                    have e61 : a.tmps.getD 61 undef = .int .i64 x := (hin 7 61 rfl (hp ⟨7, .data⟩ (by simp) rfl)).trans (hF 7 (hp ⟨7, .data⟩ (by simp) rfl))
                    refine Does.val (.bool true) (w' := w) ?_ ⟨Below.refl _ _, rfl, hG⟩
                    simp only [Array.getD_eq_getD_getElem?] at e57 e61
                    go_simp
                  · intro listed σ w a hin hout hl hc hp hG hF
                    refine Guarded.none rfl ?_
                    have e62 : a.tmps.getD 62 undef = .bool true := (hin 8 62 rfl (hp ⟨8, .data⟩ (by simp) rfl)).trans (hF 8 (hp ⟨8, .data⟩ (by simp) rfl))
                    refine Does.val (.bool true) (w' := w) ?_ ⟨Below.refl _ _, rfl, hG⟩
                    simp only [Array.getD_eq_getD_getElem?] at e62
                    go_simp
                  · intro listed σ w a hin hout hl hc hp hG hF
                    refine Guarded.some (d := 63) (b := true) rfl rfl ((hin 9 63 rfl (hp ⟨9, .guard⟩ (by simp) rfl)).trans (hF 9 (hp ⟨9, .guard⟩ (by simp) rfl))) ?_
                    refine Or.inl ⟨rfl, ?_⟩
                    have e11 : a.tmps.getD 11 undef = .int .i64 (ii : Int) := hout 11 (outB_spec (by kernel_rfl))
                    refine Does.val (.int .i64 (ii : Int)) (w' := w) ?_ ⟨Below.refl _ _, rfl, hG⟩
                    simp only [Array.getD_eq_getD_getElem?] at e11
                    go_simp
                  · intro listed σ w a hin hout hl hc hp hG hF
                    refine Guarded.some (d := 63) (b := true) rfl rfl ((hin 9 63 rfl (hp ⟨9, .guard⟩ (by simp) rfl)).trans (hF 9 (hp ⟨9, .guard⟩ (by simp) rfl))) ?_
                    refine Or.inl ⟨rfl, ?_⟩
                    have e2 : a.tmps.getD 2 undef = .slice TA tn tc := hout 2 (outB_spec (by kernel_rfl))
                    refine Does.val (.slice TA tn tc) (w' := w) ?_ ⟨Below.refl _ _, rfl, hG⟩
                    simp only [Array.getD_eq_getD_getElem?] at e2
                    go_simp
                  · intro listed σ w a hin hout hl hc hp hG hF
                    refine Guarded.some (d := 63) (b := true) rfl rfl ((hin 9 63 rfl (hp ⟨9, .guard⟩ (by simp) rfl)).trans (hF 9 (hp ⟨9, .guard⟩ (by simp) rfl))) ?_
                    refine Or.inl ⟨rfl, ?_⟩
                    have e65 : a.tmps.getD 65 undef = .slice TA tn tc := (hin 11 65 rfl (hp ⟨11, .data⟩ (by simp) rfl)).trans (hF 11 (hp ⟨11, .data⟩ (by simp) rfl))
                    refine Does.val (.int .i64 tn) (w' := w) ?_ ⟨Below.refl _ _, rfl, hG⟩
                    simp only [Array.getD_eq_getD_getElem?] at e65
                    go_simp
                  · intro listed σ w a hin hout hl hc hp hG hF
                    refine Guarded.some (d := 63) (b := true) rfl rfl ((hin 9 63 rfl (hp ⟨9, .guard⟩ (by simp) rfl)).trans (hF 9 (hp ⟨9, .guard⟩ (by simp) rfl))) ?_
                    refine Or.inl ⟨rfl, ?_⟩
                    have e64 : a.tmps.getD 64 undef = .int .i64 (ii : Int) := (hin 10 64 rfl (hp ⟨10, .data⟩ (by simp) rfl)).trans (hF 10 (hp ⟨10, .data⟩ (by simp) rfl))
                    have e66 : a.tmps.getD 66 undef = .int .i64 tn := (hin 12 66 rfl (hp ⟨12, .data⟩ (by simp) rfl)).trans (hF 12 (hp ⟨12, .data⟩ (by simp) rfl))
                    refine Does.val (.bool true) (w' := w) ?_ ⟨Below.refl _ _, rfl, hG⟩
                    simp only [Array.getD_eq_getD_getElem?] at e64 e66
                    go_simp
                  · intro listed σ w a hin hout hl hc hp hG hF
                    refine Guarded.none rfl ?_
                    have e63 : a.tmps.getD 63 undef = .bool true := (hin 9 63 rfl (hp ⟨9, .data⟩ (by simp) rfl)).trans (hF 9 (hp ⟨9, .data⟩ (by simp) rfl))
                    have e67 : a.tmps.getD 67 undef = .bool true := (hin 13 67 rfl (hp ⟨13, .data⟩ (by simp) rfl)).trans (hF 13 (hp ⟨13, .data⟩ (by simp) rfl))
                    refine Does.val (.bool true) (w' := w) ?_ ⟨Below.refl _ _, rfl, hG⟩
                    simp only [Array.getD_eq_getD_getElem?] at e63 e67
                    go_simp
                · intro listed σ W8 hall hG hF
                  rw [show mid _ σ listed _ = (Act.put (Act.put (Act.put (Act.put (Act.put (Act.put (Act.put (Act.put (Act.put (Act.put (Act.put (Act.put (Act.put (Act.put (Act.put _ (some 54) (σ 0)) (some 55) (σ 1)) (some 56) (σ 2)) (some 57) (σ 3)) (some 58) (σ 4)) (some 59) (σ 5)) (some 60) (σ 6)) (some 61) (σ 7)) (some 62) (σ 8)) (some 63) (σ 9)) (some 64) (σ 10)) (some 65) (σ 11)) (some 66) (σ 12)) (some 67) (σ 13)) (some 68) (σ 14)) from (mid_all hall).trans rfl]
                  generalize σ 0 = tt0
                  generalize σ 1 = tt1
                  generalize σ 2 = tt2
                  generalize σ 3 = tt3
                  generalize σ 4 = tt4
                  generalize σ 5 = tt5
                  generalize σ 6 = tt6
                  generalize σ 7 = tt7
                  generalize σ 8 = tt8
                  generalize σ 9 = tt9
                  generalize σ 10 = tt10
                  generalize σ 11 = tt11
                  generalize σ 12 = tt12
                  generalize σ 13 = tt13
                  rw [show σ 14 = .bool true from hF 14 (by decide)]
                  simp only [Act.put, List.setIfInBounds_toArray, List.set_cons_zero, List.set_cons_succ]
                  have TG := hG
                  clear hF hG hall
                  clear σ
                  obtain ⟨k0, k1⟩ := SOF.out W8 TG
                  have HT8 := hide (HT9.out.next TG)
                  clear TG
                  go_wp2_with fail
                  refine (hvr _).mono ?_
                  rintro e w6 ⟨v6, rfl, r6, b6⟩
                  obtain ⟨A7, n7, c7, s7, B7, m7, d7, rfl⟩ := r6.form
                  have xp9 := HXP.out.next (HT8.out.next b6)
                  go_wp2_with (with_reducible refine wpList_store_t rfl _ _ rfl w5.heap.size _ _ _ _ _ _ _ rfl rfl _ _ _ xp9 ?_; intro w7 x7 o7)
                  have HE2 := hide (show InRel w5 w5.heap.size (place (vs.drop ii) ((pairs ts).drop ii) x) (kt + 3) w7 from ⟨_, _, _, _, _, _, _, x7, by rw [HPE.out]; show TIn _ _ [(x, 1)] 0 _; rw [← HXN.out]; exact (r6.only xp9 o7).in_.mono (by omega), zback (HBI.out.next (HT8.out.next b6)) (Nat.le_refl _) o7⟩)
                  clear k0 k1 xp9 x7 o7 r6 b6
                  go_roundw
                  case rel => exact ⟨ii, by omega, by go_num, HE2⟩
                  case measure => simp [intOf] <;> omega
          · have hyb : (y == x) = false := by simpa using hyx
            have HPE := hide (show place (vs.drop ii) ((pairs ts).drop ii) x = place (vs.drop (ii + 1)) ((pairs ts).drop (ii + 1)) x from by rw [HPD.out, if_neg hyx])
            go_wp2_with fail
            refine wp_drawn (by kernel_rfl) (by kernel_rfl) (by kernel_rfl) (fun w w' => Below w.heap.size w w') (fun j v w => match j with | 0 => v = .slice (some ⟨vb, vo, none⟩) vn vc | 1 => v = .int .i64 (ii : Int) | 2 => v = .pointer (some ⟨vb, vo + ii, none⟩) | 3 => v = .int .i64 y | 4 => v = .slice (some ⟨bb, o, none⟩) m1 cV | 5 => v = .int .i64 (q : Int) | 6 => v = .pointer (some ⟨bb, o + q, none⟩) | 7 => v = .int .i64 x | 8 => v = .bool false | 9 => v = .bool false | 10 => v = undef | 11 => v = undef | 12 => v = undef | 13 => v = undef | 14 => v = .bool false | _ => True) (fun _ _ w => Below wr.heap.size wr w) ?_ (fun _ => bl_drewN wr 1) ?_ ?_
            · intro j v w w' hT h
              match j, h with
              | 0, h => exact h
              | 1, h => exact h
              | 2, h => exact h
              | 3, h => exact h
              | 4, h => exact h
              | 5, h => exact h
              | 6, h => exact h
              | 7, h => exact h
              | 8, h => exact h
              | 9, h => exact h
              | 10, h => exact h
              | 11, h => exact h
              | 12, h => exact h
              | 13, h => exact h
              | 14, h => exact h
              | j + 15, h => trivial
            · refine ⟨?_, ?_, ?_, ?_, ?_, ?_, ?_, ?_, ?_, ?_, ?_, ?_, ?_, ?_, ?_, trivial⟩
              · intro listed σ w a hin hout hl hc hp hG hF
                refine Guarded.none rfl ?_
                have e1 : a.tmps.getD 1 undef = .slice (some ⟨vb, vo, none⟩) vn vc := hout 1 (outB_spec (by kernel_rfl))
                refine Does.val (.slice (some ⟨vb, vo, none⟩) vn vc) (w' := w) ?_ ⟨Below.refl _ _, rfl, hG⟩
                simp only [Array.getD_eq_getD_getElem?] at e1
                go_simp
              · intro listed σ w a hin hout hl hc hp hG hF
                refine Guarded.none rfl ?_
                have e11 : a.tmps.getD 11 undef = .int .i64 (ii : Int) := hout 11 (outB_spec (by kernel_rfl))
                refine Does.val (.int .i64 (ii : Int)) (w' := w) ?_ ⟨Below.refl _ _, rfl, hG⟩
                simp only [Array.getD_eq_getD_getElem?] at e11
                go_simp
              · intro listed σ w a hin hout hl hc hp hG hF
                refine Guarded.none rfl ?_
                have e35 : a.tmps.getD 35 undef = .slice (some ⟨vb, vo, none⟩) vn vc := (hin 0 35 rfl (hp ⟨0, .data⟩ (by simp) rfl)).trans (hF 0 (hp ⟨0, .data⟩ (by simp) rfl))
                have e36 : a.tmps.getD 36 undef = .int .i64 (ii : Int) := (hin 1 36 rfl (hp ⟨1, .data⟩ (by simp) rfl)).trans (hF 1 (hp ⟨1, .data⟩ (by simp) rfl))
                refine Does.val (.pointer (some ⟨vb, vo + ii, none⟩)) (w' := w) ?_ ⟨Below.refl _ _, rfl, hG⟩
                simp only [Array.getD_eq_getD_getElem?] at e35 e36
                go_simp
                (try (intro hh; exfalso; omega))
              · intro listed σ w a hin hout hl hc hp hG hF
                refine Guarded.none rfl ?_
                have e37 : a.tmps.getD 37 undef = .pointer (some ⟨vb, vo + ii, none⟩) := (hin 2 37 rfl (hp ⟨2, .data⟩ (by simp) rfl)).trans (hF 2 (hp ⟨2, .data⟩ (by simp) rfl))
                have CC := SOF.out w hG; obtain ⟨C0, D0⟩ := CC
                refine Does.val (.int .i64 y) (w' := w) ?_ ⟨Below.refl _ _, rfl, hG⟩
                go_simp
              · intro listed σ w a hin hout hl hc hp hG hF
                refine Guarded.none rfl ?_
                have e8 : a.tmps.getD 8 undef = .slice (some ⟨bb, o, none⟩) m1 cV := hout 8 (outB_spec (by kernel_rfl))
                refine Does.val (.slice (some ⟨bb, o, none⟩) m1 cV) (w' := w) ?_ ⟨Below.refl _ _, rfl, hG⟩
                simp only [Array.getD_eq_getD_getElem?] at e8
                go_simp
              · intro listed σ w a hin hout hl hc hp hG hF
                refine Guarded.none rfl ?_
                have e9 : a.tmps.getD 9 undef = .int .i64 (q : Int) := hout 9 (outB_spec (by kernel_rfl))
                refine Does.val (.int .i64 (q : Int)) (w' := w) ?_ ⟨Below.refl _ _, rfl, hG⟩
                simp only [Array.getD_eq_getD_getElem?] at e9
                go_simp
              · intro listed σ w a hin hout hl hc hp hG hF
                refine Guarded.none rfl ?_
                have e39 : a.tmps.getD 39 undef = .slice (some ⟨bb, o, none⟩) m1 cV := (hin 4 39 rfl (hp ⟨4, .data⟩ (by simp) rfl)).trans (hF 4 (hp ⟨4, .data⟩ (by simp) rfl))
                have e40 : a.tmps.getD 40 undef = .int .i64 (q : Int) := (hin 5 40 rfl (hp ⟨5, .data⟩ (by simp) rfl)).trans (hF 5 (hp ⟨5, .data⟩ (by simp) rfl))
                refine Does.val (.pointer (some ⟨bb, o + q, none⟩)) (w' := w) ?_ ⟨Below.refl _ _, rfl, hG⟩
                simp only [Array.getD_eq_getD_getElem?] at e39 e40
                go_simp
                (try (intro hh; exfalso; omega))
              · intro listed σ w a hin hout hl hc hp hG hF
                refine Guarded.none rfl ?_
                have e41 : a.tmps.getD 41 undef = .pointer (some ⟨bb, o + q, none⟩) := (hin 6 41 rfl (hp ⟨6, .data⟩ (by simp) rfl)).trans (hF 6 (hp ⟨6, .data⟩ (by simp) rfl))
                have CC := SOF.out w hG; obtain ⟨C0, D0⟩ := CC
                refine Does.val (.int .i64 x) (w' := w) ?_ ⟨Below.refl _ _, rfl, hG⟩
                go_simp
              · intro listed σ w a hin hout hl hc hp hG hF
                refine Guarded.none rfl ?_
                have e38 : a.tmps.getD 38 undef = .int .i64 y := (hin 3 38 rfl (hp ⟨3, .data⟩ (by simp) rfl)).trans (hF 3 (hp ⟨3, .data⟩ (by simp) rfl))
                have e42 : a.tmps.getD 42 undef = .int .i64 x := (hin 7 42 rfl (hp ⟨7, .data⟩ (by simp) rfl)).trans (hF 7 (hp ⟨7, .data⟩ (by simp) rfl))
                refine Does.val (.bool false) (w' := w) ?_ ⟨Below.refl _ _, rfl, hG⟩
                simp only [Array.getD_eq_getD_getElem?] at e38 e42
                go_simp
              · intro listed σ w a hin hout hl hc hp hG hF
                refine Guarded.none rfl ?_
                have e43 : a.tmps.getD 43 undef = .bool false := (hin 8 43 rfl (hp ⟨8, .data⟩ (by simp) rfl)).trans (hF 8 (hp ⟨8, .data⟩ (by simp) rfl))
                refine Does.val (.bool false) (w' := w) ?_ ⟨Below.refl _ _, rfl, hG⟩
                simp only [Array.getD_eq_getD_getElem?] at e43
                go_simp
              · intro listed σ w a hin hout hl hc hp hG hF
                refine Guarded.some (d := 44) (b := false) rfl rfl ((hin 9 44 rfl (hp ⟨9, .guard⟩ (by simp) rfl)).trans (hF 9 (hp ⟨9, .guard⟩ (by simp) rfl))) ?_
                exact Or.inr ⟨(fun h => by cases h), Below.refl _ _, rfl, hG⟩
              · intro listed σ w a hin hout hl hc hp hG hF
                refine Guarded.some (d := 44) (b := false) rfl rfl ((hin 9 44 rfl (hp ⟨9, .guard⟩ (by simp) rfl)).trans (hF 9 (hp ⟨9, .guard⟩ (by simp) rfl))) ?_
                exact Or.inr ⟨(fun h => by cases h), Below.refl _ _, rfl, hG⟩
              · intro listed σ w a hin hout hl hc hp hG hF
                refine Guarded.some (d := 44) (b := false) rfl rfl ((hin 9 44 rfl (hp ⟨9, .guard⟩ (by simp) rfl)).trans (hF 9 (hp ⟨9, .guard⟩ (by simp) rfl))) ?_
                exact Or.inr ⟨(fun h => by cases h), Below.refl _ _, rfl, hG⟩
              · intro listed σ w a hin hout hl hc hp hG hF
                refine Guarded.some (d := 44) (b := false) rfl rfl ((hin 9 44 rfl (hp ⟨9, .guard⟩ (by simp) rfl)).trans (hF 9 (hp ⟨9, .guard⟩ (by simp) rfl))) ?_
                exact Or.inr ⟨(fun h => by cases h), Below.refl _ _, rfl, hG⟩
              · intro listed σ w a hin hout hl hc hp hG hF
                refine Guarded.none rfl ?_
                have e44 : a.tmps.getD 44 undef = .bool false := (hin 9 44 rfl (hp ⟨9, .data⟩ (by simp) rfl)).trans (hF 9 (hp ⟨9, .data⟩ (by simp) rfl))
                have e48 : a.tmps.getD 48 undef = undef := (hin 13 48 rfl (hp ⟨13, .data⟩ (by simp) rfl)).trans (hF 13 (hp ⟨13, .data⟩ (by simp) rfl))
                refine Does.val (.bool false) (w' := w) ?_ ⟨Below.refl _ _, rfl, hG⟩
                simp only [Array.getD_eq_getD_getElem?] at e44 e48
                go_simp
            · intro listed σ W9 hall hG hF
              rw [show mid _ σ listed _ = (Act.put (Act.put (Act.put (Act.put (Act.put (Act.put (Act.put (Act.put (Act.put (Act.put (Act.put (Act.put (Act.put (Act.put (Act.put _ (some 35) (σ 0)) (some 36) (σ 1)) (some 37) (σ 2)) (some 38) (σ 3)) (some 39) (σ 4)) (some 40) (σ 5)) (some 41) (σ 6)) (some 42) (σ 7)) (some 43) (σ 8)) (some 44) (σ 9)) (some 45) (σ 10)) (some 46) (σ 11)) (some 47) (σ 12)) (some 48) (σ 13)) (some 49) (σ 14)) from (mid_all hall).trans rfl]
              generalize σ 0 = tt0
              generalize σ 1 = tt1
              generalize σ 2 = tt2
              generalize σ 3 = tt3
              generalize σ 4 = tt4
              generalize σ 5 = tt5
              generalize σ 6 = tt6
              generalize σ 7 = tt7
              generalize σ 8 = tt8
              generalize σ 9 = tt9
              generalize σ 10 = tt10
              generalize σ 11 = tt11
              generalize σ 12 = tt12
              generalize σ 13 = tt13
              rw [show σ 14 = .bool false from hF 14 (by decide)]
              simp only [Act.put, List.setIfInBounds_toArray, List.set_cons_zero, List.set_cons_succ]
              have TG := hG
              clear hF hG hall
              clear σ
              have SOF9 := SOF
              have SOF := hide (fun W (h : Below W9.heap.size W9 W) => SOF9.out W (TG.next h))
              have HT9 := hide TG
              clear TG
              go_wp2_with fail
              refine wp_drawn (by kernel_rfl) (by kernel_rfl) (by kernel_rfl) (fun w w' => Below w.heap.size w w') (fun j v w => match j with | 0 => v = .slice (some ⟨vb, vo, none⟩) vn vc | 1 => v = .int .i64 (ii : Int) | 2 => v = .pointer (some ⟨vb, vo + ii, none⟩) | 3 => v = .int .i64 y | 4 => v = .slice (some ⟨bb, o, none⟩) m1 cV | 5 => v = .int .i64 (q : Int) | 6 => v = .pointer (some ⟨bb, o + q, none⟩) | 7 => v = .int .i64 x | 8 => v = .bool false | 9 => v = .bool false | 10 => v = undef | 11 => v = undef | 12 => v = undef | 13 => v = undef | 14 => v = .bool false | _ => True) (fun _ _ w => Below W9.heap.size W9 w) ?_ (fun _ => bl_drewN W9 1) ?_ ?_
              · intro j v w w' hT h
                match j, h with
                | 0, h => exact h
                | 1, h => exact h
                | 2, h => exact h
                | 3, h => exact h
                | 4, h => exact h
                | 5, h => exact h
                | 6, h => exact h
                | 7, h => exact h
                | 8, h => exact h
                | 9, h => exact h
                | 10, h => exact h
                | 11, h => exact h
                | 12, h => exact h
                | 13, h => exact h
                | 14, h => exact h
                | j + 15, h => trivial
              · refine ⟨?_, ?_, ?_, ?_, ?_, ?_, ?_, ?_, ?_, ?_, ?_, ?_, ?_, ?_, ?_, trivial⟩
                · intro listed σ w a hin hout hl hc hp hG hF
                  refine Guarded.none rfl ?_
                  have e1 : a.tmps.getD 1 undef = .slice (some ⟨vb, vo, none⟩) vn vc := hout 1 (outB_spec (by kernel_rfl))
                  refine Does.val (.slice (some ⟨vb, vo, none⟩) vn vc) (w' := w) ?_ ⟨Below.refl _ _, rfl, hG⟩
                  simp only [Array.getD_eq_getD_getElem?] at e1
                  go_simp
                · intro listed σ w a hin hout hl hc hp hG hF
                  refine Guarded.none rfl ?_
                  have e11 : a.tmps.getD 11 undef = .int .i64 (ii : Int) := hout 11 (outB_spec (by kernel_rfl))
                  refine Does.val (.int .i64 (ii : Int)) (w' := w) ?_ ⟨Below.refl _ _, rfl, hG⟩
                  simp only [Array.getD_eq_getD_getElem?] at e11
                  go_simp
                · intro listed σ w a hin hout hl hc hp hG hF
                  refine Guarded.none rfl ?_
                  have e54 : a.tmps.getD 54 undef = .slice (some ⟨vb, vo, none⟩) vn vc := (hin 0 54 rfl (hp ⟨0, .data⟩ (by simp) rfl)).trans (hF 0 (hp ⟨0, .data⟩ (by simp) rfl))
                  have e55 : a.tmps.getD 55 undef = .int .i64 (ii : Int) := (hin 1 55 rfl (hp ⟨1, .data⟩ (by simp) rfl)).trans (hF 1 (hp ⟨1, .data⟩ (by simp) rfl))
                  refine Does.val (.pointer (some ⟨vb, vo + ii, none⟩)) (w' := w) ?_ ⟨Below.refl _ _, rfl, hG⟩
                  simp only [Array.getD_eq_getD_getElem?] at e54 e55
                  go_simp
                  (try (intro hh; exfalso; omega))
                · intro listed σ w a hin hout hl hc hp hG hF
                  refine Guarded.none rfl ?_
                  have e56 : a.tmps.getD 56 undef = .pointer (some ⟨vb, vo + ii, none⟩) := (hin 2 56 rfl (hp ⟨2, .data⟩ (by simp) rfl)).trans (hF 2 (hp ⟨2, .data⟩ (by simp) rfl))
                  have CC := SOF.out w hG; obtain ⟨C0, D0⟩ := CC
                  refine Does.val (.int .i64 y) (w' := w) ?_ ⟨Below.refl _ _, rfl, hG⟩
                  go_simp
                · intro listed σ w a hin hout hl hc hp hG hF
                  refine Guarded.none rfl ?_
                  have e8 : a.tmps.getD 8 undef = .slice (some ⟨bb, o, none⟩) m1 cV := hout 8 (outB_spec (by kernel_rfl))
                  refine Does.val (.slice (some ⟨bb, o, none⟩) m1 cV) (w' := w) ?_ ⟨Below.refl _ _, rfl, hG⟩
                  simp only [Array.getD_eq_getD_getElem?] at e8
                  go_simp
                · intro listed σ w a hin hout hl hc hp hG hF
                  refine Guarded.none rfl ?_
                  have e9 : a.tmps.getD 9 undef = .int .i64 (q : Int) := hout 9 (outB_spec (by kernel_rfl))
                  refine Does.val (.int .i64 (q : Int)) (w' := w) ?_ ⟨Below.refl _ _, rfl, hG⟩
                  simp only [Array.getD_eq_getD_getElem?] at e9
                  go_simp
                · intro listed σ w a hin hout hl hc hp hG hF
                  refine Guarded.none rfl ?_
                  have e58 : a.tmps.getD 58 undef = .slice (some ⟨bb, o, none⟩) m1 cV := (hin 4 58 rfl (hp ⟨4, .data⟩ (by simp) rfl)).trans (hF 4 (hp ⟨4, .data⟩ (by simp) rfl))
                  have e59 : a.tmps.getD 59 undef = .int .i64 (q : Int) := (hin 5 59 rfl (hp ⟨5, .data⟩ (by simp) rfl)).trans (hF 5 (hp ⟨5, .data⟩ (by simp) rfl))
                  refine Does.val (.pointer (some ⟨bb, o + q, none⟩)) (w' := w) ?_ ⟨Below.refl _ _, rfl, hG⟩
                  simp only [Array.getD_eq_getD_getElem?] at e58 e59
                  go_simp
                  (try (intro hh; exfalso; omega))
                · intro listed σ w a hin hout hl hc hp hG hF
                  refine Guarded.none rfl ?_
                  have e60 : a.tmps.getD 60 undef = .pointer (some ⟨bb, o + q, none⟩) := (hin 6 60 rfl (hp ⟨6, .data⟩ (by simp) rfl)).trans (hF 6 (hp ⟨6, .data⟩ (by simp) rfl))
                  have CC := SOF.out w hG; obtain ⟨C0, D0⟩ := CC
                  refine Does.val (.int .i64 x) (w' := w) ?_ ⟨Below.refl _ _, rfl, hG⟩
                  go_simp
                · intro listed σ w a hin hout hl hc hp hG hF
                  refine Guarded.none rfl ?_
                  have e57 : a.tmps.getD 57 undef = .int .i64 y := (hin 3 57 rfl (hp ⟨3, .data⟩ (by simp) rfl)).trans (hF 3 (hp ⟨3, .data⟩ (by simp) rfl))
                  have e61 : a.tmps.getD 61 undef = .int .i64 x := (hin 7 61 rfl (hp ⟨7, .data⟩ (by simp) rfl)).trans (hF 7 (hp ⟨7, .data⟩ (by simp) rfl))
                  refine Does.val (.bool false) (w' := w) ?_ ⟨Below.refl _ _, rfl, hG⟩
                  simp only [Array.getD_eq_getD_getElem?] at e57 e61
                  go_simp
                · intro listed σ w a hin hout hl hc hp hG hF
                  refine Guarded.none rfl ?_
                  have e62 : a.tmps.getD 62 undef = .bool false := (hin 8 62 rfl (hp ⟨8, .data⟩ (by simp) rfl)).trans (hF 8 (hp ⟨8, .data⟩ (by simp) rfl))
                  refine Does.val (.bool false) (w' := w) ?_ ⟨Below.refl _ _, rfl, hG⟩
                  simp only [Array.getD_eq_getD_getElem?] at e62
                  go_simp
                · intro listed σ w a hin hout hl hc hp hG hF
                  refine Guarded.some (d := 63) (b := false) rfl rfl ((hin 9 63 rfl (hp ⟨9, .guard⟩ (by simp) rfl)).trans (hF 9 (hp ⟨9, .guard⟩ (by simp) rfl))) ?_
                  exact Or.inr ⟨(fun h => by cases h), Below.refl _ _, rfl, hG⟩
                · intro listed σ w a hin hout hl hc hp hG hF
                  refine Guarded.some (d := 63) (b := false) rfl rfl ((hin 9 63 rfl (hp ⟨9, .guard⟩ (by simp) rfl)).trans (hF 9 (hp ⟨9, .guard⟩ (by simp) rfl))) ?_
                  exact Or.inr ⟨(fun h => by cases h), Below.refl _ _, rfl, hG⟩
                · intro listed σ w a hin hout hl hc hp hG hF
                  refine Guarded.some (d := 63) (b := false) rfl rfl ((hin 9 63 rfl (hp ⟨9, .guard⟩ (by simp) rfl)).trans (hF 9 (hp ⟨9, .guard⟩ (by simp) rfl))) ?_
                  exact Or.inr ⟨(fun h => by cases h), Below.refl _ _, rfl, hG⟩
                · intro listed σ w a hin hout hl hc hp hG hF
                  refine Guarded.some (d := 63) (b := false) rfl rfl ((hin 9 63 rfl (hp ⟨9, .guard⟩ (by simp) rfl)).trans (hF 9 (hp ⟨9, .guard⟩ (by simp) rfl))) ?_
                  exact Or.inr ⟨(fun h => by cases h), Below.refl _ _, rfl, hG⟩
                · intro listed σ w a hin hout hl hc hp hG hF
                  refine Guarded.none rfl ?_
                  have e63 : a.tmps.getD 63 undef = .bool false := (hin 9 63 rfl (hp ⟨9, .data⟩ (by simp) rfl)).trans (hF 9 (hp ⟨9, .data⟩ (by simp) rfl))
                  have e67 : a.tmps.getD 67 undef = undef := (hin 13 67 rfl (hp ⟨13, .data⟩ (by simp) rfl)).trans (hF 13 (hp ⟨13, .data⟩ (by simp) rfl))
                  refine Does.val (.bool false) (w' := w) ?_ ⟨Below.refl _ _, rfl, hG⟩
                  simp only [Array.getD_eq_getD_getElem?] at e63 e67
                  go_simp
              · intro listed σ W8 hall hG hF
                rw [show mid _ σ listed _ = (Act.put (Act.put (Act.put (Act.put (Act.put (Act.put (Act.put (Act.put (Act.put (Act.put (Act.put (Act.put (Act.put (Act.put (Act.put _ (some 54) (σ 0)) (some 55) (σ 1)) (some 56) (σ 2)) (some 57) (σ 3)) (some 58) (σ 4)) (some 59) (σ 5)) (some 60) (σ 6)) (some 61) (σ 7)) (some 62) (σ 8)) (some 63) (σ 9)) (some 64) (σ 10)) (some 65) (σ 11)) (some 66) (σ 12)) (some 67) (σ 13)) (some 68) (σ 14)) from (mid_all hall).trans rfl]
                generalize σ 0 = tt0
                generalize σ 1 = tt1
                generalize σ 2 = tt2
                generalize σ 3 = tt3
                generalize σ 4 = tt4
                generalize σ 5 = tt5
                generalize σ 6 = tt6
                generalize σ 7 = tt7
                generalize σ 8 = tt8
                generalize σ 9 = tt9
                generalize σ 10 = tt10
                generalize σ 11 = tt11
                generalize σ 12 = tt12
                generalize σ 13 = tt13
                rw [show σ 14 = .bool false from hF 14 (by decide)]
                simp only [Act.put, List.setIfInBounds_toArray, List.set_cons_zero, List.set_cons_succ]
                have TG := hG
                clear hF hG hall
                clear σ
                have HE2 := hide (show InRel w5 w5.heap.size (place (vs.drop ii) ((pairs ts).drop ii) x) (kt + 3) W8 from by
                  rw [HPE.out]
                  exact InRel.next (InRel.next ⟨_, _, _, _, _, _, _, HXP.out, HTP.out, HBI.out⟩ HT9.out) TG)
                clear TG
                go_wp2_with fail
                go_roundw
                case rel => exact ⟨ii, by omega, by go_num, HE2⟩
                case measure => simp [intOf] <;> omega
    · obtain rfl : q = m1 := by omega
      have hall := List.take_of_length_le (l := norm L) (i := q) (by rw [← HM.out]; unfold vars; rw [List.length_map]; exact Nat.le_refl _)
      rw [hall] at r4
      have hR : Box 28 wr (w0.heap.size + 1) #[.slice none 0 0, .bool false, .slice none 0 0] := HX1.out.other oW (by have := HG8.out; omega)
      have x0 := xg.c0
      have x1 := xg.c1
      have x2 := xg.c2
      have HRR := hide r4
      have HTT := hide hT
      clear hall r4 xg oW hT HR
      go_wp2_with (with_reducible refine wpList_store_t rfl _ _ rfl (w0.heap.size + 1) _ _ _ _ _ _ _ rfl rfl _ _ _ hR ?_; intro w7 k7 ho7)
      refine bodyPost_t rfl rfl k7 rfl ?_
      exact TPost.mono ⟨_, rfl, HRR.out.only hR ho7, zback HTT.out (by omega) ho7⟩ (by omega)
end Go.Proofs.YtdeakieenppmiaaGreat
