/- Texts of one seat, put together: TValue TCoef. -/
import Derived.Test.YtakcgkohnomgjaaGreatDoorE24
set_option linter.unusedVariables false
set_option linter.unusedSimpArgs false
/- term.Value. -/
namespace Go.Proofs.YtakcgkohnomgjaaGreatDoor
open Go.RowKit
open Tm

theorem val_take_succ (vs : List Int) (L : List (Int × Int)) (q : Nat) (u c : Int) (h : L[q]? = some (u, c)) : val vs (L.take (q + 1)) = val vs (L.take q) + (if 0 ≤ u then c * vs.getD u.toNat 0 else 0) := by
  rw [List.take_add_one, h, val_append]
  simp [val]
theorem nums_getD (ivs : List IV) (i : Nat) (p : IV) (h : ivs[i]? = some p) : (nums ivs).getD i 0 = p.Z := by
  unfold nums
  rw [List.getD_eq_getElem?_getD, List.getElem?_map, h]; rfl
theorem nums_out (ivs : List IV) (i : Nat) (h : ivs.length ≤ i) : (nums ivs).getD i 0 = 0 := by
  unfold nums
  rw [List.getD_eq_getElem?_getD, List.getElem?_eq_none (by rw [List.length_map]; exact h)]; rfl
def ValRel (g : Nat) (W1 : World) (L : List (Int × Int)) (K : Int) (vs : List Int) (k q : Nat) (wr : World) : Prop :=
  ∃ s A n c, Blk wr g #[.bool s, .slice A n c] ∧ ZRes wr (.agg #[.bool s, .slice A n c]) (K + val vs (L.take q)) (k + q) ∧ Below g W1 wr
set_option maxRecDepth 100000 in
set_option maxHeartbeats 4000000 in
theorem tvalue_any (v : Value) (L : List (Int × Int)) (K : Int) (k kj : Nat) (VA : Option Addr) (vn vc : Nat) (ivs : List IV) (w0 : World) (hv : TIn w0 v L K k) (hvs : ValsIn w0 VA vn ivs kj) (hvn : vn ≤ 9223372036854775807) (hl : L.length ≤ 1099511) (hk : k ≤ 1099511627) (hkj : kj ≤ 1099511627) : Calls Tryz.prog 28 #[v, .slice VA vn vc] w0 (ZPost (K + val (nums ivs) L) (k + kj + L.length) w0) := by
  obtain ⟨A, n, c, s, B, m, d, rfl, hp, hc1, hc2, hK⟩ := hv
  have hn := hp.len
  obtain ⟨z0, z1, z2, z3⟩ := bstart2 28 26 w0 #[.slice A n c, .bool s, .slice B m d] #[.bool false, .slice none 0 0]
  have hcp := copied_z _ K k _ (hK.below z2) (by omega)
  have x1 := z0.c1
  have x2 := z0.c2
  rw [hn] at hl
  have HN := hide hn
  have HVL := hide hvs.1
  clear hn
  go_enter Tryz.func28, Tryz.ntmps28
  go_wp2_with fail
  refine hcp.mono ?_
  rintro e w1 ⟨v1, rfl, r1, b1⟩
  obtain ⟨s1, A1, n1, c1, rfl⟩ := r1.form
  have HT1 := hide (z2.next b1)
  have hw1 : w0.heap.size + 1 + 1 ≤ w1.heap.size := by have := b1.size; omega
  have q0 := z0.next b1
  have x0 := q0.c0
  have HR1 := hide (z1.next b1)
  have HP0 := hide hp
  have HV0 := hide hvs
  clear x1 x2 hcp z0 z1 z2 z3 b1 hp hvs hK
  obtain ⟨y0, y1, y2⟩ := bstart1 26 w1 #[.bool s1, .slice A1 n1 c1]
  have HS := hide (show ValRel w1.heap.size (w1.alloc (.cells #[.bool s1, .slice A1 n1 c1] 26)) L K (nums ivs) (k + kj) 0 (w1.alloc (.cells #[.bool s1, .slice A1 n1 c1] 26)) from ⟨s1, A1, n1, c1, y0, by simpa [val] using (r1.below y1).mono (show k ≤ k + kj by omega), Below.refl _ _⟩)
  have HY1 := hide y1
  clear y0 y1 r1
  have q1 := q0.next HY1.out
  have u0 := q1.c0
  clear q0 q1
  go_wp2_with fail
  generalize hW1 : w1.alloc (.cells #[.bool s1, .slice A1 n1 c1] 26) = W1 at *
  clear hW1 u0 x0
  go_loopw [14] (fun i wr => ∃ q : Nat, q ≤ n ∧ i = .int .i64 q ∧ Hid (ValRel w1.heap.size W1 L K (nums ivs) (k + kj) q wr)) (fun i _ => n - (intOf i).toNat)
  case atStart => exact ⟨0, Nat.zero_le _, rfl, HS⟩
  case round =>
    obtain ⟨q, hq, rfl, HR⟩ := hrel
    obtain ⟨s5, A5, n5, c5, b5, zz5, hB⟩ := HR.out
    have hBW : w1.heap.size ≤ W1.heap.size := HY1.out.size
    have hT : Below w0.heap.size w0 wr := (HT1.out.next HY1.out).trans (hB.mono (by omega))
    by_cases hqn : q < n
    · have hPw : PIn wr A n L k := HP0.out.below hT
      obtain ⟨bb, o, p, rfl, hlt, hLp, c0, c1x, c2, hz⟩ := hPw.at_ hqn
      obtain ⟨pv, ps, pB, pm, pd, pZ⟩ := p
      have hz : ZIn wr (.agg #[.bool ps, .slice pB pm pd]) pZ k := hz
      dsimp only at c0 c1x c2 hLp
      obtain ⟨y0, y1, -⟩ := bstart1 55 wr #[.int .i64 pv, .bool ps, .slice pB pm pd]
      have HB1 := hide (hB.trans (y1.mono (Nat.le_trans hBW hB.size)))
      have HV := hide (val_take_succ (nums ivs) L q _ _ hLp)
      by_cases hp0 : 0 ≤ pv
      · obtain ⟨u, rfl⟩ := Int.eq_ofNat_of_zero_le hp0
        by_cases huv : u < vn
        · obtain ⟨vb, vo, iv, rfl, hiv, e0, e1, hzi⟩ := (HV0.out.below hT).at_ huv
          have e0 : wr.cell? ⟨vb, vo + u * 2, none⟩ = some (.bool iv.s) := by rw [Nat.mul_comm]; exact e0
          have e1 : wr.cell? ⟨vb, vo + u * 2 + 1, none⟩ = some (.slice iv.B iv.m iv.d) := by rw [Nat.mul_comm, Nat.add_assoc]; exact e1
          have hltv := World.block_lt_of_cell? wr _ e0
          have HC := hide (show K + val (nums ivs) (L.take q) + pZ * iv.Z = K + val (nums ivs) (L.take (q + 1)) by rw [HV.out, if_pos hp0, Int.toNat_natCast, nums_getD ivs u iv hiv]; omega)
          generalize hY : K + val (nums ivs) (L.take q) = Y at *
          have HB5 := hide (b5.next y1)
          have HZ5 := hide (zz5.below y1)
          have hzm := hide (hz.below y1)
          have hzi1 := hide (hzi.below y1)
          have E0 := hide ((y1.cell (p := ⟨vb, vo + u * 2, none⟩) hltv).trans e0)
          have E1 := hide ((y1.cell (p := ⟨vb, vo + u * 2 + 1, none⟩) hltv).trans e1)
          have hlt6 := Nat.lt_of_lt_of_le hltv y1.size
          clear hY hz hzi zz5 hLp HR b5 hB hT hPw hiv HV e0 e1
          go_wp2_with fail
          generalize hW6 : (wr.alloc (.cells #[.int .i64 (u : Int), .bool ps, .slice pB pm pd] 55)) = W6 at *
          clear hW6
          have HM := hide (fun W (h : Below W6.heap.size W6 W) => mul_z (.agg #[.bool ps, .slice pB pm pd]) (.agg #[.bool iv.s, .slice iv.B iv.m iv.d]) pZ iv.Z k kj W (hzm.out.below h) (hzi1.out.below h) (by omega) (by omega))
          have SOF := hide (show ∀ W, Below W6.heap.size W6 W → (W.cell? ⟨w1.heap.size, 0, none⟩ = some (.bool s5) ∧ W.cell? ⟨w1.heap.size, 1, none⟩ = some (.slice A5 n5 c5) ∧ W.cell? ⟨wr.heap.size, 0, none⟩ = some (.int .i64 (u : Int)) ∧ W.cell? ⟨wr.heap.size, 1, none⟩ = some (.bool ps) ∧ W.cell? ⟨wr.heap.size, 2, none⟩ = some (.slice pB pm pd) ∧ W.cell? ⟨vb, vo + u * 2, none⟩ = some (.bool iv.s) ∧ W.cell? ⟨vb, vo + u * 2 + 1, none⟩ = some (.slice iv.B iv.m iv.d)) from fun W h => ⟨(HB5.out.next h).c0, (HB5.out.next h).c1, (y0.next h).c0, (y0.next h).c1, (y0.next h).c2, (h.cell (p := ⟨vb, vo + u * 2, none⟩) hlt6).trans E0.out, (h.cell (p := ⟨vb, vo + u * 2 + 1, none⟩) hlt6).trans E1.out⟩)
          clear y0 c0 c1x c2 y1
          refine wp_drawnL (by kernel_rfl) (by kernel_rfl) (by kernel_rfl) (by kernel_rfl) (fun w w' => Below w.heap.size w w') (fun j v w => match j with | 0 => v = .agg #[.bool s5, .slice A5 n5 c5] | 1 => v = .pointer (some ⟨wr.heap.size, 1, none⟩) | 2 => v = .agg #[.bool ps, .slice pB pm pd] | 3 => v = .slice (some ⟨vb, vo, none⟩) vn vc | 4 => v = .pointer (some ⟨wr.heap.size, 0, none⟩) | 5 => v = .int .i64 (u : Int) | 6 => v = .pointer (some ⟨vb, vo + u * 2, none⟩) | 7 => v = .agg #[.bool iv.s, .slice iv.B iv.m iv.d] | 8 => ZRes w v (pZ * iv.Z) (k + kj) | 9 => ZRes w v (Y + pZ * iv.Z) (k + kj + q + 1) | _ => True) (fun _ _ w => Below W6.heap.size W6 w) ?_ (fun _ => bl_drewN W6 1) ?_ ?_
          · intro j v w w' hT h
            match j, h with
            | 0, h => exact h
            | 1, h => exact h
            | 2, h => exact h
            | 3, h => exact h
            | 4, h => exact h
            | 5, h => exact h
            | 6, h => exact h
            | 7, h => exact h
            | 8, h => exact h.below hT
            | 9, h => exact h.below hT
            | j + 10, h => trivial
          · refine ⟨?_, ?_, ?_, ?_, ?_, ?_, ?_, ?_, ?_, ?_, trivial⟩
            · intro listed σ w a hin hout hl hla hs hc hp hG hF
              refine Guarded.none rfl ?_
              have e5 : a.tmps.getD 5 undef = .pointer (some ⟨w1.heap.size, 0, none⟩) := hout 5 (outB_spec (by kernel_rfl))
              have CC := SOF.out w hG; obtain ⟨C0, C1, D0, D1, D2, E0, E1⟩ := CC
              refine Does.val (.agg #[.bool s5, .slice A5 n5 c5]) (w' := w) ?_ ⟨Below.refl _ _, rfl, hG⟩
              go_simp
            · intro listed σ w a hin hout hl hla hs hc hp hG hF
              refine Guarded.none rfl ?_
              have e7 : a.tmps.getD 7 undef = .pointer (some ⟨wr.heap.size, 0, none⟩) := hout 7 (outB_spec (by kernel_rfl))
              refine Does.val (.pointer (some ⟨wr.heap.size, 1, none⟩)) (w' := w) ?_ ⟨Below.refl _ _, rfl, hG⟩
              simp only [Array.getD_eq_getD_getElem?] at e7
              go_simp
            · intro listed σ w a hin hout hl hla hs hc hp hG hF
              refine Guarded.none rfl ?_
              have e29 : a.tmps.getD 29 undef = .pointer (some ⟨wr.heap.size, 1, none⟩) := (hin 1 29 rfl (hp ⟨1, .data⟩ (by simp) rfl)).trans (hF 1 (hp ⟨1, .data⟩ (by simp) rfl))
              have CC := SOF.out w hG; obtain ⟨C0, C1, D0, D1, D2, E0, E1⟩ := CC
              refine Does.val (.agg #[.bool ps, .slice pB pm pd]) (w' := w) ?_ ⟨Below.refl _ _, rfl, hG⟩
              go_simp
            · intro listed σ w a hin hout hl hla hs hc hp hG hF
              refine Guarded.none rfl ?_
              have e1 : a.tmps.getD 1 undef = .slice (some ⟨vb, vo, none⟩) vn vc := hout 1 (outB_spec (by kernel_rfl))
              refine Does.val (.slice (some ⟨vb, vo, none⟩) vn vc) (w' := w) ?_ ⟨Below.refl _ _, rfl, hG⟩
              simp only [Array.getD_eq_getD_getElem?] at e1
              go_simp
            · intro listed σ w a hin hout hl hla hs hc hp hG hF
              refine Guarded.none rfl ?_
              have e7 : a.tmps.getD 7 undef = .pointer (some ⟨wr.heap.size, 0, none⟩) := hout 7 (outB_spec (by kernel_rfl))
              refine Does.val (.pointer (some ⟨wr.heap.size, 0, none⟩)) (w' := w) ?_ ⟨Below.refl _ _, rfl, hG⟩
              simp only [Array.getD_eq_getD_getElem?] at e7
              go_simp
            · intro listed σ w a hin hout hl hla hs hc hp hG hF
              refine Guarded.none rfl ?_
              have e32 : a.tmps.getD 32 undef = .pointer (some ⟨wr.heap.size, 0, none⟩) := (hin 4 32 rfl (hp ⟨4, .data⟩ (by simp) rfl)).trans (hF 4 (hp ⟨4, .data⟩ (by simp) rfl))
              have CC := SOF.out w hG; obtain ⟨C0, C1, D0, D1, D2, E0, E1⟩ := CC
              refine Does.val (.int .i64 (u : Int)) (w' := w) ?_ ⟨Below.refl _ _, rfl, hG⟩
              go_simp
            · intro listed σ w a hin hout hl hla hs hc hp hG hF
              refine Guarded.none rfl ?_
              have e31 : a.tmps.getD 31 undef = .slice (some ⟨vb, vo, none⟩) vn vc := (hin 3 31 rfl (hp ⟨3, .data⟩ (by simp) rfl)).trans (hF 3 (hp ⟨3, .data⟩ (by simp) rfl))
              have e33 : a.tmps.getD 33 undef = .int .i64 (u : Int) := (hin 5 33 rfl (hp ⟨5, .data⟩ (by simp) rfl)).trans (hF 5 (hp ⟨5, .data⟩ (by simp) rfl))
              refine Does.val (.pointer (some ⟨vb, vo + u * 2, none⟩)) (w' := w) ?_ ⟨Below.refl _ _, rfl, hG⟩
              simp only [Array.getD_eq_getD_getElem?] at e31 e33
              go_simp
              (try (intro hh; exfalso; omega))
            · intro listed σ w a hin hout hl hla hs hc hp hG hF
              refine Guarded.none rfl ?_
              have e34 : a.tmps.getD 34 undef = .pointer (some ⟨vb, vo + u * 2, none⟩) := (hin 6 34 rfl (hp ⟨6, .data⟩ (by simp) rfl)).trans (hF 6 (hp ⟨6, .data⟩ (by simp) rfl))
              have CC := SOF.out w hG; obtain ⟨C0, C1, D0, D1, D2, E0, E1⟩ := CC
              refine Does.val (.agg #[.bool iv.s, .slice iv.B iv.m iv.d]) (w' := w) ?_ ⟨Below.refl _ _, rfl, hG⟩
              go_simp
            · intro listed σ w a hin hout hl hla hs hc hp hG hF
              refine Guarded.none rfl ?_
              have e30 : a.tmps.getD 30 undef = .agg #[.bool ps, .slice pB pm pd] := (hin 2 30 rfl (hp ⟨2, .data⟩ (by simp) rfl)).trans (hF 2 (hp ⟨2, .data⟩ (by simp) rfl))
              have e35 : a.tmps.getD 35 undef = .agg #[.bool iv.s, .slice iv.B iv.m iv.d] := (hin 7 35 rfl (hp ⟨7, .data⟩ (by simp) rfl)).trans (hF 7 (hp ⟨7, .data⟩ (by simp) rfl))
              refine Does.call ?_ (HM.out w hG) ?_
              · go_simp
              · rintro e w' ⟨v, rfl, z, hb⟩
                exact ⟨_, rfl, hb, z, hG.next hb⟩
            · intro listed σ w a hin hout hl hla hs hc hp hG hF
              refine Guarded.none rfl ?_
              have e28 : a.tmps.getD 28 undef = .agg #[.bool s5, .slice A5 n5 c5] := (hin 0 28 rfl (hp ⟨0, .data⟩ (by simp) rfl)).trans (hF 0 (hp ⟨0, .data⟩ (by simp) rfl))
              have e36 := hin 8 36 rfl (hp ⟨8, .data⟩ (by simp) rfl)
              have z8 := hF 8 (hp ⟨8, .data⟩ (by simp) rfl)
              refine Does.call ?_ (add_z _ _ Y (pZ * iv.Z) (k + kj + q) w (HZ5.out.in_.below hG) (z8.in_.mono (by omega)) (by omega)) ?_
              · go_simp
              · rintro e w' ⟨v, rfl, z, hb⟩
                exact ⟨_, rfl, hb, z, hG.next hb⟩
          · intro o ho
            injection ho with ho; subst ho
            intro listed σ w a hall hin hout hG hF
            refine Guarded.none rfl ?_
            have e5 : a.tmps.getD 5 undef = .pointer (some ⟨w1.heap.size, 0, none⟩) := hout 5 (outL (by kernel_rfl))
            have e37 := hin 9 37 rfl (by decide)
            have z9 := hF 9 (by decide)
            have z9 := hF 9 (by decide)
            obtain ⟨s8, A8, n8, c8, ev8⟩ := ZRes.form z9
            rw [ev8] at e37 z9
            have HX := hide (HB5.out.next hG)
            refine Does.store_box (T := 26) (cells := #[.bool s8, .slice A8 n8 c8]) rfl e5 e37 (Blk.box HX.out) (by kernel_rfl) rfl (by simp [Value.oneCell']) (fun w2 x9 o9 => ?_)
            rw [show fin _ σ undef _ = (Act.put (Act.put (Act.put (Act.put (Act.put (Act.put (Act.put (Act.put (Act.put (Act.put (Act.put _ (some 28) (σ 0)) (some 29) (σ 1)) (some 30) (σ 2)) (some 31) (σ 3)) (some 32) (σ 4)) (some 33) (σ 5)) (some 34) (σ 6)) (some 35) (σ 7)) (some 36) (σ 8)) (some 37) (σ 9)) none undef) from (fin_all hall).trans rfl]
            simp only [Act.put, List.setIfInBounds_toArray, List.set_cons_zero, List.set_cons_succ]
            have HE := hide (show ValRel w1.heap.size W1 L K (nums ivs) (k + kj) (q + 1) w2 from ⟨s8, A8, n8, c8, x9, by rw [← HC.out]; exact (z9.only HX.out o9).mono (by omega), (HB1.out.trans (hG.mono (Nat.le_trans hBW HB1.out.size))).trans (o9.below (Nat.le_trans hBW (Nat.le_trans HB1.out.size hG.size)) (Nat.le_refl _))⟩)
            generalize σ 0 = tt0 at *; generalize σ 1 = tt1 at *; generalize σ 2 = tt2 at *; generalize σ 3 = tt3 at *; generalize σ 4 = tt4 at *; generalize σ 5 = tt5 at *; generalize σ 6 = tt6 at *; generalize σ 7 = tt7 at *; generalize σ 8 = tt8 at *; generalize σ 9 = tt9 at *
            clear hF hG hall hin hout SOF HM z9 x9 o9 e5 e37 ev8
            go_wp2_with fail
            go_roundw
            case rel => exact ⟨q + 1, by omega, by go_num, HE⟩
            case measure => simp [intOf] <;> omega
        · have HE := hide (show ValRel w1.heap.size W1 L K (nums ivs) (k + kj) (q + 1) _ from ⟨s5, A5, n5, c5, b5.next y1, by rw [HV.out, if_pos hp0, Int.toNat_natCast, nums_out ivs u (by have := HVL.out; omega), Int.mul_zero, Int.add_zero]; exact (zz5.mono (by omega)).below y1, HB1.out⟩)
          clear hz zz5 hLp HR b5 hB hT hPw HV y0 y1
          go_wp2_with fail
          go_roundw
          case rel => exact ⟨q + 1, by omega, by go_num, HE⟩
          case measure => simp [intOf] <;> omega
      · have HE := hide (show ValRel w1.heap.size W1 L K (nums ivs) (k + kj) (q + 1) _ from ⟨s5, A5, n5, c5, b5.next y1, by rw [HV.out, if_neg hp0, Int.add_zero]; exact (zz5.mono (by omega)).below y1, HB1.out⟩)
        clear hz zz5 hLp HR b5 hB hT hPw HV y0 y1
        go_wp2_with fail
        go_roundw
        case rel => exact ⟨q + 1, by omega, by go_num, HE⟩
        case measure => simp [intOf] <;> omega
    · obtain rfl : q = n := by omega
      have HL := hide (show val (nums ivs) (L.take q) = val (nums ivs) L by rw [List.take_of_length_le (by rw [HN.out]; exact Nat.le_refl _)])
      have b50 := b5.c0
      have b51 := b5.c1
      have k1 : Blk wr (w0.heap.size + 1) #[.bool false, .slice none 0 0] := Box.below (Box.next HR1.out HY1.out) hB (by omega)
      have HZ5 := hide zz5
      have HT := hide hT
      clear zz5 b5 HR hT
      go_wp2_with (with_reducible refine wpList_store_z rfl _ _ rfl (w0.heap.size + 1) _ _ _ _ rfl rfl _ _ k1 ?_; intro w3 k3 ho3)
      refine bodyPost_z rfl rfl k3 rfl ?_
      refine ⟨_, rfl, ?_, zback HT.out (by omega) ho3⟩
      rw [HN.out, ← HL.out]
      exact HZ5.out.only k1 ho3
end Go.Proofs.YtakcgkohnomgjaaGreatDoor
/- term.Coef, Has. -/
namespace Go.Proofs.YtakcgkohnomgjaaGreatDoor
open Go.RowKit
open Tm

set_option maxRecDepth 100000 in
set_option maxHeartbeats 2000000 in
theorem tcoef_any (v : Value) (L : List (Int × Int)) (K x : Int) (k : Nat) (w0 : World) (hv : TIn w0 v L K k) (hl : L.length ≤ 1099511) (hk : k ≤ 1099511627) : Calls Tryz.prog 14 #[v, .int .i64 x] w0 (ZPost (coef L x) (k + L.length) w0) := by
  obtain ⟨A, n, c, s, B, m, d, rfl, hp, hc1, hc2, -⟩ := hv
  have hn := hp.len
  obtain ⟨z0, z1, z2, z3, z4⟩ := bstart3 28 26 26 w0 #[.slice A n c, .bool s, .slice B m d] #[.bool false, .slice none 0 0] #[.bool false, .slice none 0 0]
  have x0 := z0.c0
  rw [hn] at hl
  have HN := hide hn
  clear hn
  go_enter Tryz.func14, Tryz.ntmps14
  go_wp2_with fail
  generalize hW1 : (((w0.alloc (.cells #[.slice A n c, .bool s, .slice B m d] 28)).alloc (.cells #[.bool false, .slice none 0 0] 26)).alloc (.cells #[.bool false, .slice none 0 0] 26)) = W1 at *
  clear hW1 x0
  have HS := hide (show CoefRel w0 W1 L x k 0 W1 from ⟨false, none, 0, 0, z2, ZRes.zero _ _, Below.refl _ _⟩)
  have R0 := hide z1
  have T0 := hide z3
  have HZ4 := hide z4
  have HP0 := hide hp
  clear z0 z1 z2 z3 z4 hp
  go_loopw [11] (fun i wr => ∃ q : Nat, q ≤ n ∧ i = .int .i64 q ∧ Hid (CoefRel w0 W1 L x k q wr)) (fun i _ => n - (intOf i).toNat)
  case atStart => exact ⟨0, Nat.zero_le _, rfl, HS⟩
  case round =>
    obtain ⟨q, hq, rfl, HR⟩ := hrel
    obtain ⟨s5, A5, n5, c5, b5, zz5, hB⟩ := HR.out
    have hBW : w0.heap.size + 1 + 1 ≤ W1.heap.size := by have := HZ4.out; omega
    have hT : Below w0.heap.size w0 wr := T0.out.trans (hB.mono (by omega))
    by_cases hqn : q < n
    · have hPw : PIn wr A n L k := by
        obtain ⟨ps, h1, h2⟩ := HP0.out
        exact ⟨ps, h1.below hT, h2⟩
      obtain ⟨bb, o, p, rfl, hlt, hLp, c0, c1, c2, hz⟩ := hPw.at_ hqn
      obtain ⟨y0, y1, -⟩ := bstart1 55 wr #[.int .i64 p.v, .bool p.s, .slice p.B p.m p.d]
      have hB1 : Below (w0.heap.size + 1 + 1) W1 (wr.alloc (.cells #[.int .i64 p.v, .bool p.s, .slice p.B p.m p.d] 55)) := hB.trans (y1.mono (Nat.le_trans hBW hB.size))
      by_cases hpx : p.v = x
      · by_cases hx0 : 0 ≤ x
        · have HC := hide (show coef (L.take q) x + p.Z = coef (L.take (q + 1)) x by rw [coef_take_succ L q _ _ x hLp, if_pos ⟨hpx, hx0⟩])
          have hbb : (p.v == x) = true := by simpa using hpx
          generalize hY : coef (L.take q) x = Y at *
          have k1 := b5.next y1
          have hA := add_z (.agg #[.bool s5, .slice A5 n5 c5]) (.agg #[.bool p.s, .slice p.B p.m p.d]) Y p.Z (k + q) _ (zz5.in_.below y1) ((hz.mono (by omega)).below y1) (by omega)
          have b50 := k1.c0
          have b51 := k1.c1
          have HB1 := hide hB1
          have HK1 := hide k1
          clear hY zz5 hLp hpx HR hz b5 hB hT hPw y0 y1 hB1 k1
          go_wp2_with fail
          refine hA.mono ?_
          rintro e w2 ⟨v2, rfl, r2, b2⟩
          obtain ⟨s2, A2, n2, c2', rfl⟩ := r2.form
          have k2 := HK1.out.next b2
          go_wp2_with (with_reducible refine wpList_store_z rfl _ _ rfl (w0.heap.size + 1 + 1) _ _ _ _ rfl rfl _ _ k2 ?_; intro w3 k3 ho3)
          have HE := hide (show CoefRel w0 W1 L x k (q + 1) w3 from ⟨s2, A2, n2, c2', k3, by rw [← HC.out]; exact (r2.only k2 ho3).mono (by omega), (HB1.out.trans (b2.mono (Nat.le_trans hBW HB1.out.size))).trans (ho3.below (Nat.le_trans hBW (Nat.le_trans HB1.out.size b2.size)) (Nat.le_refl _))⟩)
          go_roundw
          case rel => exact ⟨q + 1, by omega, by go_num, HE⟩
          case measure => simp [intOf] <;> omega
        · have HE := hide (show CoefRel w0 W1 L x k (q + 1) _ from ⟨s5, A5, n5, c5, b5.next y1, by rw [coef_take_succ L q _ _ x hLp, if_neg (fun h => hx0 h.2), Int.add_zero]; exact (zz5.mono (by omega)).below y1, hB1⟩)
          have hbb : (p.v == x) = true := by simpa using hpx
          clear zz5 hLp hpx HR hz b5 y0 y1 hB1
          go_wp2_with fail
          go_roundw
          case rel => exact ⟨q + 1, by omega, by go_num, HE⟩
          case measure => simp [intOf] <;> omega
      · have HE := hide (show CoefRel w0 W1 L x k (q + 1) _ from ⟨s5, A5, n5, c5, b5.next y1, by rw [coef_take_succ L q _ _ x hLp, if_neg (fun h => hpx h.1), Int.add_zero]; exact (zz5.mono (by omega)).below y1, hB1⟩)
        have hbb : (p.v == x) = false := by simpa using hpx
        clear zz5 hLp hpx HR hz b5 y0 y1 hB1
        go_wp2_with fail
        go_roundw
        case rel => exact ⟨q + 1, by omega, by go_num, HE⟩
        case measure => simp [intOf] <;> omega
    · obtain rfl : q = n := by omega
      have HL := hide (show coef (L.take q) x = coef L x by rw [List.take_of_length_le (by rw [HN.out]; exact Nat.le_refl _)])
      have b50 := b5.c0
      have b51 := b5.c1
      have k1 : Blk wr (w0.heap.size + 1) #[.bool false, .slice none 0 0] := Box.below R0.out hB (by omega)
      have HZ5 := hide zz5
      have HT := hide hT
      clear zz5 b5 HR hT
      go_wp2_with (with_reducible refine wpList_store_z rfl _ _ rfl (w0.heap.size + 1) _ _ _ _ rfl rfl _ _ k1 ?_; intro w3 k3 ho3)
      refine bodyPost_z rfl rfl k3 rfl ?_
      refine ⟨_, rfl, ?_, zback HT.out (by omega) ho3⟩
      rw [HN.out, ← HL.out]
      exact HZ5.out.only k1 ho3
/-- A call that answers a bool. -/
def BoolIs (b : Bool) (w : World) (e : Ending) (w' : World) : Prop := e = .returned (.bool b) ∧ Below w.heap.size w w'
set_option maxRecDepth 100000 in
set_option maxHeartbeats 1000000 in
theorem thas_any (v : Value) (L : List (Int × Int)) (K x : Int) (k : Nat) (w0 : World) (hv : TIn w0 v L K k) (hl : L.length ≤ 1099511) (hk : k ≤ 1099511627) : Calls Tryz.prog 22 #[v, .int .i64 x] w0 (BoolIs (decide (coef L x ≠ 0)) w0) := by
  have hv0 := hv
  obtain ⟨A, n, c, s, B, m, d, rfl, -⟩ := hv
  obtain ⟨z0, z1, -⟩ := bstart1 28 w0 #[.slice A n c, .bool s, .slice B m d]
  have hc := tcoef_any _ L K x k _ (hv0.below z1) hl hk
  have HZ1 := hide z1
  clear hv0 z0 z1
  by_cases h0 : coef L x = 0
  · have HD := hide (show decide (coef L x ≠ 0) = false by simpa using h0)
    rw [h0] at hc
    clear h0
    go_enter Tryz.func22, Tryz.ntmps22
    go_wp2_with fail
    refine hc.mono ?_
    rintro e w1 ⟨v1, rfl, r1, b1⟩
    have hs := sign_z _ 0 _ _ r1.in_ (by omega)
    unfold SignPost at hs
    rw [show Int.sign 0 = 0 from rfl] at hs
    go_wp2_with fail
    refine hs.mono ?_
    rintro e w2 ⟨rfl, b2⟩
    go_wp2_with fail
    go_ret
    unfold BoolIs
    rw [HD.out]
    exact ⟨rfl, (HZ1.out.next b1).next b2⟩
  · have HD := hide (show decide (coef L x ≠ 0) = true by simpa using h0)
    have h1 : ((coef L x).sign != 0) = true := by
      have := sgn_ne h0
      simp only [bne, this, Bool.not_false]
    generalize hY : coef L x = Y at *
    clear h0 hY
    go_enter Tryz.func22, Tryz.ntmps22
    go_wp2_with fail
    refine hc.mono ?_
    rintro e w1 ⟨v1, rfl, r1, b1⟩
    have hs := sign_z _ Y _ _ r1.in_ (by omega)
    unfold SignPost at hs
    generalize Y.sign = sg at *
    go_wp2_with fail
    refine hs.mono ?_
    rintro e w2 ⟨rfl, b2⟩
    go_wp2_with fail
    go_ret
    unfold BoolIs
    rw [HD.out]
    exact ⟨rfl, (HZ1.out.next b1).next b2⟩
end Go.Proofs.YtakcgkohnomgjaaGreatDoor
