/- Texts of one seat, put together: TValue RelA TermMathC DivMath. -/
import Derived.Test.YtdeakieenppmiaaGreatDoorC22
import Derived.Test.YtdeakieenppmiaaGreatDoorC25
import Derived.Test.YtdeakieenppmiaaGreatDoorC16
import Derived.Test.YtdeakieenppmiaaGreatDoorC11
set_option linter.unusedVariables false
set_option linter.unusedSimpArgs false
set_option maxRecDepth 100000
set_option maxHeartbeats 16000000
/- term.Value. -/
namespace Go.Proofs.YtdeakieenppmiaaGreatDoor
open Go.RowKit
open Tm

theorem val_take_succ (vs : List Int) (L : List (Int × Int)) (q : Nat) (u c : Int) (h : L[q]? = some (u, c)) : val vs (L.take (q + 1)) = val vs (L.take q) + (if 0 ≤ u then c * vs.getD u.toNat 0 else 0) := by
 rw [List.take_add_one, h, val_append]
 simp [val]
theorem nums_getD (ivs : List IV) (i : Nat) (p : IV) (h : ivs[i]? = some p) : (nums ivs).getD i 0 = p.Z := by
 unfold nums
 rw [List.getD_eq_getElem?_getD, List.getElem?_map, h]; rfl
theorem nums_out (ivs : List IV) (i : Nat) (h : ivs.length ≤ i) : (nums ivs).getD i 0 = 0 := by
 unfold nums
 rw [List.getD_eq_getElem?_getD, List.getElem?_eq_none (by rw [List.length_map]; exact h)]; rfl
def ValRel (g : Nat) (W1 : World) (L : List (Int × Int)) (K : Int) (vs : List Int) (k q : Nat) (wr : World) : Prop :=
 ∃ s A n c, Blk wr g #[.bool s, .slice A n c] ∧ ZRes wr (.agg #[.bool s, .slice A n c]) (K + val vs (L.take q)) (k + q) ∧ Below g W1 wr
theorem tvalue_any (v : Value) (L : List (Int × Int)) (K : Int) (k kj : Nat) (VA : Option Addr) (vn vc : Nat) (ivs : List IV) (w0 : World) (hv : TIn w0 v L K k) (hvs : ValsIn w0 VA vn ivs kj) (hvn : vn ≤ 9223372036854775807) (hl : L.length ≤ 1099511) (hk : k ≤ 1099511627) (hkj : kj ≤ 1099511627) : Calls Tryz.prog 57 #[v, .slice VA vn vc] w0 (ZPost (K + val (nums ivs) L) (k + kj + L.length) w0) := by
 obtain ⟨A, n, c, s, B, m, d, rfl, hp, hc1, hc2, hK⟩ := hv
 have hn := hp.len
 obtain ⟨z0, z1, z2, z3⟩ := bstart2 28 26 w0 #[.slice A n c, .bool s, .slice B m d] #[.bool false, .slice none 0 0]
 have hcp := copied_z _ K k _ (hK.below z2) (by omega)
 have x1 := z0.c1
 have x2 := z0.c2
 rw [hn] at hl
 have HN := hide hn
 have HVL := hide hvs.1
 clear hn
 go_enter Tryz.func57, Tryz.ntmps57
 go_wp2_with fail
 refine hcp.mono ?_
 rintro e w1 ⟨v1, rfl, r1, b1⟩
 obtain ⟨s1, A1, n1, c1, rfl⟩ := r1.form
 have HT1 := hide (z2.next b1)
 have hw1 : w0.heap.size + 1 + 1 ≤ w1.heap.size := by have := b1.size; omega
 have q0 := z0.next b1
 have x0 := q0.c0
 have HR1 := hide (z1.next b1)
 have HP0 := hide hp
 have HV0 := hide hvs
 clear x1 x2 hcp z0 z1 z2 z3 b1 hp hvs hK
 obtain ⟨y0, y1, y2⟩ := bstart1 26 w1 #[.bool s1, .slice A1 n1 c1]
 have HS := hide (show ValRel w1.heap.size (w1.alloc (.cells #[.bool s1, .slice A1 n1 c1] 26)) L K (nums ivs) (k + kj) 0 (w1.alloc (.cells #[.bool s1, .slice A1 n1 c1] 26)) from ⟨s1, A1, n1, c1, y0, by simpa [val] using (r1.below y1).mono (show k ≤ k + kj by omega), Below.refl _ _⟩)
 have HY1 := hide y1
 clear y0 y1 r1
 have q1 := q0.next HY1.out
 have u0 := q1.c0
 clear q0 q1
 go_wp2_with fail
 generalize hW1 : w1.alloc (.cells #[.bool s1, .slice A1 n1 c1] 26) = W1 at *
 clear hW1 u0 x0
 go_loopw [14] (fun i wr => ∃ q : Nat, q ≤ n ∧ i = .int .i64 q ∧ Hid (ValRel w1.heap.size W1 L K (nums ivs) (k + kj) q wr)) (fun i _ => n - (intOf i).toNat)
 case atStart => exact ⟨0, Nat.zero_le _, rfl, HS⟩
 case round =>
  obtain ⟨q, hq, rfl, HR⟩ := hrel
  obtain ⟨s5, A5, n5, c5, b5, zz5, hB⟩ := HR.out
  have hBW : w1.heap.size ≤ W1.heap.size := HY1.out.size
  have hT : Below w0.heap.size w0 wr := (HT1.out.next HY1.out).trans (hB.mono (by omega))
  by_cases hqn : q < n
  · have hPw : PIn wr A n L k := HP0.out.below hT
    obtain ⟨bb, o, p, rfl, hlt, hLp, c0, c1x, c2, hz⟩ := hPw.at_ hqn
    obtain ⟨pv, ps, pB, pm, pd, pZ⟩ := p
    have hz : ZIn wr (.agg #[.bool ps, .slice pB pm pd]) pZ k := hz
    dsimp only at c0 c1x c2 hLp
    obtain ⟨y0, y1, -⟩ := bstart1 60 wr #[.int .i64 pv, .bool ps, .slice pB pm pd]
    have HB1 := hide (hB.trans (y1.mono (Nat.le_trans hBW hB.size)))
    have HV := hide (val_take_succ (nums ivs) L q _ _ hLp)
    by_cases hp0 : 0 ≤ pv
    · obtain ⟨u, rfl⟩ := Int.eq_ofNat_of_zero_le hp0
      by_cases huv : u < vn
      · obtain ⟨vb, vo, iv, rfl, hiv, e0, e1, hzi⟩ := (HV0.out.below hT).at_ huv
        have e0 : wr.cell? ⟨vb, vo + u * 2, none⟩ = some (.bool iv.s) := by rw [Nat.mul_comm]; exact e0
        have e1 : wr.cell? ⟨vb, vo + u * 2 + 1, none⟩ = some (.slice iv.B iv.m iv.d) := by rw [Nat.mul_comm, Nat.add_assoc]; exact e1
        have hltv := World.block_lt_of_cell? wr _ e0
        have HC := hide (show K + val (nums ivs) (L.take q) + pZ * iv.Z = K + val (nums ivs) (L.take (q + 1)) by rw [HV.out, if_pos hp0, Int.toNat_natCast, nums_getD ivs u iv hiv]; omega)
        generalize hY : K + val (nums ivs) (L.take q) = Y at *
        have HB5 := hide (b5.next y1)
        have HZ5 := hide (zz5.below y1)
        have hzm := hide (hz.below y1)
        have hzi1 := hide (hzi.below y1)
        have E0 := hide ((y1.cell (p := ⟨vb, vo + u * 2, none⟩) hltv).trans e0)
        have E1 := hide ((y1.cell (p := ⟨vb, vo + u * 2 + 1, none⟩) hltv).trans e1)
        have hlt6 := Nat.lt_of_lt_of_le hltv y1.size
        clear hY hz hzi zz5 hLp HR b5 hB hT hPw hiv HV e0 e1
        go_wp2_with fail
        generalize hW6 : (wr.alloc (.cells #[.int .i64 (u : Int), .bool ps, .slice pB pm pd] 60)) = W6 at *
        clear hW6
        have HM := hide (fun W (h : Below W6.heap.size W6 W) => mul_z (.agg #[.bool ps, .slice pB pm pd]) (.agg #[.bool iv.s, .slice iv.B iv.m iv.d]) pZ iv.Z k kj W (hzm.out.below h) (hzi1.out.below h) (by omega) (by omega))
        have SOF := hide (show ∀ W, Below W6.heap.size W6 W → (W.cell? ⟨w1.heap.size, 0, none⟩ = some (.bool s5) ∧ W.cell? ⟨w1.heap.size, 1, none⟩ = some (.slice A5 n5 c5) ∧ W.cell? ⟨wr.heap.size, 0, none⟩ = some (.int .i64 (u : Int)) ∧ W.cell? ⟨wr.heap.size, 1, none⟩ = some (.bool ps) ∧ W.cell? ⟨wr.heap.size, 2, none⟩ = some (.slice pB pm pd) ∧ W.cell? ⟨vb, vo + u * 2, none⟩ = some (.bool iv.s) ∧ W.cell? ⟨vb, vo + u * 2 + 1, none⟩ = some (.slice iv.B iv.m iv.d)) from fun W h => ⟨(HB5.out.next h).c0, (HB5.out.next h).c1, (y0.next h).c0, (y0.next h).c1, (y0.next h).c2, (h.cell (p := ⟨vb, vo + u * 2, none⟩) hlt6).trans E0.out, (h.cell (p := ⟨vb, vo + u * 2 + 1, none⟩) hlt6).trans E1.out⟩)
        clear y0 c0 c1x c2 y1
        refine wp_drawnL (by kernel_rfl) (by kernel_rfl) (by kernel_rfl) (by kernel_rfl) (fun w w' => Below w.heap.size w w') (fun j v w => match j with | 0 => v = .agg #[.bool s5, .slice A5 n5 c5] | 1 => v = .pointer (some ⟨wr.heap.size, 1, none⟩) | 2 => v = .agg #[.bool ps, .slice pB pm pd] | 3 => v = .slice (some ⟨vb, vo, none⟩) vn vc | 4 => v = .pointer (some ⟨wr.heap.size, 0, none⟩) | 5 => v = .int .i64 (u : Int) | 6 => v = .pointer (some ⟨vb, vo + u * 2, none⟩) | 7 => v = .agg #[.bool iv.s, .slice iv.B iv.m iv.d] | 8 => ZRes w v (pZ * iv.Z) (k + kj) | 9 => ZRes w v (Y + pZ * iv.Z) (k + kj + q + 1) | _ => True) (fun _ _ w => Below W6.heap.size W6 w) ?_ (fun _ => bl_drewN W6 1) ?_ ?_
        · intro j v w w' hT h
          match j, h with
          | 0, h => exact h
          | 1, h => exact h
          | 2, h => exact h
          | 3, h => exact h
          | 4, h => exact h
          | 5, h => exact h
          | 6, h => exact h
          | 7, h => exact h
          | 8, h => exact h.below hT
          | 9, h => exact h.below hT
          | j + 10, h => trivial
        · refine ⟨?_, ?_, ?_, ?_, ?_, ?_, ?_, ?_, ?_, ?_, trivial⟩
          · intro listed σ w a hin hout hl hla hs hc hp hG hF
            refine Guarded.none rfl ?_
            have e5 : a.tmps.getD 5 undef = .pointer (some ⟨w1.heap.size, 0, none⟩) := hout 5 (outB_spec (by kernel_rfl))
            have CC := SOF.out w hG; obtain ⟨C0, C1, D0, D1, D2, E0, E1⟩ := CC
            refine Does.val (.agg #[.bool s5, .slice A5 n5 c5]) (w' := w) ?_ ⟨Below.refl _ _, rfl, hG⟩
            go_simp
          · intro listed σ w a hin hout hl hla hs hc hp hG hF
            refine Guarded.none rfl ?_
            have e7 : a.tmps.getD 7 undef = .pointer (some ⟨wr.heap.size, 0, none⟩) := hout 7 (outB_spec (by kernel_rfl))
            refine Does.val (.pointer (some ⟨wr.heap.size, 1, none⟩)) (w' := w) ?_ ⟨Below.refl _ _, rfl, hG⟩
            simp only [Array.getD_eq_getD_getElem?] at e7
            go_simp
          · intro listed σ w a hin hout hl hla hs hc hp hG hF
            refine Guarded.none rfl ?_
            have e29 : a.tmps.getD 29 undef = .pointer (some ⟨wr.heap.size, 1, none⟩) := (hin 1 29 rfl (hp ⟨1, .data⟩ (by simp) rfl)).trans (hF 1 (hp ⟨1, .data⟩ (by simp) rfl))
            have CC := SOF.out w hG; obtain ⟨C0, C1, D0, D1, D2, E0, E1⟩ := CC
            refine Does.val (.agg #[.bool ps, .slice pB pm pd]) (w' := w) ?_ ⟨Below.refl _ _, rfl, hG⟩
            go_simp
          · intro listed σ w a hin hout hl hla hs hc hp hG hF
            refine Guarded.none rfl ?_
            have e1 : a.tmps.getD 1 undef = .slice (some ⟨vb, vo, none⟩) vn vc := hout 1 (outB_spec (by kernel_rfl))
            refine Does.val (.slice (some ⟨vb, vo, none⟩) vn vc) (w' := w) ?_ ⟨Below.refl _ _, rfl, hG⟩
            simp only [Array.getD_eq_getD_getElem?] at e1
            go_simp
          · intro listed σ w a hin hout hl hla hs hc hp hG hF
            refine Guarded.none rfl ?_
            have e7 : a.tmps.getD 7 undef = .pointer (some ⟨wr.heap.size, 0, none⟩) := hout 7 (outB_spec (by kernel_rfl))
            refine Does.val (.pointer (some ⟨wr.heap.size, 0, none⟩)) (w' := w) ?_ ⟨Below.refl _ _, rfl, hG⟩
            simp only [Array.getD_eq_getD_getElem?] at e7
            go_simp
          · intro listed σ w a hin hout hl hla hs hc hp hG hF
            refine Guarded.none rfl ?_
            have e32 : a.tmps.getD 32 undef = .pointer (some ⟨wr.heap.size, 0, none⟩) := (hin 4 32 rfl (hp ⟨4, .data⟩ (by simp) rfl)).trans (hF 4 (hp ⟨4, .data⟩ (by simp) rfl))
            have CC := SOF.out w hG; obtain ⟨C0, C1, D0, D1, D2, E0, E1⟩ := CC
            refine Does.val (.int .i64 (u : Int)) (w' := w) ?_ ⟨Below.refl _ _, rfl, hG⟩
            go_simp
          · intro listed σ w a hin hout hl hla hs hc hp hG hF
            refine Guarded.none rfl ?_
            have e31 : a.tmps.getD 31 undef = .slice (some ⟨vb, vo, none⟩) vn vc := (hin 3 31 rfl (hp ⟨3, .data⟩ (by simp) rfl)).trans (hF 3 (hp ⟨3, .data⟩ (by simp) rfl))
            have e33 : a.tmps.getD 33 undef = .int .i64 (u : Int) := (hin 5 33 rfl (hp ⟨5, .data⟩ (by simp) rfl)).trans (hF 5 (hp ⟨5, .data⟩ (by simp) rfl))
            refine Does.val (.pointer (some ⟨vb, vo + u * 2, none⟩)) (w' := w) ?_ ⟨Below.refl _ _, rfl, hG⟩
            simp only [Array.getD_eq_getD_getElem?] at e31 e33
            go_simp
            (try (intro hh; exfalso; omega))
          · intro listed σ w a hin hout hl hla hs hc hp hG hF
            refine Guarded.none rfl ?_
            have e34 : a.tmps.getD 34 undef = .pointer (some ⟨vb, vo + u * 2, none⟩) := (hin 6 34 rfl (hp ⟨6, .data⟩ (by simp) rfl)).trans (hF 6 (hp ⟨6, .data⟩ (by simp) rfl))
            have CC := SOF.out w hG; obtain ⟨C0, C1, D0, D1, D2, E0, E1⟩ := CC
            refine Does.val (.agg #[.bool iv.s, .slice iv.B iv.m iv.d]) (w' := w) ?_ ⟨Below.refl _ _, rfl, hG⟩
            go_simp
          · intro listed σ w a hin hout hl hla hs hc hp hG hF
            refine Guarded.none rfl ?_
            have e30 : a.tmps.getD 30 undef = .agg #[.bool ps, .slice pB pm pd] := (hin 2 30 rfl (hp ⟨2, .data⟩ (by simp) rfl)).trans (hF 2 (hp ⟨2, .data⟩ (by simp) rfl))
            have e35 : a.tmps.getD 35 undef = .agg #[.bool iv.s, .slice iv.B iv.m iv.d] := (hin 7 35 rfl (hp ⟨7, .data⟩ (by simp) rfl)).trans (hF 7 (hp ⟨7, .data⟩ (by simp) rfl))
            refine Does.call ?_ (HM.out w hG) ?_
            · go_simp
            · rintro e w' ⟨v, rfl, z, hb⟩
              exact ⟨_, rfl, hb, z, hG.next hb⟩
          · intro listed σ w a hin hout hl hla hs hc hp hG hF
            refine Guarded.none rfl ?_
            have e28 : a.tmps.getD 28 undef = .agg #[.bool s5, .slice A5 n5 c5] := (hin 0 28 rfl (hp ⟨0, .data⟩ (by simp) rfl)).trans (hF 0 (hp ⟨0, .data⟩ (by simp) rfl))
            have e36 := hin 8 36 rfl (hp ⟨8, .data⟩ (by simp) rfl)
            have z8 := hF 8 (hp ⟨8, .data⟩ (by simp) rfl)
            refine Does.call ?_ (add_z _ _ Y (pZ * iv.Z) (k + kj + q) w (HZ5.out.in_.below hG) (z8.in_.mono (by omega)) (by omega)) ?_
            · go_simp
            · rintro e w' ⟨v, rfl, z, hb⟩
              exact ⟨_, rfl, hb, z, hG.next hb⟩
        · intro o ho
          injection ho with ho; subst ho
          intro listed σ w a hall hin hout hG hF
          refine Guarded.none rfl ?_
          have e5 : a.tmps.getD 5 undef = .pointer (some ⟨w1.heap.size, 0, none⟩) := hout 5 (outL (by kernel_rfl))
          have e37 := hin 9 37 rfl (by decide)
          have z9 := hF 9 (by decide)
          have z9 := hF 9 (by decide)
          obtain ⟨s8, A8, n8, c8, ev8⟩ := ZRes.form z9
          rw [ev8] at e37 z9
          have HX := hide (HB5.out.next hG)
          refine Does.store_box (T := 26) (cells := #[.bool s8, .slice A8 n8 c8]) rfl e5 e37 (Blk.box HX.out) (by kernel_rfl) rfl (by simp [Value.oneCell']) (fun w2 x9 o9 => ?_)
          rw [show fin _ σ undef _ = (Act.put (Act.put (Act.put (Act.put (Act.put (Act.put (Act.put (Act.put (Act.put (Act.put (Act.put _ (some 28) (σ 0)) (some 29) (σ 1)) (some 30) (σ 2)) (some 31) (σ 3)) (some 32) (σ 4)) (some 33) (σ 5)) (some 34) (σ 6)) (some 35) (σ 7)) (some 36) (σ 8)) (some 37) (σ 9)) none undef) from (fin_all hall).trans rfl]
          simp only [Act.put, List.setIfInBounds_toArray, List.set_cons_zero, List.set_cons_succ]
          have HE := hide (show ValRel w1.heap.size W1 L K (nums ivs) (k + kj) (q + 1) w2 from ⟨s8, A8, n8, c8, x9, by rw [← HC.out]; exact (z9.only HX.out o9).mono (by omega), (HB1.out.trans (hG.mono (Nat.le_trans hBW HB1.out.size))).trans (o9.below (Nat.le_trans hBW (Nat.le_trans HB1.out.size hG.size)) (Nat.le_refl _))⟩)
          generalize σ 0 = tt0 at *; generalize σ 1 = tt1 at *; generalize σ 2 = tt2 at *; generalize σ 3 = tt3 at *; generalize σ 4 = tt4 at *; generalize σ 5 = tt5 at *; generalize σ 6 = tt6 at *; generalize σ 7 = tt7 at *; generalize σ 8 = tt8 at *; generalize σ 9 = tt9 at *
          clear hF hG hall hin hout SOF HM z9 x9 o9 e5 e37 ev8
          go_wp2_with fail
          go_roundw
          case rel => exact ⟨q + 1, by omega, by go_num, HE⟩
          case measure => simp [intOf] <;> omega
      · have HE := hide (show ValRel w1.heap.size W1 L K (nums ivs) (k + kj) (q + 1) _ from ⟨s5, A5, n5, c5, b5.next y1, by rw [HV.out, if_pos hp0, Int.toNat_natCast, nums_out ivs u (by have := HVL.out; omega), Int.mul_zero, Int.add_zero]; exact (zz5.mono (by omega)).below y1, HB1.out⟩)
        clear hz zz5 hLp HR b5 hB hT hPw HV y0 y1
        go_wp2_with fail
        go_roundw
        case rel => exact ⟨q + 1, by omega, by go_num, HE⟩
        case measure => simp [intOf] <;> omega
    · have HE := hide (show ValRel w1.heap.size W1 L K (nums ivs) (k + kj) (q + 1) _ from ⟨s5, A5, n5, c5, b5.next y1, by rw [HV.out, if_neg hp0, Int.add_zero]; exact (zz5.mono (by omega)).below y1, HB1.out⟩)
      clear hz zz5 hLp HR b5 hB hT hPw HV y0 y1
      go_wp2_with fail
      go_roundw
      case rel => exact ⟨q + 1, by omega, by go_num, HE⟩
      case measure => simp [intOf] <;> omega
  · obtain rfl : q = n := by omega
    have HL := hide (show val (nums ivs) (L.take q) = val (nums ivs) L by rw [List.take_of_length_le (by rw [HN.out]; exact Nat.le_refl _)])
    have b50 := b5.c0
    have b51 := b5.c1
    have k1 : Blk wr (w0.heap.size + 1) #[.bool false, .slice none 0 0] := Box.below (Box.next HR1.out HY1.out) hB (by omega)
    have HZ5 := hide zz5
    have HT := hide hT
    clear zz5 b5 HR hT
    go_wp2_with (with_reducible refine wpList_store_z rfl _ _ rfl (w0.heap.size + 1) _ _ _ _ rfl rfl _ _ k1 ?_; intro w3 k3 ho3)
    refine bodyPost_z rfl rfl k3 rfl ?_
    refine ⟨_, rfl, ?_, zback HT.out (by omega) ho3⟩
    rw [HN.out, ← HL.out]
    exact HZ5.out.only k1 ho3
end Go.Proofs.YtdeakieenppmiaaGreatDoor
/- rel: Least, Zero, kind, Vars, Holds. -/
namespace Go.Proofs.YtdeakieenppmiaaGreatDoor
open Go.RowKit
open Tm

theorem rleast_any (v : Value) (L : List (Int × Int)) (K : Int) (k : Nat) (w0 : World) (hv : TIn w0 v L K k) (hl : L.length ≤ 1099511) (hk : k ≤ 1099511627) : Calls Tryz.prog 21 #[v] w0 (RPost (norm L) K false (k + L.length) w0) := by
 have hv0 := hv
 obtain ⟨A, n, c, s, B, m, d, rfl, -⟩ := hv
 obtain ⟨z0, z1, z2, -⟩ := bstart2 28 30 w0 #[.slice A n c, .bool s, .slice B m d] #[.slice none 0 0, .bool false, .slice none 0 0, .bool false]
 have hpl := tplain_any _ L K k _ (hv0.below z2) hl hk
 have x0 := z0.c0
 have x1 := z0.c1
 have x2 := z0.c2
 go_enter Tryz.func21, Tryz.ntmps21
 go_wp2_with fail
 refine hpl.mono ?_
 rintro e w1 ⟨v1, rfl, r1, b1⟩
 obtain ⟨A1, n1, c1, s1, B1, m1, d1, rfl⟩ := r1.form
 have k1 := z1.next b1
 go_wp2_with (with_reducible refine wpList_store_r rfl _ _ rfl (w0.heap.size + 1) _ _ _ _ _ _ _ _ rfl rfl _ _ _ _ k1 ?_; intro w3 k3 ho3)
 refine bodyPost_r rfl rfl k3 rfl ?_
 exact ⟨_, rfl, ⟨_, _, _, _, _, _, _, rfl, r1.onlyR k1 ho3⟩, zback (z2.next b1) (by omega) ho3⟩
theorem rzero_any (v : Value) (L : List (Int × Int)) (K : Int) (k : Nat) (w0 : World) (hv : TIn w0 v L K k) (hl : L.length ≤ 1099511) (hk : k ≤ 1099511627) : Calls Tryz.prog 20 #[v] w0 (RPost (norm L) K true (k + L.length) w0) := by
 have hv0 := hv
 obtain ⟨A, n, c, s, B, m, d, rfl, -⟩ := hv
 obtain ⟨z0, z1, z2, -⟩ := bstart2 28 30 w0 #[.slice A n c, .bool s, .slice B m d] #[.slice none 0 0, .bool false, .slice none 0 0, .bool false]
 have hpl := tplain_any _ L K k _ (hv0.below z2) hl hk
 have x0 := z0.c0
 have x1 := z0.c1
 have x2 := z0.c2
 go_enter Tryz.func20, Tryz.ntmps20
 go_wp2_with fail
 refine hpl.mono ?_
 rintro e w1 ⟨v1, rfl, r1, b1⟩
 obtain ⟨A1, n1, c1, s1, B1, m1, d1, rfl⟩ := r1.form
 have k1 := z1.next b1
 go_wp2_with (with_reducible refine wpList_store_r rfl _ _ rfl (w0.heap.size + 1) _ _ _ _ _ _ _ _ rfl rfl _ _ _ _ k1 ?_; intro w3 k3 ho3)
 refine bodyPost_r rfl rfl k3 rfl ?_
 exact ⟨_, rfl, ⟨_, _, _, _, _, _, _, rfl, r1.onlyR k1 ho3⟩, zback (z2.next b1) (by omega) ho3⟩
/-- 1 for an equation, else 0. -/
def kindZ (e : Bool) : Int := if e then 1 else 0
theorem rkind_any (v : Value) (L : List (Int × Int)) (K : Int) (e : Bool) (k : Nat) (w0 : World) (hv : RIn w0 v L K e k) : Calls Tryz.prog 55 #[v] w0 (fun en w' => en = .returned (.int .i64 (kindZ e)) ∧ Below w0.heap.size w0 w') := by
 obtain ⟨A, n, c, s, B, m, d, rfl, -⟩ := hv
 obtain ⟨z0, z1, -⟩ := bstart1 30 w0 #[.slice A n c, .bool s, .slice B m d, .bool e]
 have x3 := z0.r3
 cases e with
 | false =>
  go_enter Tryz.func55, Tryz.ntmps55
  go_wp2_with fail
  go_ret
  exact ⟨rfl, z1⟩
 | true =>
  go_enter Tryz.func55, Tryz.ntmps55
  go_wp2_with fail
  go_ret
  exact ⟨rfl, z1⟩
theorem relVars_any (v : Value) (L : List (Int × Int)) (K : Int) (e : Bool) (k : Nat) (w0 : World) (hv : RIn w0 v L K e k) (hl : L.length ≤ 1099511) (hk : k ≤ 1099511627) : Calls Tryz.prog 32 #[v] w0 (IPost (vars L) w0) := by
 obtain ⟨A, n, c, s, B, m, d, rfl, ht⟩ := hv
 obtain ⟨z0, z1, -⟩ := bstart1 30 w0 #[.slice A n c, .bool s, .slice B m d, .bool e]
 have x0 := z0.r0
 have x1 := z0.r1
 have x2 := z0.r2
 have hva := tvars_any _ L K k _ (ht.below z1) hl hk
 go_enter Tryz.func32, Tryz.ntmps32
 go_wp2_with fail
 refine hva.mono ?_
 rintro en w1 ⟨A1, c1, rfl, i1, h1, h2, b1⟩
 go_wp2_with fail
 go_ret
 exact ⟨A1, c1, rfl, i1, h1, h2, z1.next b1⟩
/-- Does a relation hold at a value of its term? -/
def holdsZ (e : Bool) (Z : Int) : Bool := if e then decide (Z = 0) else decide (0 ≤ Z)
theorem relHolds_any (v : Value) (L : List (Int × Int)) (K : Int) (e : Bool) (k kj : Nat) (VA : Option Addr) (vn vc : Nat) (ivs : List IV) (w0 : World) (hv : RIn w0 v L K e k) (hvs : ValsIn w0 VA vn ivs kj) (hvn : vn ≤ 9223372036854775807) (hl : L.length ≤ 1099511) (hk : k ≤ 1099511627) (hkj : kj ≤ 1099511627) :
   Calls Tryz.prog 23 #[v, .slice VA vn vc] w0 (fun en w' => en = .returned (.bool (holdsZ e (K + val (nums ivs) L))) ∧ Below w0.heap.size w0 w') := by
 obtain ⟨A, n, c, s, B, m, d, rfl, ht⟩ := hv
 obtain ⟨z0, z1, -⟩ := bstart1 30 w0 #[.slice A n c, .bool s, .slice B m d, .bool e]
 have x0 := z0.r0
 have x1 := z0.r1
 have x2 := z0.r2
 have hva := tvalue_any _ L K k kj VA vn vc ivs _ (ht.below z1) (hvs.below z1) hvn hl hk hkj
 generalize hZ : K + val (nums ivs) L = Z at hva ⊢
 clear hZ
 go_enter Tryz.func23, Tryz.ntmps23
 go_wp2_with fail
 refine hva.mono ?_
 rintro en w1 ⟨v1, rfl, r1, b1⟩
 have hsg := sign_z v1 Z _ w1 r1.in_ (by omega)
 have Q1 := hide (z0.next b1)
 have T1 := hide (z1.next b1)
 clear hva x0 x1 x2 z0 z1 r1 b1
 go_wp2_with fail
 refine hsg.mono ?_
 rintro en w2 ⟨rfl, b2⟩
 have x3 := (Q1.out.next b2).r3
 have T2 := T1.out.next b2
 clear hsg
 rcases Int.lt_trichotomy Z 0 with h | h | h
 · have h1 : Z.sign = -1 := Int.sign_eq_neg_one_of_neg h
   rw [h1]
   have e1 : holdsZ e Z = false := by
    unfold holdsZ
    have a1 : ¬ Z = 0 := by omega
    have a2 : ¬ 0 ≤ Z := by omega
    cases e <;> simp [a1, a2]
   have HE := hide e1
   clear h h1 e1
   go_wp2_with fail
   go_ret
   exact ⟨by rw [HE.out] <;> rfl, T2⟩
 · subst h
   have e1 : holdsZ e 0 = true := by unfold holdsZ; cases e <;> simp
   have HE := hide e1
   rw [Int.sign_zero]
   clear e1
   go_wp2_with fail
   go_ret
   exact ⟨by rw [HE.out] <;> rfl, T2⟩
 · have h1 : Z.sign = 1 := Int.sign_eq_one_of_pos h
   rw [h1]
   have e1 : holdsZ e Z = !e := by
    unfold holdsZ
    have a1 : ¬ Z = 0 := by omega
    have a2 : 0 ≤ Z := by omega
    cases e <;> simp [a1, a2]
   have HE := hide e1
   clear h h1 e1
   go_wp2_with fail
   all_goals
    go_ret
    exact ⟨by rw [HE.out] <;> rfl, T2⟩
end Go.Proofs.YtdeakieenppmiaaGreatDoor
/- Linear terms on plain numbers: the content, what Shrink makes of it, first places, substitution. -/
namespace Go.Proofs.YtdeakieenppmiaaGreatDoor.Tm

/-- The greatest common divisor of a number and all coefficients. -/
def gcdL : Nat → List (Int × Int) → Nat
 | g, [] => g
 | g, p :: ps => gcdL (Nat.gcd g p.2.natAbs) ps
theorem gcdL_append (g : Nat) (ps qs : List (Int × Int)) : gcdL g (ps ++ qs) = gcdL (gcdL g ps) qs := by
 induction ps generalizing g with
 | nil => rfl
 | cons p ps ih => rw [List.cons_append, gcdL, gcdL, ih]
theorem gcdL_take_succ (g : Nat) (L : List (Int × Int)) (q : Nat) (u c : Int) (h : L[q]? = some (u, c)) : gcdL g (L.take (q + 1)) = Nat.gcd (gcdL g (L.take q)) c.natAbs := by
 rw [List.take_add_one, h, gcdL_append]; rfl
def content (L : List (Int × Int)) : Int := (gcdL 0 (norm L) : Nat)
theorem gcdL_dvd (ps : List (Int × Int)) : ∀ g : Nat, gcdL g ps ∣ g ∧ ∀ p ∈ ps, gcdL g ps ∣ p.2.natAbs := by
 induction ps with
 | nil => intro g; exact ⟨Nat.dvd_refl _, fun p hp => by cases hp⟩
 | cons p ps ih =>
  intro g
  obtain ⟨h1, h2⟩ := ih (Nat.gcd g p.2.natAbs)
  refine ⟨Nat.dvd_trans h1 (Nat.gcd_dvd_left _ _), fun x hx => ?_⟩
  rcases List.mem_cons.1 hx with rfl | hx
  · exact Nat.dvd_trans h1 (Nat.gcd_dvd_right _ _)
  · exact h2 x hx
theorem content_zero {L : List (Int × Int)} : content L = 0 ↔ norm L = [] := by
 constructor
 · intro h
   have hp := norm_plain L
   unfold content at h
   cases hn : norm L with
   | nil => rfl
   | cons p ps =>
    exfalso
    obtain ⟨u, c⟩ := p
    rw [hn] at h hp
    have h1 := (gcdL_dvd ((u, c) :: ps) 0).2 (u, c) (by simp)
    have h0 : gcdL 0 ((u, c) :: ps) = 0 := by omega
    rw [h0] at h1
    have h2 := Nat.eq_zero_of_zero_dvd h1
    exact hp.2.1 (Int.natAbs_eq_zero.1 h2)
 · intro h
   unfold content
   rw [h]; rfl
/-- All coefficients divided. -/
def quot (g : Int) (ps : List (Int × Int)) : List (Int × Int) := ps.map fun p => (p.1, p.2.fdiv g)
theorem quot_back {g : Int} (hg : g ≠ 0) (ps : List (Int × Int)) (h : ∀ p ∈ ps, g ∣ p.2) : (quot g ps).map (fun p => (p.1, g * p.2)) = ps := by
 unfold quot
 rw [List.map_map]
 conv => rhs; rw [← List.map_id ps]
 apply List.map_congr_left
 intro p hp
 obtain ⟨t, ht⟩ := h p hp
 obtain ⟨u, c⟩ := p
 dsimp only at ht
 simp only [Function.comp, id]
 rw [ht, Int.mul_fdiv_cancel_left _ hg]
theorem rising_unscale {n : Int} {b : Int} {ps : List (Int × Int)} (h : Rising b (ps.map fun p => (p.1, n * p.2))) : Rising b ps := by
 induction ps generalizing b with
 | nil => trivial
 | cons p ps ih =>
  obtain ⟨u, c⟩ := p
  obtain ⟨h1, h2, h3⟩ := h
  exact ⟨h1, fun hc => h2 (by dsimp only at *; rw [hc, Int.mul_zero]), ih h3⟩
theorem content_dvd (L : List (Int × Int)) : ∀ p ∈ norm L, content L ∣ p.2 := fun p hp => by
 have h := (gcdL_dvd (norm L) 0).2 p hp
 exact Int.ofNat_dvd_left.2 h
theorem quot_plain (L : List (Int × Int)) (h : content L ≠ 0) : norm (quot (content L) (norm L)) = quot (content L) (norm L) :=
 norm_id (rising_unscale (n := content L) (by rw [quot_back h _ (content_dvd L)]; exact norm_plain L))
/-- The place at which v occurs first. -/
def firstAt (v : Int) : List Int → Option Nat
  | [] => none
  | x :: xs => if x = v then some 0 else (firstAt v xs).map (· + 1)
theorem firstAt_snoc (x v : Int) (us : List Int) : firstAt x (us ++ [v]) = match firstAt x us with | some i => some i | none => if v = x then some us.length else none := by
 induction us with
 | nil => simp [firstAt]
 | cons u us ih =>
  rw [List.cons_append, firstAt, firstAt, ih]
  by_cases h : u = x
  · simp [h]
  · simp only [if_neg h]
    cases firstAt x us with
    | some i => rfl
    | none =>
     by_cases h2 : v = x
     · simp [h2]
     · simp [h2]
theorem firstAt_lt (v : Int) (us : List Int) (i : Nat) (h : firstAt v us = some i) : i < us.length := by
 induction us generalizing i with
 | nil => simp [firstAt] at h
 | cons u us ih =>
  unfold firstAt at h
  split at h
  · injection h with h; subst h; simp
  · cases hx : firstAt v us with
    | none => rw [hx] at h; simp at h
    | some k =>
     rw [hx] at h
     simp at h
     have := ih k hx
     simp; omega
/-- What stands in variable v's place. -/
def place (vs : List Int) (ts : List (List (Int × Int) × Int)) (v : Int) : List (Int × Int) × Int :=
 match firstAt v vs with
 | some i => ts.getD i ([(v, 1)], 0)
 | none => ([(v, 1)], 0)
def putL (vs : List Int) (ts : List (List (Int × Int) × Int)) : List (Int × Int) → List (Int × Int)
 | [] => []
 | p :: ps => ((place vs ts p.1).1.map fun r => (r.1, p.2 * r.2)) ++ putL vs ts ps
def putK (vs : List Int) (ts : List (List (Int × Int) × Int)) : List (Int × Int) → Int
 | [] => 0
 | p :: ps => p.2 * (place vs ts p.1).2 + putK vs ts ps
theorem putL_append (vs : List Int) (ts : List (List (Int × Int) × Int)) (ps qs : List (Int × Int)) : putL vs ts (ps ++ qs) = putL vs ts ps ++ putL vs ts qs := by
 induction ps with
 | nil => rfl
 | cons p ps ih => rw [List.cons_append, putL, putL, ih, List.append_assoc]
theorem putK_append (vs : List Int) (ts : List (List (Int × Int) × Int)) (ps qs : List (Int × Int)) : putK vs ts (ps ++ qs) = putK vs ts ps + putK vs ts qs := by
 induction ps with
 | nil => simp [putK]
 | cons p ps ih => rw [List.cons_append, putK, putK, ih, Int.add_assoc]
end Go.Proofs.YtdeakieenppmiaaGreatDoor.Tm
/- Division rounded down, by the quotient and the rest of the sizes; rounded up; Hat; what the reference reckons. -/
namespace Go.Proofs.YtdeakieenppmiaaGreatDoor
open Go.RowKit

theorem fdiv_of {Z Y q r : Int} (h : r + Y * q = Z) (hr : (0 ≤ r ∧ r < Y) ∨ (Y < r ∧ r ≤ 0)) : Z.fdiv Y = q ∧ Z.fmod Y = r := by
 rcases hr with ⟨h1, h2⟩ | ⟨h1, h2⟩
 · exact (Int.fdiv_fmod_unique (by omega)).2 ⟨h, h1, h2⟩
 · exact (Int.fdiv_fmod_unique' (by omega)).2 ⟨h, h1, h2⟩
theorem fdiv_back (Z Y : Int) (hY : Y ≠ 0) : Z.fmod Y + Y * Z.fdiv Y = Z ∧ ((0 ≤ Z.fmod Y ∧ Z.fmod Y < Y) ∨ (Y < Z.fmod Y ∧ Z.fmod Y ≤ 0)) := by
 rcases Int.lt_trichotomy Y 0 with hn | h0 | hp
 · have h := (Int.fdiv_fmod_unique' hn (a := Z)).1 ⟨rfl, rfl⟩
   exact ⟨h.1, Or.inr h.2⟩
 · exact absurd h0 hY
 · have h := (Int.fdiv_fmod_unique hp (a := Z)).1 ⟨rfl, rfl⟩
   exact ⟨h.1, Or.inl h.2⟩

/-- Rounded down, out of the sizes' quotient and rest: the same signs, or nothing left over. -/
theorem divz_same (s : Bool) (N M : Nat) (hM : 0 < M) : (sg s N).fdiv (sg s M) = sg false (N / M) ∧ (sg s N).fmod (sg s M) = sg s (N % M) := by
 have h1 := Nat.div_add_mod N M
 have h2 := Nat.mod_lt N hM
 have h3 : (M : Int) * ((N / M : Nat) : Int) + ((N % M : Nat) : Int) = (N : Int) := by rw [← Int.natCast_mul, ← Int.natCast_add, h1]
 generalize N / M = Q at *
 generalize N % M = R at *
 refine fdiv_of ?_ ?_ <;> cases s <;> simp only [sg, if_true, if_false, Bool.false_eq_true, Int.neg_mul] <;> generalize (M : Int) * (Q : Int) = P at * <;> omega
theorem divz_even (s t : Bool) (N M : Nat) (hst : s ≠ t) (hM : 0 < M) (h0 : N % M = 0) : (sg s N).fdiv (sg t M) = sg true (N / M) ∧ (sg s N).fmod (sg t M) = 0 := by
 have h1 := Nat.div_add_mod N M
 have h3 : (M : Int) * ((N / M : Nat) : Int) + ((N % M : Nat) : Int) = (N : Int) := by rw [← Int.natCast_mul, ← Int.natCast_add, h1]
 rw [h0] at h3
 generalize N / M = Q at *
 refine fdiv_of ?_ ?_ <;> cases s <;> cases t <;> simp only [sg, if_true, if_false, Bool.false_eq_true, Int.neg_mul, Int.mul_neg, Int.neg_neg, ne_eq, not_true_eq_false] at * <;> generalize (M : Int) * (Q : Int) = P at * <;> omega
theorem divz_odd (s t : Bool) (N M : Nat) (hst : s ≠ t) (hM : 0 < M) (h0 : 0 < N % M) : (sg s N).fdiv (sg t M) = sg true (N / M) - 1 ∧ (sg s N).fmod (sg t M) = sg s (N % M) + sg t M := by
 have h1 := Nat.div_add_mod N M
 have h2 := Nat.mod_lt N hM
 have h3 : (M : Int) * ((N / M : Nat) : Int) + ((N % M : Nat) : Int) = (N : Int) := by rw [← Int.natCast_mul, ← Int.natCast_add, h1]
 generalize N / M = Q at *
 generalize N % M = R at *
 refine fdiv_of ?_ ?_ <;> cases s <;> cases t <;> simp only [sg, if_true, if_false, Bool.false_eq_true, Int.neg_mul, Int.mul_neg, Int.neg_neg, Int.mul_sub, Int.mul_one, Int.sub_neg, ne_eq, not_true_eq_false, reduceCtorEq, not_false_eq_true] at * <;> generalize (M : Int) * (Q : Int) = P at * <;> omega

/-- The reference's way: the quotient of the sizes with the sign, what is left over, and one step down where the rest has the other sign. -/
theorem divz_ref (Z Y : Int) (hY : Y ≠ 0) (q0 : Int) (hq : q0 = sg (decide (Z.sign * Y.sign < 0)) (Z.natAbs / Y.natAbs)) :
   ((Z - q0 * Y).sign * Y.sign < 0 → Z.fdiv Y = q0 - 1 ∧ Z.fmod Y = Z - q0 * Y + Y) ∧ (¬ ((Z - q0 * Y).sign * Y.sign < 0) → Z.fdiv Y = q0 ∧ Z.fmod Y = Z - q0 * Y) ∧ (Z - q0 * Y).natAbs < Y.natAbs := by
 have hM : 0 < Y.natAbs := by omega
 have h1 := Nat.div_add_mod Z.natAbs Y.natAbs
 have h2 := Nat.mod_lt Z.natAbs hM
 have h3 : (Y.natAbs : Int) * ((Z.natAbs / Y.natAbs : Nat) : Int) + ((Z.natAbs % Y.natAbs : Nat) : Int) = (Z.natAbs : Int) := by rw [← Int.natCast_mul, ← Int.natCast_add, h1]
 subst hq
 generalize Z.natAbs / Y.natAbs = Q at *
 generalize Z.natAbs % Y.natAbs = R at *
 clear h1
 have hd : ∀ q r : Int, r + Y * q = Z → ((0 ≤ r ∧ r < Y) ∨ (Y < r ∧ r ≤ 0)) → Z.fdiv Y = q ∧ Z.fmod Y = r := fun q r h hr => fdiv_of h hr
 rcases Int.lt_trichotomy Y 0 with hy | hy | hy
 · have e : (Y.natAbs : Int) = -Y := by omega
   rw [e, Int.neg_mul] at h3
   rw [Int.sign_eq_neg_one_of_neg hy]
   rcases Int.lt_trichotomy Z 0 with hz | hz | hz
   · rw [Int.sign_eq_neg_one_of_neg hz]
     have e2 : sg (decide ((-1 : Int) * -1 < 0)) Q = (Q : Int) := rfl
     rw [e2, Int.mul_comm (Q : Int) Y]
     have hq1 := hd Q (Z - Y * Q)
     generalize Y * (Q : Int) = P at *
     have hs : ¬ ((Z - P).sign * -1 < 0) := by
       have : (Z - P).sign ≤ 0 := Int.sign_nonpos_iff.2 (by omega)
       omega
     exact ⟨fun h => absurd h hs, fun _ => hq1 (by omega) (by omega), by omega⟩
   · subst hz
     rw [Int.sign_zero]
     have e2 : sg (decide ((0 : Int) * -1 < 0)) Q = (Q : Int) := rfl
     rw [e2, Int.mul_comm (Q : Int) Y]
     have hq1 := hd Q (0 - Y * Q)
     generalize Y * (Q : Int) = P at *
     have hs : ¬ ((0 - P).sign * -1 < 0) := by
       have : (0 - P).sign ≤ 0 := Int.sign_nonpos_iff.2 (by omega)
       omega
     exact ⟨fun h => absurd h hs, fun _ => hq1 (by omega) (by omega), by omega⟩
   · rw [Int.sign_eq_one_of_pos hz]
     have e2 : sg (decide ((1 : Int) * -1 < 0)) Q = -(Q : Int) := rfl
     rw [e2, Int.neg_mul, Int.mul_comm (Q : Int) Y]
     have hq1 := hd (-Q) (Z - -(Y * Q))
     have hq2 := hd (-Q - 1) (Z - -(Y * Q) + Y)
     rw [Int.mul_neg] at hq1
     rw [Int.mul_sub, Int.mul_one, Int.mul_neg] at hq2
     generalize Y * (Q : Int) = P at *
     by_cases hr : Z - -P = 0
     · have hs : ¬ ((Z - -P).sign * -1 < 0) := by rw [hr, Int.sign_zero]; omega
       exact ⟨fun h => absurd h hs, fun _ => hq1 (by omega) (by omega), by omega⟩
     · have hs : (Z - -P).sign * -1 < 0 := by rw [Int.sign_eq_one_of_pos (show 0 < Z - -P by omega)]; omega
       exact ⟨fun _ => hq2 (by omega) (by omega), fun h => absurd hs h, by omega⟩
 · exact absurd hy hY
 · have e : (Y.natAbs : Int) = Y := by omega
   rw [e] at h3
   rw [Int.sign_eq_one_of_pos hy]
   rcases Int.lt_trichotomy Z 0 with hz | hz | hz
   · rw [Int.sign_eq_neg_one_of_neg hz]
     have e2 : sg (decide ((-1 : Int) * 1 < 0)) Q = -(Q : Int) := rfl
     rw [e2, Int.neg_mul, Int.mul_comm (Q : Int) Y]
     have hq1 := hd (-Q) (Z - -(Y * Q))
     have hq2 := hd (-Q - 1) (Z - -(Y * Q) + Y)
     rw [Int.mul_neg] at hq1
     rw [Int.mul_sub, Int.mul_one, Int.mul_neg] at hq2
     generalize Y * (Q : Int) = P at *
     by_cases hr : Z - -P = 0
     · have hs : ¬ ((Z - -P).sign * 1 < 0) := by rw [hr, Int.sign_zero]; omega
       exact ⟨fun h => absurd h hs, fun _ => hq1 (by omega) (by omega), by omega⟩
     · have hs : (Z - -P).sign * 1 < 0 := by rw [Int.sign_eq_neg_one_of_neg (show Z - -P < 0 by omega)]; omega
       exact ⟨fun _ => hq2 (by omega) (by omega), fun h => absurd hs h, by omega⟩
   · subst hz
     rw [Int.sign_zero]
     have e2 : sg (decide ((0 : Int) * 1 < 0)) Q = (Q : Int) := rfl
     rw [e2, Int.mul_comm (Q : Int) Y]
     have hq1 := hd Q (0 - Y * Q)
     generalize Y * (Q : Int) = P at *
     have hs : ¬ ((0 - P).sign * 1 < 0) := by
       have : 0 ≤ (0 - P).sign := Int.sign_nonneg_iff.2 (by omega)
       omega
     exact ⟨fun h => absurd h hs, fun _ => hq1 (by omega) (by omega), by omega⟩
   · rw [Int.sign_eq_one_of_pos hz]
     have e2 : sg (decide ((1 : Int) * 1 < 0)) Q = (Q : Int) := rfl
     rw [e2, Int.mul_comm (Q : Int) Y]
     have hq1 := hd Q (Z - Y * Q)
     generalize Y * (Q : Int) = P at *
     have hs : ¬ ((Z - P).sign * 1 < 0) := by
       have : 0 ≤ (Z - P).sign := Int.sign_nonneg_iff.2 (by omega)
       omega
     exact ⟨fun h => absurd h hs, fun _ => hq1 (by omega) (by omega), by omega⟩

/-- Rounded up. -/
def cdiv (Z Y : Int) : Int := -((-Z).fdiv Y)
/-- What differs by a multiple of Y and is nearest to 0. -/
def hatN (Z Y : Int) : Int := if Y ≤ 2 * Z.fmod Y then Z.fmod Y - Y else Z.fmod Y
theorem fdiv_small (Z Y : Int) (k : Nat) (h : Z.natAbs < 4294967296 ^ k) : (Z.fdiv Y).natAbs < 4294967296 ^ k := Nat.lt_of_le_of_lt (Int.natAbs_fdiv_le_natAbs Z Y) h
theorem fmod_small (Z Y : Int) (k : Nat) (hY : Y ≠ 0) (h : Y.natAbs < 4294967296 ^ k) : (Z.fmod Y).natAbs < 4294967296 ^ k := by
 obtain ⟨-, h2⟩ := fdiv_back Z Y hY
 exact Nat.lt_of_le_of_lt (by omega) h
end Go.Proofs.YtdeakieenppmiaaGreatDoor
