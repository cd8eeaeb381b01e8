/- Texts of one seat, put together: WordLawP. -/
import Derived.Test.YtljocjjdfgpbaaaB35
import Derived.Test.YtljocjjdfgpbaaaB36
set_option linter.unusedVariables false
/- The law WordPlains, walked. -/
namespace Go.Proofs.Ytljocjjdfgpbaaa
open Go.RowKit
open Wo

set_option maxRecDepth 100000 in
set_option maxHeartbeats 32000000 in
theorem wordPlains_walk (kf pf : Int) (Af : Option Addr) (nf cf : Nat) (tf : Wo.LT) (kg pg : Int) (Ag : Option Addr) (ng cg : Nat) (tg : Wo.LT) (dn : Bool) (W : World)
    (hf : DIn Some_ W tf (c3 kf pf Af nf cf)) (hg : DIn Some_ W tg (c3 kg pg Ag ng cg)) :
    Calls Try.prog 6 #[.agg #[.int .i64 kf, .int .i64 pf, .slice Af nf cf], .agg #[.int .i64 kg, .int .i64 pg, .slice Ag ng cg], .bool dn] W (WYes W) := by
  obtain ⟨x3, x4, hb, hbz⟩ := bstart2 24 24 W #[.int .i64 kf, .int .i64 pf, .slice Af nf cf] #[.int .i64 kg, .int .i64 pg, .slice Ag ng cg]
  have HB := hide hb
  have X3 := hide x3
  have X4 := hide x4
  have DF := hide hf
  have DG := hide hg
  have HSP := hide (fun w (h : Below W.heap.size W w) => size_any 60 (by decide) Some_ tf kf pf Af nf cf w (hf.keep (Keep.of_below h)))
  have HSQ := hide (fun w (h : Below W.heap.size W w) => size_any 60 (by decide) Some_ tg kg pg Ag ng cg w (hg.keep (Keep.of_below h)))
  unfold SizePost at HSP HSQ
  obtain ⟨z1, hz1⟩ : ∃ z, z = (norm tf).sizeL 60 := ⟨_, rfl⟩
  obtain ⟨z2, hz2⟩ : ∃ z, z = (norm tg).sizeL 60 := ⟨_, rfl⟩
  have HSP := hide HSP.out
  have HSQ := hide HSQ.out
  rw [show ((60 : Nat) : Int) = 60 from rfl, ← hz1] at HSP
  rw [show ((60 : Nat) : Int) = 60 from rfl, ← hz2] at HSQ
  have HZ1 := hide hz1
  clear hb hbz hf hg x3 x4 hz1 hz2
  have HY := hide (show ∀ w', Below W.heap.size W w' → WYes W (.returned (.bool true)) w' from fun w' h => ⟨rfl, h⟩)
  go_enter Try.func6, Try.ntmps6
  go_wp2_with fail
  refine (lalive_any _).mono ?_
  rintro e w2 ⟨rfl, b2⟩
  have HB2 := hide (HB.out.next b2)
  have X3 := hide (X3.out.next b2)
  have X4 := hide (X4.out.next b2)
  clear b2
  have C0 := X3.out.cell 0 _ rfl
  have C1 := X3.out.cell 1 _ rfl
  have C2 := X3.out.cell 2 _ rfl
  go_wp2_with fail
  refine (HSP.out _ HB2.out).mono ?_
  rintro e w3 ⟨rfl, b3⟩
  have HB3 := hide (HB2.out.next b3)
  have X3 := hide (X3.out.next b3)
  have X4 := hide (X4.out.next b3)
  clear b3 C0 C1 C2
  by_cases hz1 : 60 < z1
  case pos =>
    have gz1 : decide (60 < z1) = true := decide_eq_true hz1
    clear HSQ DF DG
    go_wp2_with fail
    go_ret
    exact HY.out _ HB3.out
  have gz1 : decide (60 < z1) = false := decide_eq_false hz1
  have C3 := X4.out.cell 0 _ rfl
  have C4 := X4.out.cell 1 _ rfl
  have C5 := X4.out.cell 2 _ rfl
  go_wp2_with fail
  refine (HSQ.out _ HB3.out).mono ?_
  rintro e w4 ⟨rfl, b4⟩
  have HB4 := hide (HB3.out.next b4)
  have X3 := hide (X3.out.next b4)
  have X4 := hide (X4.out.next b4)
  clear b4 C3 C4 C5
  by_cases hz2 : 60 < z2
  case pos =>
    have gz2 : decide (60 < z2) = true := decide_eq_true hz2
    clear DF DG
    go_wp2_with fail
    go_ret
    exact HY.out _ HB4.out
  have gz2 : decide (60 < z2) = false := decide_eq_false hz2
  obtain ⟨sz, hsz⟩ : ∃ sz, sz = (norm tf).size := ⟨_, rfl⟩
  have hs1 : (norm tf).sizeL 60 = (norm tf).size := sizeL_eq _ _ (by decide) (.inl (by rw [← HZ1.out]; omega))
  have hs60 : (norm tf).size ≤ 60 := by have := HZ1.out; omega
  have HSZ9 := hide hs60
  have HSZE := hide hsz.symm
  have HSL := hide (show (norm tf).sizeL ((100 : Nat) : Int) = (sz : Int) from by rw [hsz]; exact sizeL_eq _ _ (by decide) (.inr (by show ((norm tf).size : Int) ≤ 100; omega)))
  obtain ⟨sm, hsm⟩ : ∃ sm, sm = eqT (tree (plain (norm tf) false)) (tree (plain (norm tg) false)) := ⟨_, rfl⟩
  have HSM := hide hsm.symm
  clear hsm hsz hs1 hs60 HSP HSQ HZ1
  go_upto_region 5 with fail
  clear gz1 gz2 hz1 hz2
  have SOF := hide (fun w (h : Below w4.heap.size w4 w) => (⟨(X3.out.next h).cell 0 _ rfl, (X3.out.next h).cell 1 _ rfl, (X3.out.next h).cell 2 _ rfl, (X4.out.next h).cell 0 _ rfl, (X4.out.next h).cell 1 _ rfl, (X4.out.next h).cell 2 _ rfl⟩ : _ ∧ _ ∧ _ ∧ _ ∧ _ ∧ _))
  refine wp_drawn (by kernel_rfl) (by kernel_rfl) (by kernel_rfl) (fun w w' => Below w.heap.size w w') (fun j v w => match j with | 0 => v = .agg #[.int .i64 kf, .int .i64 pf, .slice Af nf cf] | 1 => ∃ k p A n c, v = .agg #[.int .i64 k, .int .i64 p, .slice A n c] ∧ DIn Some_ w (tree (plain (norm tf) false)) (c3 k p A n c) | 2 => v = .agg #[.int .i64 kg, .int .i64 pg, .slice Ag ng cg] | 3 => ∃ k p A n c, v = .agg #[.int .i64 k, .int .i64 p, .slice A n c] ∧ DIn Some_ w (tree (plain (norm tg) false)) (c3 k p A n c) | 4 => v = .bool sm | 5 => v = .bool sm | _ => True) (fun _ _ w => Below w4.heap.size w4 w) ?_ (fun _ => bl_drewN w4 1) ?_ ?_
  · intro j v w w' hT h
    match j, h with
    | 0, h => exact h
    | 1, h => exact (by obtain ⟨k, p, A, n, c, e, h1⟩ := h; exact ⟨k, p, A, n, c, e, h1.keep (Keep.of_below hT)⟩)
    | 2, h => exact h
    | 3, h => exact (by obtain ⟨k, p, A, n, c, e, h1⟩ := h; exact ⟨k, p, A, n, c, e, h1.keep (Keep.of_below hT)⟩)
    | 4, h => exact h
    | 5, h => exact h
    | j + 6, h => trivial
  · refine ⟨?_, ?_, ?_, ?_, ?_, ?_, trivial⟩
    · intro listed σ w a hin hout hl hc hp hG hF
      refine Guarded.none rfl ?_
      have e3 : a.tmps.getD 3 undef = .pointer (some ⟨W.heap.size, 0, none⟩) := hout 3 (outB_spec (by kernel_rfl))
      have CC := SOF.out w hG; obtain ⟨C0, C1, C2, C3, C4, C5⟩ := CC
      refine Does.val (.agg #[.int .i64 kf, .int .i64 pf, .slice Af nf cf]) (w' := w) ?_ ⟨Below.refl _ _, rfl, hG⟩
      go_simp
    · intro listed σ w a hin hout hl hc hp hG hF
      refine Guarded.none rfl ?_
      have e18 : a.tmps.getD 18 undef = .agg #[.int .i64 kf, .int .i64 pf, .slice Af nf cf] := (hin 0 18 rfl (hp ⟨0, .data⟩ (by simp) rfl)).trans (hF 0 (hp ⟨0, .data⟩ (by simp) rfl))
      refine Does.call ?_ (rplain_any (meas (norm tf)) Some_ tf kf pf Af nf cf false w (Nat.le_refl _) (DF.out.keep (Keep.of_below (HB4.out.next hG)))) ?_
      · go_simp
      · rintro e w' ⟨k, p, A, n, c, rfl, hd, hb⟩
        exact ⟨_, rfl, hb, ⟨k, p, A, n, c, rfl, hd.sub (fun _ _ _ => trivial)⟩, hG.next hb⟩
    · intro listed σ w a hin hout hl hc hp hG hF
      refine Guarded.none rfl ?_
      have e4 : a.tmps.getD 4 undef = .pointer (some ⟨W.heap.size + 1, 0, none⟩) := hout 4 (outB_spec (by kernel_rfl))
      have CC := SOF.out w hG; obtain ⟨C0, C1, C2, C3, C4, C5⟩ := CC
      refine Does.val (.agg #[.int .i64 kg, .int .i64 pg, .slice Ag ng cg]) (w' := w) ?_ ⟨Below.refl _ _, rfl, hG⟩
      go_simp
    · intro listed σ w a hin hout hl hc hp hG hF
      refine Guarded.none rfl ?_
      have e20 : a.tmps.getD 20 undef = .agg #[.int .i64 kg, .int .i64 pg, .slice Ag ng cg] := (hin 2 20 rfl (hp ⟨2, .data⟩ (by simp) rfl)).trans (hF 2 (hp ⟨2, .data⟩ (by simp) rfl))
      refine Does.call ?_ (rplain_any (meas (norm tg)) Some_ tg kg pg Ag ng cg false w (Nat.le_refl _) (DG.out.keep (Keep.of_below (HB4.out.next hG)))) ?_
      · go_simp
      · rintro e w' ⟨k, p, A, n, c, rfl, hd, hb⟩
        exact ⟨_, rfl, hb, ⟨k, p, A, n, c, rfl, hd.sub (fun _ _ _ => trivial)⟩, hG.next hb⟩
    · intro listed σ w a hin hout hl hc hp hG hF
      refine Guarded.none rfl ?_
      have e19 := hin 1 19 rfl (hp ⟨1, .data⟩ (by simp) rfl)
      obtain ⟨km1, pm1, Am1, nm1, cm1, ev1, hd1⟩ := hF 1 (hp ⟨1, .data⟩ (by simp) rfl)
      rw [ev1] at e19
      have e21 := hin 3 21 rfl (hp ⟨3, .data⟩ (by simp) rfl)
      obtain ⟨km3, pm3, Am3, nm3, cm3, ev3, hd3⟩ := hF 3 (hp ⟨3, .data⟩ (by simp) rfl)
      rw [ev3] at e21
      refine Does.call ?_ (r14same_any (SizeOf.sizeOf (tree (plain (norm tf) false))) Some_ Some_ (tree (plain (norm tf) false)) (tree (plain (norm tg) false)) km1 pm1 Am1 nm1 cm1 km3 pm3 Am3 nm3 cm3 w (Nat.le_refl _) hd1 hd3) ?_
      · go_simp
      · rintro e w' ⟨rfl, hb⟩
        exact ⟨_, rfl, hb, (congrArg Value.bool HSM.out), hG.next hb⟩
    · intro listed σ w a hin hout hl hc hp hG hF
      refine Guarded.none rfl ?_
      have e22 : a.tmps.getD 22 undef = .bool sm := (hin 4 22 rfl (hp ⟨4, .data⟩ (by simp) rfl)).trans (hF 4 (hp ⟨4, .data⟩ (by simp) rfl))
      refine Does.val (.bool sm) (w' := w) ?_ ⟨Below.refl _ _, rfl, hG⟩
      simp only [Array.getD_eq_getD_getElem?] at e22
      go_simp
  · intro listed σ W9 hall hG hF
    rw [show mid _ σ listed _ = (Act.put (Act.put (Act.put (Act.put (Act.put (Act.put _ (some 18) (σ 0)) (some 19) (σ 1)) (some 20) (σ 2)) (some 21) (σ 3)) (some 22) (σ 4)) (some 7) (σ 5)) from (mid_all hall).trans rfl]
    generalize σ 0 = tt0
    generalize σ 1 = tt1
    generalize σ 2 = tt2
    generalize σ 3 = tt3
    generalize σ 4 = tt4
    rw [show σ 5 = .bool sm from hF 5 (by decide)]
    simp only [Act.put, List.setIfInBounds_toArray, List.set_cons_zero, List.set_cons_succ]
    have TG := hG
    clear hF hG hall
    clear σ
    have HB5 := hide (HB4.out.next TG)
    have X3 := hide (X3.out.next TG)
    have X4 := hide (X4.out.next TG)
    clear SOF TG
    have C0 := X3.out.cell 0 _ rfl
    have C1 := X3.out.cell 1 _ rfl
    have C2 := X3.out.cell 2 _ rfl
    have C3 := X4.out.cell 0 _ rfl
    have C4 := X4.out.cell 1 _ rfl
    have C5 := X4.out.cell 2 _ rfl
    go_wp2_with fail
    refine (wsame_any (norm tf).size Some_ Some_ tf tg kf pf Af nf cf kg pg Ag ng cg _ (Nat.le_refl _) (DF.out.keep (Keep.of_below HB5.out)) (DG.out.keep (Keep.of_below HB5.out))).mono ?_
    rintro e w6 ⟨rfl, b6⟩
    by_cases hnn : norm tf = norm tg
    · have hsm : sm = true := by rw [← HSM.out, hnn]; exact eqT_yes rfl
      subst hsm
      rw [decide_eq_true hnn]
      clear hnn
      have HB6 := hide (HB5.out.next b6)
      have X3 := hide (X3.out.next b6)
      have X4 := hide (X4.out.next b6)
      clear b6
      go_upto_region 8 with fail
      clear C0 C1 C2 C3 C4 C5
      have SOF := hide (fun w (h : Below w6.heap.size w6 w) => (⟨(X3.out.next h).cell 0 _ rfl, (X3.out.next h).cell 1 _ rfl, (X3.out.next h).cell 2 _ rfl⟩ : _ ∧ _ ∧ _))
      refine wp_drawnL (by kernel_rfl) (by kernel_rfl) (by kernel_rfl) (by kernel_rfl) (fun w w' => Below w.heap.size w w') (fun j v w => match j with | 0 => v = .agg #[.int .i64 kf, .int .i64 pf, .slice Af nf cf] | 1 => v = .bool dn | 2 => ∃ k p A n c, v = .agg #[.int .i64 k, .int .i64 p, .slice A n c] ∧ DIn Some_ w (tree (plain (norm tf) dn)) (c3 k p A n c) | 3 => v = .agg #[.int .i64 kf, .int .i64 pf, .slice Af nf cf] | 4 => v = .bool dn | 5 => ∃ k p A n c, v = .agg #[.int .i64 k, .int .i64 p, .slice A n c] ∧ DIn Some_ w (tree (plain (norm tf) dn)) (c3 k p A n c) | 6 => v = .bool true | 7 => v = .bool true | 8 => v = .agg #[.int .i64 kf, .int .i64 pf, .slice Af nf cf] | 9 => v = .int .i64 (sz : Int) | 10 => v = .agg #[.int .i64 kf, .int .i64 pf, .slice Af nf cf] | 11 => v = .int .i64 (sz : Int) | 12 => v = .bool true | 13 => v = .bool true | 14 => v = .bool true | 15 => v = .agg #[.int .i64 kf, .int .i64 pf, .slice Af nf cf] | 16 => v = .agg #[.int .i64 kf, .int .i64 pf, .slice Af nf cf] | 17 => v = .bool true | 18 => v = .bool true | _ => True) (fun _ _ w => Below w6.heap.size w6 w) ?_ (fun _ => bl_drewN w6 1) ?_ ?_
      · intro j v w w' hT h
        match j, h with
        | 0, h => exact h
        | 1, h => exact h
        | 2, h => exact (by obtain ⟨k, p, A, n, c, e, h1⟩ := h; exact ⟨k, p, A, n, c, e, h1.keep (Keep.of_below hT)⟩)
        | 3, h => exact h
        | 4, h => exact h
        | 5, h => exact (by obtain ⟨k, p, A, n, c, e, h1⟩ := h; exact ⟨k, p, A, n, c, e, h1.keep (Keep.of_below hT)⟩)
        | 6, h => exact h
        | 7, h => exact h
        | 8, h => exact h
        | 9, h => exact h
        | 10, h => exact h
        | 11, h => exact h
        | 12, h => exact h
        | 13, h => exact h
        | 14, h => exact h
        | 15, h => exact h
        | 16, h => exact h
        | 17, h => exact h
        | 18, h => exact h
        | j + 19, h => trivial
      · refine ⟨?_, ?_, ?_, ?_, ?_, ?_, ?_, ?_, ?_, ?_, ?_, ?_, ?_, ?_, ?_, ?_, ?_, ?_, ?_, trivial⟩
        · intro listed σ w a hin hout hl hla hs hc hp hG hF
          refine Guarded.none rfl ?_
          have e3 : a.tmps.getD 3 undef = .pointer (some ⟨W.heap.size, 0, none⟩) := hout 3 (outB_spec (by kernel_rfl))
          have CC := SOF.out w hG; obtain ⟨C0, C1, C2⟩ := CC
          refine Does.val (.agg #[.int .i64 kf, .int .i64 pf, .slice Af nf cf]) (w' := w) ?_ ⟨Below.refl _ _, rfl, hG⟩
          go_simp
        · intro listed σ w a hin hout hl hla hs hc hp hG hF
          refine Guarded.none rfl ?_
          have e2 : a.tmps.getD 2 undef = .bool dn := hout 2 (outB_spec (by kernel_rfl))
          refine Does.val (.bool dn) (w' := w) ?_ ⟨Below.refl _ _, rfl, hG⟩
          simp only [Array.getD_eq_getD_getElem?] at e2
          go_simp
        · intro listed σ w a hin hout hl hla hs hc hp hG hF
          refine Guarded.none rfl ?_
          have e30 : a.tmps.getD 30 undef = .agg #[.int .i64 kf, .int .i64 pf, .slice Af nf cf] := (hin 0 30 rfl (hp ⟨0, .data⟩ (by simp) rfl)).trans (hF 0 (hp ⟨0, .data⟩ (by simp) rfl))
          have e31 : a.tmps.getD 31 undef = .bool dn := (hin 1 31 rfl (hp ⟨1, .data⟩ (by simp) rfl)).trans (hF 1 (hp ⟨1, .data⟩ (by simp) rfl))
          refine Does.call ?_ (wplain_any (norm tf).size Some_ tf kf pf Af nf cf dn w (Nat.le_refl _) (DF.out.keep (Keep.of_below (HB6.out.next hG)))) ?_
          · go_simp
          · rintro e w' ⟨k, p, A, n, c, rfl, hd, hb⟩
            exact ⟨_, rfl, hb, ⟨k, p, A, n, c, rfl, hd.sub (fun _ _ _ => trivial)⟩, hG.next hb⟩
        · intro listed σ w a hin hout hl hla hs hc hp hG hF
          refine Guarded.none rfl ?_
          have e3 : a.tmps.getD 3 undef = .pointer (some ⟨W.heap.size, 0, none⟩) := hout 3 (outB_spec (by kernel_rfl))
          have CC := SOF.out w hG; obtain ⟨C0, C1, C2⟩ := CC
          refine Does.val (.agg #[.int .i64 kf, .int .i64 pf, .slice Af nf cf]) (w' := w) ?_ ⟨Below.refl _ _, rfl, hG⟩
          go_simp
        · intro listed σ w a hin hout hl hla hs hc hp hG hF
          refine Guarded.none rfl ?_
          have e2 : a.tmps.getD 2 undef = .bool dn := hout 2 (outB_spec (by kernel_rfl))
          refine Does.val (.bool dn) (w' := w) ?_ ⟨Below.refl _ _, rfl, hG⟩
          simp only [Array.getD_eq_getD_getElem?] at e2
          go_simp
        · intro listed σ w a hin hout hl hla hs hc hp hG hF
          refine Guarded.none rfl ?_
          have e33 : a.tmps.getD 33 undef = .agg #[.int .i64 kf, .int .i64 pf, .slice Af nf cf] := (hin 3 33 rfl (hp ⟨3, .data⟩ (by simp) rfl)).trans (hF 3 (hp ⟨3, .data⟩ (by simp) rfl))
          have e34 : a.tmps.getD 34 undef = .bool dn := (hin 4 34 rfl (hp ⟨4, .data⟩ (by simp) rfl)).trans (hF 4 (hp ⟨4, .data⟩ (by simp) rfl))
          refine Does.call ?_ (rplain_any (meas (norm tf)) Some_ tf kf pf Af nf cf dn w (Nat.le_refl _) (DF.out.keep (Keep.of_below (HB6.out.next hG)))) ?_
          · go_simp
          · rintro e w' ⟨k, p, A, n, c, rfl, hd, hb⟩
            exact ⟨_, rfl, hb, ⟨k, p, A, n, c, rfl, hd.sub (fun _ _ _ => trivial)⟩, hG.next hb⟩
        · intro listed σ w a hin hout hl hla hs hc hp hG hF
          refine Guarded.none rfl ?_
          have e32 := hin 2 32 rfl (hp ⟨2, .data⟩ (by simp) rfl)
          obtain ⟨km2, pm2, Am2, nm2, cm2, ev2, hd2⟩ := hF 2 (hp ⟨2, .data⟩ (by simp) rfl)
          rw [ev2] at e32
          have e35 := hin 5 35 rfl (hp ⟨5, .data⟩ (by simp) rfl)
          obtain ⟨km5, pm5, Am5, nm5, cm5, ev5, hd5⟩ := hF 5 (hp ⟨5, .data⟩ (by simp) rfl)
          rw [ev5] at e35
          refine Does.call ?_ (r14same_any (SizeOf.sizeOf (tree (plain (norm tf) dn))) Some_ Some_ (tree (plain (norm tf) dn)) (tree (plain (norm tf) dn)) km2 pm2 Am2 nm2 cm2 km5 pm5 Am5 nm5 cm5 w (Nat.le_refl _) hd2 hd5) ?_
          · go_simp
          · rintro e w' ⟨rfl, hb⟩
            exact ⟨_, rfl, hb, (congrArg Value.bool (eqT_yes rfl)), hG.next hb⟩
        · intro listed σ w a hin hout hl hla hs hc hp hG hF
          refine Guarded.none rfl ?_
          have e36 : a.tmps.getD 36 undef = .bool true := (hin 6 36 rfl (hp ⟨6, .data⟩ (by simp) rfl)).trans (hF 6 (hp ⟨6, .data⟩ (by simp) rfl))
          refine Does.val (.bool true) (w' := w) ?_ ⟨Below.refl _ _, rfl, hG⟩
          simp only [Array.getD_eq_getD_getElem?] at e36
          go_simp
        · intro listed σ w a hin hout hl hla hs hc hp hG hF
          refine Guarded.some (d := 37) (b := true) rfl rfl ((hin 7 37 rfl (hp ⟨7, .guard⟩ (by simp) rfl)).trans (hF 7 (hp ⟨7, .guard⟩ (by simp) rfl))) ?_
          refine Or.inl ⟨rfl, ?_⟩
          have e3 : a.tmps.getD 3 undef = .pointer (some ⟨W.heap.size, 0, none⟩) := hout 3 (outB_spec (by kernel_rfl))
          have CC := SOF.out w hG; obtain ⟨C0, C1, C2⟩ := CC
          refine Does.val (.agg #[.int .i64 kf, .int .i64 pf, .slice Af nf cf]) (w' := w) ?_ ⟨Below.refl _ _, rfl, hG⟩
          go_simp
        · intro listed σ w a hin hout hl hla hs hc hp hG hF
          refine Guarded.some (d := 37) (b := true) rfl rfl ((hin 7 37 rfl (hp ⟨7, .guard⟩ (by simp) rfl)).trans (hF 7 (hp ⟨7, .guard⟩ (by simp) rfl))) ?_
          refine Or.inl ⟨rfl, ?_⟩
          have e38 : a.tmps.getD 38 undef = .agg #[.int .i64 kf, .int .i64 pf, .slice Af nf cf] := (hin 8 38 rfl (hp ⟨8, .data⟩ (by simp) rfl)).trans (hF 8 (hp ⟨8, .data⟩ (by simp) rfl))
          refine Does.call ?_ (wsize_any 60 (by decide) Some_ tf kf pf Af nf cf w HSZ9.out (DF.out.keep (Keep.of_below (HB6.out.next hG)))) ?_
          · go_simp
          · rintro e w' ⟨rfl, hb⟩
            exact ⟨_, rfl, hb, (congrArg (fun q : Nat => Value.int .i64 (q : Int)) HSZE.out), hG.next hb⟩
        · intro listed σ w a hin hout hl hla hs hc hp hG hF
          refine Guarded.some (d := 37) (b := true) rfl rfl ((hin 7 37 rfl (hp ⟨7, .guard⟩ (by simp) rfl)).trans (hF 7 (hp ⟨7, .guard⟩ (by simp) rfl))) ?_
          refine Or.inl ⟨rfl, ?_⟩
          have e3 : a.tmps.getD 3 undef = .pointer (some ⟨W.heap.size, 0, none⟩) := hout 3 (outB_spec (by kernel_rfl))
          have CC := SOF.out w hG; obtain ⟨C0, C1, C2⟩ := CC
          refine Does.val (.agg #[.int .i64 kf, .int .i64 pf, .slice Af nf cf]) (w' := w) ?_ ⟨Below.refl _ _, rfl, hG⟩
          go_simp
        · intro listed σ w a hin hout hl hla hs hc hp hG hF
          refine Guarded.some (d := 37) (b := true) rfl rfl ((hin 7 37 rfl (hp ⟨7, .guard⟩ (by simp) rfl)).trans (hF 7 (hp ⟨7, .guard⟩ (by simp) rfl))) ?_
          refine Or.inl ⟨rfl, ?_⟩
          have e40 : a.tmps.getD 40 undef = .agg #[.int .i64 kf, .int .i64 pf, .slice Af nf cf] := (hin 10 40 rfl (hp ⟨10, .data⟩ (by simp) rfl)).trans (hF 10 (hp ⟨10, .data⟩ (by simp) rfl))
          refine Does.call ?_ (size_any 100 (by decide) Some_ tf kf pf Af nf cf w (DF.out.keep (Keep.of_below (HB6.out.next hG)))) ?_
          · go_simp
          · rintro e w' ⟨rfl, hb⟩
            exact ⟨_, rfl, hb, (congrArg (Value.int .i64) HSL.out), hG.next hb⟩
        · intro listed σ w a hin hout hl hla hs hc hp hG hF
          refine Guarded.some (d := 37) (b := true) rfl rfl ((hin 7 37 rfl (hp ⟨7, .guard⟩ (by simp) rfl)).trans (hF 7 (hp ⟨7, .guard⟩ (by simp) rfl))) ?_
          refine Or.inl ⟨rfl, ?_⟩
          have e39 : a.tmps.getD 39 undef = .int .i64 (sz : Int) := (hin 9 39 rfl (hp ⟨9, .data⟩ (by simp) rfl)).trans (hF 9 (hp ⟨9, .data⟩ (by simp) rfl))
          have e41 : a.tmps.getD 41 undef = .int .i64 (sz : Int) := (hin 11 41 rfl (hp ⟨11, .data⟩ (by simp) rfl)).trans (hF 11 (hp ⟨11, .data⟩ (by simp) rfl))
          refine Does.val (.bool true) (w' := w) ?_ ⟨Below.refl _ _, rfl, hG⟩
          simp only [Array.getD_eq_getD_getElem?] at e39 e41
          go_simp
        · intro listed σ w a hin hout hl hla hs hc hp hG hF
          refine Guarded.none rfl ?_
          have e37 : a.tmps.getD 37 undef = .bool true := (hin 7 37 rfl (hp ⟨7, .data⟩ (by simp) rfl)).trans (hF 7 (hp ⟨7, .data⟩ (by simp) rfl))
          have e42 : a.tmps.getD 42 undef = .bool true := (hin 12 42 rfl (hp ⟨12, .data⟩ (by simp) rfl)).trans (hF 12 (hp ⟨12, .data⟩ (by simp) rfl))
          refine Does.val (.bool true) (w' := w) ?_ ⟨Below.refl _ _, rfl, hG⟩
          simp only [Array.getD_eq_getD_getElem?] at e37 e42
          go_simp
        · intro listed σ w a hin hout hl hla hs hc hp hG hF
          refine Guarded.none rfl ?_
          have e43 : a.tmps.getD 43 undef = .bool true := (hin 13 43 rfl (hp ⟨13, .data⟩ (by simp) rfl)).trans (hF 13 (hp ⟨13, .data⟩ (by simp) rfl))
          refine Does.val (.bool true) (w' := w) ?_ ⟨Below.refl _ _, rfl, hG⟩
          simp only [Array.getD_eq_getD_getElem?] at e43
          go_simp
        · intro listed σ w a hin hout hl hla hs hc hp hG hF
          refine Guarded.some (d := 44) (b := true) rfl rfl ((hin 14 44 rfl (hp ⟨14, .guard⟩ (by simp) rfl)).trans (hF 14 (hp ⟨14, .guard⟩ (by simp) rfl))) ?_
          refine Or.inl ⟨rfl, ?_⟩
          have e3 : a.tmps.getD 3 undef = .pointer (some ⟨W.heap.size, 0, none⟩) := hout 3 (outB_spec (by kernel_rfl))
          have CC := SOF.out w hG; obtain ⟨C0, C1, C2⟩ := CC
          refine Does.val (.agg #[.int .i64 kf, .int .i64 pf, .slice Af nf cf]) (w' := w) ?_ ⟨Below.refl _ _, rfl, hG⟩
          go_simp
        · intro listed σ w a hin hout hl hla hs hc hp hG hF
          refine Guarded.some (d := 44) (b := true) rfl rfl ((hin 14 44 rfl (hp ⟨14, .guard⟩ (by simp) rfl)).trans (hF 14 (hp ⟨14, .guard⟩ (by simp) rfl))) ?_
          refine Or.inl ⟨rfl, ?_⟩
          have e3 : a.tmps.getD 3 undef = .pointer (some ⟨W.heap.size, 0, none⟩) := hout 3 (outB_spec (by kernel_rfl))
          have CC := SOF.out w hG; obtain ⟨C0, C1, C2⟩ := CC
          refine Does.val (.agg #[.int .i64 kf, .int .i64 pf, .slice Af nf cf]) (w' := w) ?_ ⟨Below.refl _ _, rfl, hG⟩
          go_simp
        · intro listed σ w a hin hout hl hla hs hc hp hG hF
          refine Guarded.some (d := 44) (b := true) rfl rfl ((hin 14 44 rfl (hp ⟨14, .guard⟩ (by simp) rfl)).trans (hF 14 (hp ⟨14, .guard⟩ (by simp) rfl))) ?_
          refine Or.inl ⟨rfl, ?_⟩
          have e45 : a.tmps.getD 45 undef = .agg #[.int .i64 kf, .int .i64 pf, .slice Af nf cf] := (hin 15 45 rfl (hp ⟨15, .data⟩ (by simp) rfl)).trans (hF 15 (hp ⟨15, .data⟩ (by simp) rfl))
          have e46 : a.tmps.getD 46 undef = .agg #[.int .i64 kf, .int .i64 pf, .slice Af nf cf] := (hin 16 46 rfl (hp ⟨16, .data⟩ (by simp) rfl)).trans (hF 16 (hp ⟨16, .data⟩ (by simp) rfl))
          refine Does.call ?_ (wsame_any (norm tf).size Some_ Some_ tf tf kf pf Af nf cf kf pf Af nf cf w (Nat.le_refl _) (DF.out.keep (Keep.of_below (HB6.out.next hG))) (DF.out.keep (Keep.of_below (HB6.out.next hG)))) ?_
          · go_simp
          · rintro e w' ⟨rfl, hb⟩
            exact ⟨_, rfl, hb, (congrArg Value.bool (decide_eq_true rfl)), hG.next hb⟩
        · intro listed σ w a hin hout hl hla hs hc hp hG hF
          refine Guarded.none rfl ?_
          have e44 : a.tmps.getD 44 undef = .bool true := (hin 14 44 rfl (hp ⟨14, .data⟩ (by simp) rfl)).trans (hF 14 (hp ⟨14, .data⟩ (by simp) rfl))
          have e47 : a.tmps.getD 47 undef = .bool true := (hin 17 47 rfl (hp ⟨17, .data⟩ (by simp) rfl)).trans (hF 17 (hp ⟨17, .data⟩ (by simp) rfl))
          refine Does.val (.bool true) (w' := w) ?_ ⟨Below.refl _ _, rfl, hG⟩
          simp only [Array.getD_eq_getD_getElem?] at e44 e47
          go_simp
      · intro o ho
        injection ho with ho; subst ho
        intro listed σ w a hall hin hout hG hF
        refine Guarded.none rfl ?_
        have e48 : a.tmps.getD 48 undef = .bool true := (hin 18 48 rfl (by decide)).trans (hF 18 (by decide))
        refine Does.val (.bool true) (w' := w) (by simp only [Array.getD_eq_getD_getElem?] at *; go_simp) ?_
        rw [show fin _ σ (.bool true) _ = (Act.put (Act.put (Act.put (Act.put (Act.put (Act.put (Act.put (Act.put (Act.put (Act.put (Act.put (Act.put (Act.put (Act.put (Act.put (Act.put (Act.put (Act.put (Act.put (Act.put _ (some 30) (σ 0)) (some 31) (σ 1)) (some 32) (σ 2)) (some 33) (σ 3)) (some 34) (σ 4)) (some 35) (σ 5)) (some 36) (σ 6)) (some 37) (σ 7)) (some 38) (σ 8)) (some 39) (σ 9)) (some 40) (σ 10)) (some 41) (σ 11)) (some 42) (σ 12)) (some 43) (σ 13)) (some 44) (σ 14)) (some 45) (σ 15)) (some 46) (σ 16)) (some 47) (σ 17)) (some 48) (σ 18)) (some 6) (.bool true)) from (fin_all hall).trans rfl]
        simp only [Act.put, List.setIfInBounds_toArray, List.set_cons_zero, List.set_cons_succ]
        have HB9 := hide (HB6.out.next hG)
        generalize σ 0 = tt0 at *; generalize σ 1 = tt1 at *; generalize σ 2 = tt2 at *; generalize σ 3 = tt3 at *; generalize σ 4 = tt4 at *; generalize σ 5 = tt5 at *; generalize σ 6 = tt6 at *; generalize σ 7 = tt7 at *; generalize σ 8 = tt8 at *; generalize σ 9 = tt9 at *; generalize σ 10 = tt10 at *; generalize σ 11 = tt11 at *; generalize σ 12 = tt12 at *; generalize σ 13 = tt13 at *; generalize σ 14 = tt14 at *; generalize σ 15 = tt15 at *; generalize σ 16 = tt16 at *; generalize σ 17 = tt17 at *; generalize σ 18 = tt18 at *
        clear hF hG hall hin hout SOF
        go_wp2_with fail
        go_ret
        exact HY.out _ HB9.out
    · rw [decide_eq_false hnn]
      clear hnn
      have HB6 := hide (HB5.out.next b6)
      have X3 := hide (X3.out.next b6)
      have X4 := hide (X4.out.next b6)
      clear b6
      go_upto_region 8 with fail
      clear C0 C1 C2 C3 C4 C5
      have SOF := hide (fun w (h : Below w6.heap.size w6 w) => (⟨(X3.out.next h).cell 0 _ rfl, (X3.out.next h).cell 1 _ rfl, (X3.out.next h).cell 2 _ rfl⟩ : _ ∧ _ ∧ _))
      refine wp_drawnL (by kernel_rfl) (by kernel_rfl) (by kernel_rfl) (by kernel_rfl) (fun w w' => Below w.heap.size w w') (fun j v w => match j with | 0 => v = .agg #[.int .i64 kf, .int .i64 pf, .slice Af nf cf] | 1 => v = .bool dn | 2 => ∃ k p A n c, v = .agg #[.int .i64 k, .int .i64 p, .slice A n c] ∧ DIn Some_ w (tree (plain (norm tf) dn)) (c3 k p A n c) | 3 => v = .agg #[.int .i64 kf, .int .i64 pf, .slice Af nf cf] | 4 => v = .bool dn | 5 => ∃ k p A n c, v = .agg #[.int .i64 k, .int .i64 p, .slice A n c] ∧ DIn Some_ w (tree (plain (norm tf) dn)) (c3 k p A n c) | 6 => v = .bool true | 7 => v = .bool true | 8 => v = .agg #[.int .i64 kf, .int .i64 pf, .slice Af nf cf] | 9 => v = .int .i64 (sz : Int) | 10 => v = .agg #[.int .i64 kf, .int .i64 pf, .slice Af nf cf] | 11 => v = .int .i64 (sz : Int) | 12 => v = .bool true | 13 => v = .bool true | 14 => v = .bool true | 15 => v = .agg #[.int .i64 kf, .int .i64 pf, .slice Af nf cf] | 16 => v = .agg #[.int .i64 kf, .int .i64 pf, .slice Af nf cf] | 17 => v = .bool true | 18 => v = .bool true | _ => True) (fun _ _ w => Below w6.heap.size w6 w) ?_ (fun _ => bl_drewN w6 1) ?_ ?_
      · intro j v w w' hT h
        match j, h with
        | 0, h => exact h
        | 1, h => exact h
        | 2, h => exact (by obtain ⟨k, p, A, n, c, e, h1⟩ := h; exact ⟨k, p, A, n, c, e, h1.keep (Keep.of_below hT)⟩)
        | 3, h => exact h
        | 4, h => exact h
        | 5, h => exact (by obtain ⟨k, p, A, n, c, e, h1⟩ := h; exact ⟨k, p, A, n, c, e, h1.keep (Keep.of_below hT)⟩)
        | 6, h => exact h
        | 7, h => exact h
        | 8, h => exact h
        | 9, h => exact h
        | 10, h => exact h
        | 11, h => exact h
        | 12, h => exact h
        | 13, h => exact h
        | 14, h => exact h
        | 15, h => exact h
        | 16, h => exact h
        | 17, h => exact h
        | 18, h => exact h
        | j + 19, h => trivial
      · refine ⟨?_, ?_, ?_, ?_, ?_, ?_, ?_, ?_, ?_, ?_, ?_, ?_, ?_, ?_, ?_, ?_, ?_, ?_, ?_, trivial⟩
        · intro listed σ w a hin hout hl hla hs hc hp hG hF
          refine Guarded.none rfl ?_
          have e3 : a.tmps.getD 3 undef = .pointer (some ⟨W.heap.size, 0, none⟩) := hout 3 (outB_spec (by kernel_rfl))
          have CC := SOF.out w hG; obtain ⟨C0, C1, C2⟩ := CC
          refine Does.val (.agg #[.int .i64 kf, .int .i64 pf, .slice Af nf cf]) (w' := w) ?_ ⟨Below.refl _ _, rfl, hG⟩
          go_simp
        · intro listed σ w a hin hout hl hla hs hc hp hG hF
          refine Guarded.none rfl ?_
          have e2 : a.tmps.getD 2 undef = .bool dn := hout 2 (outB_spec (by kernel_rfl))
          refine Does.val (.bool dn) (w' := w) ?_ ⟨Below.refl _ _, rfl, hG⟩
          simp only [Array.getD_eq_getD_getElem?] at e2
          go_simp
        · intro listed σ w a hin hout hl hla hs hc hp hG hF
          refine Guarded.none rfl ?_
          have e30 : a.tmps.getD 30 undef = .agg #[.int .i64 kf, .int .i64 pf, .slice Af nf cf] := (hin 0 30 rfl (hp ⟨0, .data⟩ (by simp) rfl)).trans (hF 0 (hp ⟨0, .data⟩ (by simp) rfl))
          have e31 : a.tmps.getD 31 undef = .bool dn := (hin 1 31 rfl (hp ⟨1, .data⟩ (by simp) rfl)).trans (hF 1 (hp ⟨1, .data⟩ (by simp) rfl))
          refine Does.call ?_ (wplain_any (norm tf).size Some_ tf kf pf Af nf cf dn w (Nat.le_refl _) (DF.out.keep (Keep.of_below (HB6.out.next hG)))) ?_
          · go_simp
          · rintro e w' ⟨k, p, A, n, c, rfl, hd, hb⟩
            exact ⟨_, rfl, hb, ⟨k, p, A, n, c, rfl, hd.sub (fun _ _ _ => trivial)⟩, hG.next hb⟩
        · intro listed σ w a hin hout hl hla hs hc hp hG hF
          refine Guarded.none rfl ?_
          have e3 : a.tmps.getD 3 undef = .pointer (some ⟨W.heap.size, 0, none⟩) := hout 3 (outB_spec (by kernel_rfl))
          have CC := SOF.out w hG; obtain ⟨C0, C1, C2⟩ := CC
          refine Does.val (.agg #[.int .i64 kf, .int .i64 pf, .slice Af nf cf]) (w' := w) ?_ ⟨Below.refl _ _, rfl, hG⟩
          go_simp
        · intro listed σ w a hin hout hl hla hs hc hp hG hF
          refine Guarded.none rfl ?_
          have e2 : a.tmps.getD 2 undef = .bool dn := hout 2 (outB_spec (by kernel_rfl))
          refine Does.val (.bool dn) (w' := w) ?_ ⟨Below.refl _ _, rfl, hG⟩
          simp only [Array.getD_eq_getD_getElem?] at e2
          go_simp
        · intro listed σ w a hin hout hl hla hs hc hp hG hF
          refine Guarded.none rfl ?_
          have e33 : a.tmps.getD 33 undef = .agg #[.int .i64 kf, .int .i64 pf, .slice Af nf cf] := (hin 3 33 rfl (hp ⟨3, .data⟩ (by simp) rfl)).trans (hF 3 (hp ⟨3, .data⟩ (by simp) rfl))
          have e34 : a.tmps.getD 34 undef = .bool dn := (hin 4 34 rfl (hp ⟨4, .data⟩ (by simp) rfl)).trans (hF 4 (hp ⟨4, .data⟩ (by simp) rfl))
          refine Does.call ?_ (rplain_any (meas (norm tf)) Some_ tf kf pf Af nf cf dn w (Nat.le_refl _) (DF.out.keep (Keep.of_below (HB6.out.next hG)))) ?_
          · go_simp
          · rintro e w' ⟨k, p, A, n, c, rfl, hd, hb⟩
            exact ⟨_, rfl, hb, ⟨k, p, A, n, c, rfl, hd.sub (fun _ _ _ => trivial)⟩, hG.next hb⟩
        · intro listed σ w a hin hout hl hla hs hc hp hG hF
          refine Guarded.none rfl ?_
          have e32 := hin 2 32 rfl (hp ⟨2, .data⟩ (by simp) rfl)
          obtain ⟨km2, pm2, Am2, nm2, cm2, ev2, hd2⟩ := hF 2 (hp ⟨2, .data⟩ (by simp) rfl)
          rw [ev2] at e32
          have e35 := hin 5 35 rfl (hp ⟨5, .data⟩ (by simp) rfl)
          obtain ⟨km5, pm5, Am5, nm5, cm5, ev5, hd5⟩ := hF 5 (hp ⟨5, .data⟩ (by simp) rfl)
          rw [ev5] at e35
          refine Does.call ?_ (r14same_any (SizeOf.sizeOf (tree (plain (norm tf) dn))) Some_ Some_ (tree (plain (norm tf) dn)) (tree (plain (norm tf) dn)) km2 pm2 Am2 nm2 cm2 km5 pm5 Am5 nm5 cm5 w (Nat.le_refl _) hd2 hd5) ?_
          · go_simp
          · rintro e w' ⟨rfl, hb⟩
            exact ⟨_, rfl, hb, (congrArg Value.bool (eqT_yes rfl)), hG.next hb⟩
        · intro listed σ w a hin hout hl hla hs hc hp hG hF
          refine Guarded.none rfl ?_
          have e36 : a.tmps.getD 36 undef = .bool true := (hin 6 36 rfl (hp ⟨6, .data⟩ (by simp) rfl)).trans (hF 6 (hp ⟨6, .data⟩ (by simp) rfl))
          refine Does.val (.bool true) (w' := w) ?_ ⟨Below.refl _ _, rfl, hG⟩
          simp only [Array.getD_eq_getD_getElem?] at e36
          go_simp
        · intro listed σ w a hin hout hl hla hs hc hp hG hF
          refine Guarded.some (d := 37) (b := true) rfl rfl ((hin 7 37 rfl (hp ⟨7, .guard⟩ (by simp) rfl)).trans (hF 7 (hp ⟨7, .guard⟩ (by simp) rfl))) ?_
          refine Or.inl ⟨rfl, ?_⟩
          have e3 : a.tmps.getD 3 undef = .pointer (some ⟨W.heap.size, 0, none⟩) := hout 3 (outB_spec (by kernel_rfl))
          have CC := SOF.out w hG; obtain ⟨C0, C1, C2⟩ := CC
          refine Does.val (.agg #[.int .i64 kf, .int .i64 pf, .slice Af nf cf]) (w' := w) ?_ ⟨Below.refl _ _, rfl, hG⟩
          go_simp
        · intro listed σ w a hin hout hl hla hs hc hp hG hF
          refine Guarded.some (d := 37) (b := true) rfl rfl ((hin 7 37 rfl (hp ⟨7, .guard⟩ (by simp) rfl)).trans (hF 7 (hp ⟨7, .guard⟩ (by simp) rfl))) ?_
          refine Or.inl ⟨rfl, ?_⟩
          have e38 : a.tmps.getD 38 undef = .agg #[.int .i64 kf, .int .i64 pf, .slice Af nf cf] := (hin 8 38 rfl (hp ⟨8, .data⟩ (by simp) rfl)).trans (hF 8 (hp ⟨8, .data⟩ (by simp) rfl))
          refine Does.call ?_ (wsize_any 60 (by decide) Some_ tf kf pf Af nf cf w HSZ9.out (DF.out.keep (Keep.of_below (HB6.out.next hG)))) ?_
          · go_simp
          · rintro e w' ⟨rfl, hb⟩
            exact ⟨_, rfl, hb, (congrArg (fun q : Nat => Value.int .i64 (q : Int)) HSZE.out), hG.next hb⟩
        · intro listed σ w a hin hout hl hla hs hc hp hG hF
          refine Guarded.some (d := 37) (b := true) rfl rfl ((hin 7 37 rfl (hp ⟨7, .guard⟩ (by simp) rfl)).trans (hF 7 (hp ⟨7, .guard⟩ (by simp) rfl))) ?_
          refine Or.inl ⟨rfl, ?_⟩
          have e3 : a.tmps.getD 3 undef = .pointer (some ⟨W.heap.size, 0, none⟩) := hout 3 (outB_spec (by kernel_rfl))
          have CC := SOF.out w hG; obtain ⟨C0, C1, C2⟩ := CC
          refine Does.val (.agg #[.int .i64 kf, .int .i64 pf, .slice Af nf cf]) (w' := w) ?_ ⟨Below.refl _ _, rfl, hG⟩
          go_simp
        · intro listed σ w a hin hout hl hla hs hc hp hG hF
          refine Guarded.some (d := 37) (b := true) rfl rfl ((hin 7 37 rfl (hp ⟨7, .guard⟩ (by simp) rfl)).trans (hF 7 (hp ⟨7, .guard⟩ (by simp) rfl))) ?_
          refine Or.inl ⟨rfl, ?_⟩
          have e40 : a.tmps.getD 40 undef = .agg #[.int .i64 kf, .int .i64 pf, .slice Af nf cf] := (hin 10 40 rfl (hp ⟨10, .data⟩ (by simp) rfl)).trans (hF 10 (hp ⟨10, .data⟩ (by simp) rfl))
          refine Does.call ?_ (size_any 100 (by decide) Some_ tf kf pf Af nf cf w (DF.out.keep (Keep.of_below (HB6.out.next hG)))) ?_
          · go_simp
          · rintro e w' ⟨rfl, hb⟩
            exact ⟨_, rfl, hb, (congrArg (Value.int .i64) HSL.out), hG.next hb⟩
        · intro listed σ w a hin hout hl hla hs hc hp hG hF
          refine Guarded.some (d := 37) (b := true) rfl rfl ((hin 7 37 rfl (hp ⟨7, .guard⟩ (by simp) rfl)).trans (hF 7 (hp ⟨7, .guard⟩ (by simp) rfl))) ?_
          refine Or.inl ⟨rfl, ?_⟩
          have e39 : a.tmps.getD 39 undef = .int .i64 (sz : Int) := (hin 9 39 rfl (hp ⟨9, .data⟩ (by simp) rfl)).trans (hF 9 (hp ⟨9, .data⟩ (by simp) rfl))
          have e41 : a.tmps.getD 41 undef = .int .i64 (sz : Int) := (hin 11 41 rfl (hp ⟨11, .data⟩ (by simp) rfl)).trans (hF 11 (hp ⟨11, .data⟩ (by simp) rfl))
          refine Does.val (.bool true) (w' := w) ?_ ⟨Below.refl _ _, rfl, hG⟩
          simp only [Array.getD_eq_getD_getElem?] at e39 e41
          go_simp
        · intro listed σ w a hin hout hl hla hs hc hp hG hF
          refine Guarded.none rfl ?_
          have e37 : a.tmps.getD 37 undef = .bool true := (hin 7 37 rfl (hp ⟨7, .data⟩ (by simp) rfl)).trans (hF 7 (hp ⟨7, .data⟩ (by simp) rfl))
          have e42 : a.tmps.getD 42 undef = .bool true := (hin 12 42 rfl (hp ⟨12, .data⟩ (by simp) rfl)).trans (hF 12 (hp ⟨12, .data⟩ (by simp) rfl))
          refine Does.val (.bool true) (w' := w) ?_ ⟨Below.refl _ _, rfl, hG⟩
          simp only [Array.getD_eq_getD_getElem?] at e37 e42
          go_simp
        · intro listed σ w a hin hout hl hla hs hc hp hG hF
          refine Guarded.none rfl ?_
          have e43 : a.tmps.getD 43 undef = .bool true := (hin 13 43 rfl (hp ⟨13, .data⟩ (by simp) rfl)).trans (hF 13 (hp ⟨13, .data⟩ (by simp) rfl))
          refine Does.val (.bool true) (w' := w) ?_ ⟨Below.refl _ _, rfl, hG⟩
          simp only [Array.getD_eq_getD_getElem?] at e43
          go_simp
        · intro listed σ w a hin hout hl hla hs hc hp hG hF
          refine Guarded.some (d := 44) (b := true) rfl rfl ((hin 14 44 rfl (hp ⟨14, .guard⟩ (by simp) rfl)).trans (hF 14 (hp ⟨14, .guard⟩ (by simp) rfl))) ?_
          refine Or.inl ⟨rfl, ?_⟩
          have e3 : a.tmps.getD 3 undef = .pointer (some ⟨W.heap.size, 0, none⟩) := hout 3 (outB_spec (by kernel_rfl))
          have CC := SOF.out w hG; obtain ⟨C0, C1, C2⟩ := CC
          refine Does.val (.agg #[.int .i64 kf, .int .i64 pf, .slice Af nf cf]) (w' := w) ?_ ⟨Below.refl _ _, rfl, hG⟩
          go_simp
        · intro listed σ w a hin hout hl hla hs hc hp hG hF
          refine Guarded.some (d := 44) (b := true) rfl rfl ((hin 14 44 rfl (hp ⟨14, .guard⟩ (by simp) rfl)).trans (hF 14 (hp ⟨14, .guard⟩ (by simp) rfl))) ?_
          refine Or.inl ⟨rfl, ?_⟩
          have e3 : a.tmps.getD 3 undef = .pointer (some ⟨W.heap.size, 0, none⟩) := hout 3 (outB_spec (by kernel_rfl))
          have CC := SOF.out w hG; obtain ⟨C0, C1, C2⟩ := CC
          refine Does.val (.agg #[.int .i64 kf, .int .i64 pf, .slice Af nf cf]) (w' := w) ?_ ⟨Below.refl _ _, rfl, hG⟩
          go_simp
        · intro listed σ w a hin hout hl hla hs hc hp hG hF
          refine Guarded.some (d := 44) (b := true) rfl rfl ((hin 14 44 rfl (hp ⟨14, .guard⟩ (by simp) rfl)).trans (hF 14 (hp ⟨14, .guard⟩ (by simp) rfl))) ?_
          refine Or.inl ⟨rfl, ?_⟩
          have e45 : a.tmps.getD 45 undef = .agg #[.int .i64 kf, .int .i64 pf, .slice Af nf cf] := (hin 15 45 rfl (hp ⟨15, .data⟩ (by simp) rfl)).trans (hF 15 (hp ⟨15, .data⟩ (by simp) rfl))
          have e46 : a.tmps.getD 46 undef = .agg #[.int .i64 kf, .int .i64 pf, .slice Af nf cf] := (hin 16 46 rfl (hp ⟨16, .data⟩ (by simp) rfl)).trans (hF 16 (hp ⟨16, .data⟩ (by simp) rfl))
          refine Does.call ?_ (wsame_any (norm tf).size Some_ Some_ tf tf kf pf Af nf cf kf pf Af nf cf w (Nat.le_refl _) (DF.out.keep (Keep.of_below (HB6.out.next hG))) (DF.out.keep (Keep.of_below (HB6.out.next hG)))) ?_
          · go_simp
          · rintro e w' ⟨rfl, hb⟩
            exact ⟨_, rfl, hb, (congrArg Value.bool (decide_eq_true rfl)), hG.next hb⟩
        · intro listed σ w a hin hout hl hla hs hc hp hG hF
          refine Guarded.none rfl ?_
          have e44 : a.tmps.getD 44 undef = .bool true := (hin 14 44 rfl (hp ⟨14, .data⟩ (by simp) rfl)).trans (hF 14 (hp ⟨14, .data⟩ (by simp) rfl))
          have e47 : a.tmps.getD 47 undef = .bool true := (hin 17 47 rfl (hp ⟨17, .data⟩ (by simp) rfl)).trans (hF 17 (hp ⟨17, .data⟩ (by simp) rfl))
          refine Does.val (.bool true) (w' := w) ?_ ⟨Below.refl _ _, rfl, hG⟩
          simp only [Array.getD_eq_getD_getElem?] at e44 e47
          go_simp
      · intro o ho
        injection ho with ho; subst ho
        intro listed σ w a hall hin hout hG hF
        refine Guarded.none rfl ?_
        have e48 : a.tmps.getD 48 undef = .bool true := (hin 18 48 rfl (by decide)).trans (hF 18 (by decide))
        refine Does.val (.bool true) (w' := w) (by simp only [Array.getD_eq_getD_getElem?] at *; go_simp) ?_
        rw [show fin _ σ (.bool true) _ = (Act.put (Act.put (Act.put (Act.put (Act.put (Act.put (Act.put (Act.put (Act.put (Act.put (Act.put (Act.put (Act.put (Act.put (Act.put (Act.put (Act.put (Act.put (Act.put (Act.put _ (some 30) (σ 0)) (some 31) (σ 1)) (some 32) (σ 2)) (some 33) (σ 3)) (some 34) (σ 4)) (some 35) (σ 5)) (some 36) (σ 6)) (some 37) (σ 7)) (some 38) (σ 8)) (some 39) (σ 9)) (some 40) (σ 10)) (some 41) (σ 11)) (some 42) (σ 12)) (some 43) (σ 13)) (some 44) (σ 14)) (some 45) (σ 15)) (some 46) (σ 16)) (some 47) (σ 17)) (some 48) (σ 18)) (some 6) (.bool true)) from (fin_all hall).trans rfl]
        simp only [Act.put, List.setIfInBounds_toArray, List.set_cons_zero, List.set_cons_succ]
        have HB9 := hide (HB6.out.next hG)
        generalize σ 0 = tt0 at *; generalize σ 1 = tt1 at *; generalize σ 2 = tt2 at *; generalize σ 3 = tt3 at *; generalize σ 4 = tt4 at *; generalize σ 5 = tt5 at *; generalize σ 6 = tt6 at *; generalize σ 7 = tt7 at *; generalize σ 8 = tt8 at *; generalize σ 9 = tt9 at *; generalize σ 10 = tt10 at *; generalize σ 11 = tt11 at *; generalize σ 12 = tt12 at *; generalize σ 13 = tt13 at *; generalize σ 14 = tt14 at *; generalize σ 15 = tt15 at *; generalize σ 16 = tt16 at *; generalize σ 17 = tt17 at *; generalize σ 18 = tt18 at *
        clear hF hG hall hin hout SOF
        go_wp2_with fail
        go_ret
        exact HY.out _ HB9.out
end Go.Proofs.Ytljocjjdfgpbaaa
