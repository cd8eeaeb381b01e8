/- Texts of one seat, put together: WordS14. -/
import Derived.Test.YtljocjjdfgpbaaaB20
import Derived.Test.YtljocjjdfgpbaaaB33
set_option linter.unusedVariables false
/- plumblineref14.Same. -/
namespace Go.Proofs.Ytljocjjdfgpbaaa
open Go.RowKit
open Wo

/-- Are two properties the same, to the last cell? -/
noncomputable def eqT (t u : Wo.LT) : Bool := @decide (t = u) (Classical.propDecidable _)
theorem eqT_yes {t u : Wo.LT} (h : t = u) : eqT t u = true := @decide_eq_true _ (Classical.propDecidable _) h
theorem eqT_no {t u : Wo.LT} (h : t ≠ u) : eqT t u = false := @decide_eq_false _ (Classical.propDecidable _) h
set_option maxRecDepth 100000 in
set_option maxHeartbeats 16000000 in
theorem r14same_any (Z : Nat) : ∀ (S S' : Nat → Prop) (t u : Wo.LT) (k p : Int) (A : Option Addr) (n c : Nat) (k' p' : Int) (A' : Option Addr) (n' c' : Nat) (w0 : World), SizeOf.sizeOf t ≤ Z → DIn S w0 t (c3 k p A n c) → DIn S' w0 u (c3 k' p' A' n' c') →
    Calls Try.prog 23 #[.agg #[.int .i64 k, .int .i64 p, .slice A n c], .agg #[.int .i64 k', .int .i64 p', .slice A' n' c']] w0 (SamePost (eqT t u) w0) := by
  induction Z with
  | zero => intro S S' t u k p A n c k' p' A' n' c' w0 hz; obtain ⟨a, b, l⟩ := t; simp at hz
  | succ Z ih =>
    intro S S' t u k p A n c k' p' A' n' c' w0 hz hd hu
    obtain ⟨kt, pt, ks⟩ := t
    obtain ⟨ku, pu, us⟩ := u
    obtain ⟨x2, x3, hb, hbz⟩ := bstart2 24 24 w0 #[.int .i64 k, .int .i64 p, .slice A n c] #[.int .i64 k', .int .i64 p', .slice A' n' c']
    obtain ⟨hk, hp, hks, -, hc9, -⟩ := hd.parts
    obtain ⟨hk', hp', hus, -, hc9', -⟩ := hu.parts
    replace hk : k = kt := hk
    replace hk' : k' = ku := hk'
    replace hp : p = pt := hp
    replace hp' : p' = pu := hp'
    subst hk hk' hp hp'
    have HK1 := hide ((show KsIn S w0 A n ks from hks).keep (Keep.of_below hb))
    have HK2 := hide ((show KsIn S' w0 A' n' us from hus).keep (Keep.of_below hb))
    have HL1 := hide (show ks.length = n from hks.1)
    have HL2 := hide (show us.length = n' from hus.1)
    have hcap : n ≤ 9223372036854775807 := by have := hd.parts; omega
    have X2 := hide x2
    have X3 := hide x3
    have HB := hide hb
    have HT := hide (show ∀ W, Below w0.heap.size w0 W → k = k' → p = p' → ks = us → SamePost (eqT (.mk k p ks) (.mk k' p' us)) w0 (.returned (.bool true)) W from fun W h e1 e2 e3 => ⟨by rw [eqT_yes (by rw [e1, e2, e3])], h⟩)
    have HF := hide (show ∀ W, Below w0.heap.size w0 W → ¬ (k = k' ∧ p = p' ∧ ks = us) → SamePost (eqT (.mk k p ks) (.mk k' p' us)) w0 (.returned (.bool false)) W from fun W h e => ⟨by rw [eqT_no (fun e0 => e (by injection e0 with e1 e2 e3; exact ⟨e1, e2, e3⟩))], h⟩)
    have HZK := hide (show ∀ x ∈ ks, SizeOf.sizeOf x ≤ Z from fun x hx => by have := List.sizeOf_lt_of_mem hx; simp at hz; omega)
    have HIH := hide ih
    clear ih hz hd hu hks hus hc9 hc9' hb hbz x2 x3
    generalize hW : (w0.alloc (.cells #[.int .i64 k, .int .i64 p, .slice A n c] 24)).alloc (.cells #[.int .i64 k', .int .i64 p', .slice A' n' c'] 24) = W1 at HK1 HK2 X2 X3 HB
    have HW := hide hW
    clear hW
    have c0 := X2.out.cell 0 _ rfl
    have c1 := X2.out.cell 1 _ rfl
    have c2 := X2.out.cell 2 _ rfl
    have e0 := X3.out.cell 0 _ rfl
    have e1 := X3.out.cell 1 _ rfl
    have e2 := X3.out.cell 2 _ rfl
    by_cases h1 : k = k'
    case neg =>
      have g1 : (k != k') = true := by simpa using h1
      have HP := hide (HF.out W1 HB.out (fun h => h1 h.1))
      clear h1 HT HF
      rw [← HW.out] at HP c0 c1 c2 e0 e1 e2
      go_enter Try.func23, Try.ntmps23
      go_wp2_with fail
      go_ret
      exact HP.out
    by_cases h2 : p = p'
    case neg =>
      have g1 : (k != k') = false := by simpa using h1
      have g2 : (p != p') = true := by simpa using h2
      have HP := hide (HF.out W1 HB.out (fun h => h2 h.2.1))
      clear h1 h2 HT HF
      rw [← HW.out] at HP c0 c1 c2 e0 e1 e2
      go_enter Try.func23, Try.ntmps23
      go_wp2_with fail
      go_ret
      exact HP.out
    by_cases h3 : n = n'
    case neg =>
      have g1 : (k != k') = false := by simpa using h1
      have g2 : (p != p') = false := by simpa using h2
      have g3 : ((n : Int) != (n' : Int)) = true := by simp; omega
      have HP := hide (HF.out W1 HB.out (fun h => h3 (by rw [← HL1.out, ← HL2.out, h.2.2])))
      clear h1 h2 h3 HT HF
      rw [← HW.out] at HP c0 c1 c2 e0 e1 e2
      go_enter Try.func23, Try.ntmps23
      go_wp2_with fail
      go_ret
      exact HP.out
    subst h1 h2 h3
    have g1 : (k != k) = false := by simp
    have g2 : (p != p) = false := by simp
    have g3 : ((n : Int) != (n : Int)) = false := by simp
    rw [← HW.out] at c0 c1 c2 e0 e1 e2
    go_enter Try.func23, Try.ntmps23
    go_wp2_with fail
    have hW := HW.out
    generalize (w0.alloc (.cells #[.int .i64 k, .int .i64 p, .slice A n c] 24)).alloc (.cells #[.int .i64 k, .int .i64 p, .slice A' n c'] 24) = W2 at *
    subst hW
    clear c0 c1 c2 e0 e1 e2 g1 g2 g3 HW
    have HS0 := hide (show Below W2.heap.size W2 W2 from Below.refl _ _)
    go_loopw [5] (fun i wr => ∃ q : Nat, q ≤ n ∧ i = .int .i64 q ∧ Hid (ks.take q = us.take q) ∧ Hid (Below W2.heap.size W2 wr)) (fun i _ => n - (intOf i).toNat)
    case atStart => exact ⟨0, Nat.zero_le _, rfl, hide rfl, HS0⟩
    case round =>
      obtain ⟨q, hq, rfl, HE, HR⟩ := hrel
      have c2 := (X2.out.next HR.out).cell 2 _ rfl
      have X2r := hide (X2.out.next HR.out)
      have X3r := hide (X3.out.next HR.out)
      by_cases hqn : q < n
      case neg =>
        obtain rfl : q = n := by omega
        have HP := hide (HT.out wr (HB.out.next HR.out) (by first | rfl | trivial) (by first | rfl | trivial) (by have := HE.out; rw [List.take_of_length_le (by rw [HL1.out]; omega), List.take_of_length_le (by rw [HL2.out]; omega)] at this; exact this))
        go_wp2_with fail
        go_ret
        exact HP.out
      obtain ⟨be, oe, tK, kK, pK, AK, nK, cK, hA5, hlt1, hkid, hdk, d0, d1, d2⟩ := (HK1.out.keep (Keep.of_below HR.out)).at_ hqn
      obtain ⟨bf, of, tU, kU, pU, AU, nU, cU, hA6, hlt2, hkid', hdu, f0, f1, f2⟩ := (HK2.out.keep (Keep.of_below HR.out)).at_ hqn
      subst hA5 hA6
      have HX := hide hkid
      have HY := hide hkid'
      have HC := hide (fun w (h : Below wr.heap.size wr w) => HIH.out S S' tK tU kK pK AK nK cK kU pU AU nU cU w (HZK.out tK (List.mem_of_getElem? hkid)) (hdk.keep (Keep.of_below h)) (hdu.keep (Keep.of_below h)))
      have HLT1 := hide hlt1
      have HLT2 := hide hlt2
      have D := hide (And.intro d0 (And.intro d1 d2))
      have F := hide (And.intro f0 (And.intro f1 f2))
      clear hkid hkid' hdk hdu d0 d1 d2 f0 f1 f2 hlt1 hlt2
      have SOF := hide (fun w (h : Below wr.heap.size wr w) => (⟨(X2r.out.next h).cell 2 _ rfl, (X3r.out.next h).cell 2 _ rfl, (below_cell h HLT1.out).trans D.out.1, (below_cell h HLT1.out).trans D.out.2.1, (below_cell h HLT1.out).trans D.out.2.2, (below_cell h HLT2.out).trans F.out.1, (below_cell h HLT2.out).trans F.out.2.1, (below_cell h HLT2.out).trans F.out.2.2⟩ : _ ∧ _ ∧ _ ∧ _ ∧ _ ∧ _ ∧ _ ∧ _))
      by_cases hv : tK = tU
      · have HVV := hide (eqT_yes hv)
        have HQ := hide (take_step HX.out (hv ▸ HY.out) HE.out)
        clear hv
        go_upto_region 6 with fail
        clear c2
        refine wp_drawn (by kernel_rfl) (by kernel_rfl) (by kernel_rfl) (fun w w' => Below w.heap.size w w') (fun j v w => match j with | 0 => v = .pointer (some ⟨w0.heap.size, 2, none⟩) | 1 => v = .slice (some ⟨be, oe, none⟩) n c | 2 => v = .int .i64 (q : Int) | 3 => v = .pointer (some ⟨be, oe + q * 3, none⟩) | 4 => v = .agg #[.int .i64 kK, .int .i64 pK, .slice AK nK cK] | 5 => v = .pointer (some ⟨w0.heap.size + 1, 2, none⟩) | 6 => v = .slice (some ⟨bf, of, none⟩) n c' | 7 => v = .int .i64 (q : Int) | 8 => v = .pointer (some ⟨bf, of + q * 3, none⟩) | 9 => v = .agg #[.int .i64 kU, .int .i64 pU, .slice AU nU cU] | 10 => v = .bool true | 11 => v = .bool false | _ => True) (fun _ _ w => Below wr.heap.size wr w) ?_ (fun _ => bl_drewN wr 1) ?_ ?_
        · intro j v w w' hT h
          match j, h with
          | 0, h => exact h
          | 1, h => exact h
          | 2, h => exact h
          | 3, h => exact h
          | 4, h => exact h
          | 5, h => exact h
          | 6, h => exact h
          | 7, h => exact h
          | 8, h => exact h
          | 9, h => exact h
          | 10, h => exact h
          | 11, h => exact h
          | j + 12, h => trivial
        · refine ⟨?_, ?_, ?_, ?_, ?_, ?_, ?_, ?_, ?_, ?_, ?_, ?_, trivial⟩
          · intro listed σ w a hin hout hl hc hp hG hF
            refine Guarded.none rfl ?_
            have e2 : a.tmps.getD 2 undef = .pointer (some ⟨w0.heap.size, 0, none⟩) := hout 2 (outB_spec (by kernel_rfl))
            refine Does.val (.pointer (some ⟨w0.heap.size, 2, none⟩)) (w' := w) ?_ ⟨Below.refl _ _, rfl, hG⟩
            simp only [Array.getD_eq_getD_getElem?] at e2
            go_simp
          · intro listed σ w a hin hout hl hc hp hG hF
            refine Guarded.none rfl ?_
            have e34 : a.tmps.getD 34 undef = .pointer (some ⟨w0.heap.size, 2, none⟩) := (hin 0 34 rfl (hp ⟨0, .data⟩ (by simp) rfl)).trans (hF 0 (hp ⟨0, .data⟩ (by simp) rfl))
            have CC := SOF.out w hG; obtain ⟨C0, C1, C2, C3, C4, C5, C6, C7⟩ := CC
            refine Does.val (.slice (some ⟨be, oe, none⟩) n c) (w' := w) ?_ ⟨Below.refl _ _, rfl, hG⟩
            go_simp
          · intro listed σ w a hin hout hl hc hp hG hF
            refine Guarded.none rfl ?_
            have e5 : a.tmps.getD 5 undef = .int .i64 (q : Int) := hout 5 (outB_spec (by kernel_rfl))
            refine Does.val (.int .i64 (q : Int)) (w' := w) ?_ ⟨Below.refl _ _, rfl, hG⟩
            simp only [Array.getD_eq_getD_getElem?] at e5
            go_simp
          · intro listed σ w a hin hout hl hc hp hG hF
            refine Guarded.none rfl ?_
            have e35 : a.tmps.getD 35 undef = .slice (some ⟨be, oe, none⟩) n c := (hin 1 35 rfl (hp ⟨1, .data⟩ (by simp) rfl)).trans (hF 1 (hp ⟨1, .data⟩ (by simp) rfl))
            have e36 : a.tmps.getD 36 undef = .int .i64 (q : Int) := (hin 2 36 rfl (hp ⟨2, .data⟩ (by simp) rfl)).trans (hF 2 (hp ⟨2, .data⟩ (by simp) rfl))
            refine Does.val (.pointer (some ⟨be, oe + q * 3, none⟩)) (w' := w) ?_ ⟨Below.refl _ _, rfl, hG⟩
            simp only [Array.getD_eq_getD_getElem?] at e35 e36
            go_simp
            (try (intro hh; exfalso; omega))
          · intro listed σ w a hin hout hl hc hp hG hF
            refine Guarded.none rfl ?_
            have e37 : a.tmps.getD 37 undef = .pointer (some ⟨be, oe + q * 3, none⟩) := (hin 3 37 rfl (hp ⟨3, .data⟩ (by simp) rfl)).trans (hF 3 (hp ⟨3, .data⟩ (by simp) rfl))
            have CC := SOF.out w hG; obtain ⟨C0, C1, C2, C3, C4, C5, C6, C7⟩ := CC
            refine Does.val (.agg #[.int .i64 kK, .int .i64 pK, .slice AK nK cK]) (w' := w) ?_ ⟨Below.refl _ _, rfl, hG⟩
            go_simp
          · intro listed σ w a hin hout hl hc hp hG hF
            refine Guarded.none rfl ?_
            have e3 : a.tmps.getD 3 undef = .pointer (some ⟨w0.heap.size + 1, 0, none⟩) := hout 3 (outB_spec (by kernel_rfl))
            refine Does.val (.pointer (some ⟨w0.heap.size + 1, 2, none⟩)) (w' := w) ?_ ⟨Below.refl _ _, rfl, hG⟩
            simp only [Array.getD_eq_getD_getElem?] at e3
            go_simp
          · intro listed σ w a hin hout hl hc hp hG hF
            refine Guarded.none rfl ?_
            have e39 : a.tmps.getD 39 undef = .pointer (some ⟨w0.heap.size + 1, 2, none⟩) := (hin 5 39 rfl (hp ⟨5, .data⟩ (by simp) rfl)).trans (hF 5 (hp ⟨5, .data⟩ (by simp) rfl))
            have CC := SOF.out w hG; obtain ⟨C0, C1, C2, C3, C4, C5, C6, C7⟩ := CC
            refine Does.val (.slice (some ⟨bf, of, none⟩) n c') (w' := w) ?_ ⟨Below.refl _ _, rfl, hG⟩
            go_simp
          · intro listed σ w a hin hout hl hc hp hG hF
            refine Guarded.none rfl ?_
            have e5 : a.tmps.getD 5 undef = .int .i64 (q : Int) := hout 5 (outB_spec (by kernel_rfl))
            refine Does.val (.int .i64 (q : Int)) (w' := w) ?_ ⟨Below.refl _ _, rfl, hG⟩
            simp only [Array.getD_eq_getD_getElem?] at e5
            go_simp
          · intro listed σ w a hin hout hl hc hp hG hF
            refine Guarded.none rfl ?_
            have e40 : a.tmps.getD 40 undef = .slice (some ⟨bf, of, none⟩) n c' := (hin 6 40 rfl (hp ⟨6, .data⟩ (by simp) rfl)).trans (hF 6 (hp ⟨6, .data⟩ (by simp) rfl))
            have e41 : a.tmps.getD 41 undef = .int .i64 (q : Int) := (hin 7 41 rfl (hp ⟨7, .data⟩ (by simp) rfl)).trans (hF 7 (hp ⟨7, .data⟩ (by simp) rfl))
            refine Does.val (.pointer (some ⟨bf, of + q * 3, none⟩)) (w' := w) ?_ ⟨Below.refl _ _, rfl, hG⟩
            simp only [Array.getD_eq_getD_getElem?] at e40 e41
            go_simp
            (try (intro hh; exfalso; omega))
          · intro listed σ w a hin hout hl hc hp hG hF
            refine Guarded.none rfl ?_
            have e42 : a.tmps.getD 42 undef = .pointer (some ⟨bf, of + q * 3, none⟩) := (hin 8 42 rfl (hp ⟨8, .data⟩ (by simp) rfl)).trans (hF 8 (hp ⟨8, .data⟩ (by simp) rfl))
            have CC := SOF.out w hG; obtain ⟨C0, C1, C2, C3, C4, C5, C6, C7⟩ := CC
            refine Does.val (.agg #[.int .i64 kU, .int .i64 pU, .slice AU nU cU]) (w' := w) ?_ ⟨Below.refl _ _, rfl, hG⟩
            go_simp
          · intro listed σ w a hin hout hl hc hp hG hF
            refine Guarded.none rfl ?_
            have e38 : a.tmps.getD 38 undef = .agg #[.int .i64 kK, .int .i64 pK, .slice AK nK cK] := (hin 4 38 rfl (hp ⟨4, .data⟩ (by simp) rfl)).trans (hF 4 (hp ⟨4, .data⟩ (by simp) rfl))
            have e43 : a.tmps.getD 43 undef = .agg #[.int .i64 kU, .int .i64 pU, .slice AU nU cU] := (hin 9 43 rfl (hp ⟨9, .data⟩ (by simp) rfl)).trans (hF 9 (hp ⟨9, .data⟩ (by simp) rfl))
            refine Does.call ?_ (HC.out w hG) ?_
            · go_simp
            · rintro e w' ⟨rfl, hb⟩
              exact ⟨_, rfl, hb, (congrArg Value.bool HVV.out), hG.next hb⟩
          · intro listed σ w a hin hout hl hc hp hG hF
            refine Guarded.none rfl ?_
            have e44 : a.tmps.getD 44 undef = .bool true := (hin 10 44 rfl (hp ⟨10, .data⟩ (by simp) rfl)).trans (hF 10 (hp ⟨10, .data⟩ (by simp) rfl))
            refine Does.val (.bool false) (w' := w) ?_ ⟨Below.refl _ _, rfl, hG⟩
            simp only [Array.getD_eq_getD_getElem?] at e44
            go_simp
        · intro listed σ W9 hall hG hF
          rw [show mid _ σ listed _ = (Act.put (Act.put (Act.put (Act.put (Act.put (Act.put (Act.put (Act.put (Act.put (Act.put (Act.put (Act.put _ (some 34) (σ 0)) (some 35) (σ 1)) (some 36) (σ 2)) (some 37) (σ 3)) (some 38) (σ 4)) (some 39) (σ 5)) (some 40) (σ 6)) (some 41) (σ 7)) (some 42) (σ 8)) (some 43) (σ 9)) (some 44) (σ 10)) (some 45) (σ 11)) from (mid_all hall).trans rfl]
          generalize σ 0 = tt0
          generalize σ 1 = tt1
          generalize σ 2 = tt2
          generalize σ 3 = tt3
          generalize σ 4 = tt4
          generalize σ 5 = tt5
          generalize σ 6 = tt6
          generalize σ 7 = tt7
          generalize σ 8 = tt8
          generalize σ 9 = tt9
          generalize σ 10 = tt10
          rw [show σ 11 = .bool false from hF 11 (by decide)]
          simp only [Act.put, List.setIfInBounds_toArray, List.set_cons_zero, List.set_cons_succ]
          have TG := hG
          clear hF hG hall
          clear σ
          have HB8 := hide (HR.out.next TG)
          clear TG SOF
          go_wp2_with fail
          go_roundw
          case rel => exact ⟨q + 1, by omega, by go_num, HQ, HB8⟩
          case measure => simp [intOf]; omega
      · have HVV := hide (eqT_no hv)
        have HP := hide (fun W (h : Below w0.heap.size w0 W) => HF.out W h (fun h => take_not HX.out HY.out hv h.2.2))
        clear hv
        go_upto_region 6 with fail
        clear c2
        refine wp_drawn (by kernel_rfl) (by kernel_rfl) (by kernel_rfl) (fun w w' => Below w.heap.size w w') (fun j v w => match j with | 0 => v = .pointer (some ⟨w0.heap.size, 2, none⟩) | 1 => v = .slice (some ⟨be, oe, none⟩) n c | 2 => v = .int .i64 (q : Int) | 3 => v = .pointer (some ⟨be, oe + q * 3, none⟩) | 4 => v = .agg #[.int .i64 kK, .int .i64 pK, .slice AK nK cK] | 5 => v = .pointer (some ⟨w0.heap.size + 1, 2, none⟩) | 6 => v = .slice (some ⟨bf, of, none⟩) n c' | 7 => v = .int .i64 (q : Int) | 8 => v = .pointer (some ⟨bf, of + q * 3, none⟩) | 9 => v = .agg #[.int .i64 kU, .int .i64 pU, .slice AU nU cU] | 10 => v = .bool false | 11 => v = .bool true | _ => True) (fun _ _ w => Below wr.heap.size wr w) ?_ (fun _ => bl_drewN wr 1) ?_ ?_
        · intro j v w w' hT h
          match j, h with
          | 0, h => exact h
          | 1, h => exact h
          | 2, h => exact h
          | 3, h => exact h
          | 4, h => exact h
          | 5, h => exact h
          | 6, h => exact h
          | 7, h => exact h
          | 8, h => exact h
          | 9, h => exact h
          | 10, h => exact h
          | 11, h => exact h
          | j + 12, h => trivial
        · refine ⟨?_, ?_, ?_, ?_, ?_, ?_, ?_, ?_, ?_, ?_, ?_, ?_, trivial⟩
          · intro listed σ w a hin hout hl hc hp hG hF
            refine Guarded.none rfl ?_
            have e2 : a.tmps.getD 2 undef = .pointer (some ⟨w0.heap.size, 0, none⟩) := hout 2 (outB_spec (by kernel_rfl))
            refine Does.val (.pointer (some ⟨w0.heap.size, 2, none⟩)) (w' := w) ?_ ⟨Below.refl _ _, rfl, hG⟩
            simp only [Array.getD_eq_getD_getElem?] at e2
            go_simp
          · intro listed σ w a hin hout hl hc hp hG hF
            refine Guarded.none rfl ?_
            have e34 : a.tmps.getD 34 undef = .pointer (some ⟨w0.heap.size, 2, none⟩) := (hin 0 34 rfl (hp ⟨0, .data⟩ (by simp) rfl)).trans (hF 0 (hp ⟨0, .data⟩ (by simp) rfl))
            have CC := SOF.out w hG; obtain ⟨C0, C1, C2, C3, C4, C5, C6, C7⟩ := CC
            refine Does.val (.slice (some ⟨be, oe, none⟩) n c) (w' := w) ?_ ⟨Below.refl _ _, rfl, hG⟩
            go_simp
          · intro listed σ w a hin hout hl hc hp hG hF
            refine Guarded.none rfl ?_
            have e5 : a.tmps.getD 5 undef = .int .i64 (q : Int) := hout 5 (outB_spec (by kernel_rfl))
            refine Does.val (.int .i64 (q : Int)) (w' := w) ?_ ⟨Below.refl _ _, rfl, hG⟩
            simp only [Array.getD_eq_getD_getElem?] at e5
            go_simp
          · intro listed σ w a hin hout hl hc hp hG hF
            refine Guarded.none rfl ?_
            have e35 : a.tmps.getD 35 undef = .slice (some ⟨be, oe, none⟩) n c := (hin 1 35 rfl (hp ⟨1, .data⟩ (by simp) rfl)).trans (hF 1 (hp ⟨1, .data⟩ (by simp) rfl))
            have e36 : a.tmps.getD 36 undef = .int .i64 (q : Int) := (hin 2 36 rfl (hp ⟨2, .data⟩ (by simp) rfl)).trans (hF 2 (hp ⟨2, .data⟩ (by simp) rfl))
            refine Does.val (.pointer (some ⟨be, oe + q * 3, none⟩)) (w' := w) ?_ ⟨Below.refl _ _, rfl, hG⟩
            simp only [Array.getD_eq_getD_getElem?] at e35 e36
            go_simp
            (try (intro hh; exfalso; omega))
          · intro listed σ w a hin hout hl hc hp hG hF
            refine Guarded.none rfl ?_
            have e37 : a.tmps.getD 37 undef = .pointer (some ⟨be, oe + q * 3, none⟩) := (hin 3 37 rfl (hp ⟨3, .data⟩ (by simp) rfl)).trans (hF 3 (hp ⟨3, .data⟩ (by simp) rfl))
            have CC := SOF.out w hG; obtain ⟨C0, C1, C2, C3, C4, C5, C6, C7⟩ := CC
            refine Does.val (.agg #[.int .i64 kK, .int .i64 pK, .slice AK nK cK]) (w' := w) ?_ ⟨Below.refl _ _, rfl, hG⟩
            go_simp
          · intro listed σ w a hin hout hl hc hp hG hF
            refine Guarded.none rfl ?_
            have e3 : a.tmps.getD 3 undef = .pointer (some ⟨w0.heap.size + 1, 0, none⟩) := hout 3 (outB_spec (by kernel_rfl))
            refine Does.val (.pointer (some ⟨w0.heap.size + 1, 2, none⟩)) (w' := w) ?_ ⟨Below.refl _ _, rfl, hG⟩
            simp only [Array.getD_eq_getD_getElem?] at e3
            go_simp
          · intro listed σ w a hin hout hl hc hp hG hF
            refine Guarded.none rfl ?_
            have e39 : a.tmps.getD 39 undef = .pointer (some ⟨w0.heap.size + 1, 2, none⟩) := (hin 5 39 rfl (hp ⟨5, .data⟩ (by simp) rfl)).trans (hF 5 (hp ⟨5, .data⟩ (by simp) rfl))
            have CC := SOF.out w hG; obtain ⟨C0, C1, C2, C3, C4, C5, C6, C7⟩ := CC
            refine Does.val (.slice (some ⟨bf, of, none⟩) n c') (w' := w) ?_ ⟨Below.refl _ _, rfl, hG⟩
            go_simp
          · intro listed σ w a hin hout hl hc hp hG hF
            refine Guarded.none rfl ?_
            have e5 : a.tmps.getD 5 undef = .int .i64 (q : Int) := hout 5 (outB_spec (by kernel_rfl))
            refine Does.val (.int .i64 (q : Int)) (w' := w) ?_ ⟨Below.refl _ _, rfl, hG⟩
            simp only [Array.getD_eq_getD_getElem?] at e5
            go_simp
          · intro listed σ w a hin hout hl hc hp hG hF
            refine Guarded.none rfl ?_
            have e40 : a.tmps.getD 40 undef = .slice (some ⟨bf, of, none⟩) n c' := (hin 6 40 rfl (hp ⟨6, .data⟩ (by simp) rfl)).trans (hF 6 (hp ⟨6, .data⟩ (by simp) rfl))
            have e41 : a.tmps.getD 41 undef = .int .i64 (q : Int) := (hin 7 41 rfl (hp ⟨7, .data⟩ (by simp) rfl)).trans (hF 7 (hp ⟨7, .data⟩ (by simp) rfl))
            refine Does.val (.pointer (some ⟨bf, of + q * 3, none⟩)) (w' := w) ?_ ⟨Below.refl _ _, rfl, hG⟩
            simp only [Array.getD_eq_getD_getElem?] at e40 e41
            go_simp
            (try (intro hh; exfalso; omega))
          · intro listed σ w a hin hout hl hc hp hG hF
            refine Guarded.none rfl ?_
            have e42 : a.tmps.getD 42 undef = .pointer (some ⟨bf, of + q * 3, none⟩) := (hin 8 42 rfl (hp ⟨8, .data⟩ (by simp) rfl)).trans (hF 8 (hp ⟨8, .data⟩ (by simp) rfl))
            have CC := SOF.out w hG; obtain ⟨C0, C1, C2, C3, C4, C5, C6, C7⟩ := CC
            refine Does.val (.agg #[.int .i64 kU, .int .i64 pU, .slice AU nU cU]) (w' := w) ?_ ⟨Below.refl _ _, rfl, hG⟩
            go_simp
          · intro listed σ w a hin hout hl hc hp hG hF
            refine Guarded.none rfl ?_
            have e38 : a.tmps.getD 38 undef = .agg #[.int .i64 kK, .int .i64 pK, .slice AK nK cK] := (hin 4 38 rfl (hp ⟨4, .data⟩ (by simp) rfl)).trans (hF 4 (hp ⟨4, .data⟩ (by simp) rfl))
            have e43 : a.tmps.getD 43 undef = .agg #[.int .i64 kU, .int .i64 pU, .slice AU nU cU] := (hin 9 43 rfl (hp ⟨9, .data⟩ (by simp) rfl)).trans (hF 9 (hp ⟨9, .data⟩ (by simp) rfl))
            refine Does.call ?_ (HC.out w hG) ?_
            · go_simp
            · rintro e w' ⟨rfl, hb⟩
              exact ⟨_, rfl, hb, (congrArg Value.bool HVV.out), hG.next hb⟩
          · intro listed σ w a hin hout hl hc hp hG hF
            refine Guarded.none rfl ?_
            have e44 : a.tmps.getD 44 undef = .bool false := (hin 10 44 rfl (hp ⟨10, .data⟩ (by simp) rfl)).trans (hF 10 (hp ⟨10, .data⟩ (by simp) rfl))
            refine Does.val (.bool true) (w' := w) ?_ ⟨Below.refl _ _, rfl, hG⟩
            simp only [Array.getD_eq_getD_getElem?] at e44
            go_simp
        · intro listed σ W9 hall hG hF
          rw [show mid _ σ listed _ = (Act.put (Act.put (Act.put (Act.put (Act.put (Act.put (Act.put (Act.put (Act.put (Act.put (Act.put (Act.put _ (some 34) (σ 0)) (some 35) (σ 1)) (some 36) (σ 2)) (some 37) (σ 3)) (some 38) (σ 4)) (some 39) (σ 5)) (some 40) (σ 6)) (some 41) (σ 7)) (some 42) (σ 8)) (some 43) (σ 9)) (some 44) (σ 10)) (some 45) (σ 11)) from (mid_all hall).trans rfl]
          generalize σ 0 = tt0
          generalize σ 1 = tt1
          generalize σ 2 = tt2
          generalize σ 3 = tt3
          generalize σ 4 = tt4
          generalize σ 5 = tt5
          generalize σ 6 = tt6
          generalize σ 7 = tt7
          generalize σ 8 = tt8
          generalize σ 9 = tt9
          generalize σ 10 = tt10
          rw [show σ 11 = .bool true from hF 11 (by decide)]
          simp only [Act.put, List.setIfInBounds_toArray, List.set_cons_zero, List.set_cons_succ]
          have TG := hG
          clear hF hG hall
          clear σ
          have HB8 := hide ((HB.out.next HR.out).next TG)
          clear TG SOF
          go_wp2_with fail
          go_ret
          exact HP.out _ HB8.out
end Go.Proofs.Ytljocjjdfgpbaaa
