/- Texts of one seat, put together: WordLawT. -/
import Derived.Test.YtljocjjdfgpbaaaB29
import Derived.Test.YtljocjjdfgpbaaaB30
set_option linter.unusedVariables false
/- The law WordTurns, walked. -/
namespace Go.Proofs.Ytljocjjdfgpbaaa
open Go.RowKit
open Wo

theorem PlainPost.eq {S : Nat → Prop} {f g : Pr} {F : Nat} {args : Array Value} {w : World} (e : f = g) (h : Calls Try.prog F args w (PlainPost S f w)) : Calls Try.prog F args w (PlainPost S g w) := e ▸ h
set_option maxRecDepth 100000 in
set_option maxHeartbeats 32000000 in
theorem wordTurns_any (kd pr : Int) (A : Option Addr) (n c : Nat) (tf : LT) (A1 : Option Addr) (c1 : Nat) (L1 : List (List Bool)) (A2 : Option Addr) (c2 : Nat) (L2 : List (List Bool)) (at_ : Int) (W : World)
    (hd : DIn Some_ W tf (c3 kd pr A n c)) (h1 : LsIn Some_ W A1 L1.length L1) (h2 : LsIn Some_ W A2 L2.length L2) (hn : L1.length ≤ 4611686018427387903) (hm : L2.length ≤ 4611686018427387903) (hx9 : at_ ≤ 9223372036854775807) :
    Calls Try.prog 5 #[.agg #[.int .i64 kd, .int .i64 pr, .slice A n c], .agg #[.slice A1 L1.length c1, .slice A2 L2.length c2], .int .i64 at_] W (WYes W) := by
  obtain ⟨x3, x4, hb, hbz⟩ := bstart2 24 27 W #[.int .i64 kd, .int .i64 pr, .slice A n c] #[.slice A1 L1.length c1, .slice A2 L2.length c2]
  have HB := hide hb
  have X3 := hide x3
  have X4 := hide x4
  have HF := hide (fun w (h : Below W.heap.size W w) => lfew_any Some_ tf kd pr A n c A1 L1.length c1 A2 L2.length c2 L1 L2 w (hd.keep (Keep.of_below h)) (h1.keep (Keep.of_below h)) (h2.keep (Keep.of_below h)) hn hm)
  have HD := hide (hd.sub (S' := Lt W.heap.size) (fun b hlt _ => hlt))
  have DW1 := hide h1
  have DW2 := hide h2
  have HX9 := hide hx9
  clear hb hbz hd h1 h2 x3 x4 hx9
  have HY := hide (show ∀ w', Below W.heap.size W w' → WYes W (.returned (.bool true)) w' from fun w' h => ⟨rfl, h⟩)
  go_enter Try.func5, Try.ntmps5
  go_wp2_with fail
  refine (lalive_any _).mono ?_
  rintro e w2 ⟨rfl, b2⟩
  have HB2 := hide (HB.out.next b2)
  have X3 := hide (X3.out.next b2)
  have X4 := hide (X4.out.next b2)
  clear b2
  have C0 := X3.out.cell 0 _ rfl
  have C1 := X3.out.cell 1 _ rfl
  have C2 := X3.out.cell 2 _ rfl
  have C3 := X4.out.cell 0 _ rfl
  have C4 := X4.out.cell 1 _ rfl
  go_wp2_with fail
  refine (HF.out _ HB2.out).mono ?_
  rintro e w3 ⟨bf, rfl, hf, b3⟩
  have HB3 := hide (HB2.out.next b3)
  have X3 := hide (X3.out.next b3)
  have X4 := hide (X4.out.next b3)
  clear b3 C0 C1 C2 C3 C4
  cases bf
  case false =>
    clear hf
    go_wp2_with fail
    go_ret
    exact HY.out _ HB3.out
  obtain ⟨-, hl, -, -⟩ := hf rfl
  have HL := hide hl
  clear hf hl
  have C3 := X4.out.cell 0 _ rfl
  have C4 := X4.out.cell 1 _ rfl
  by_cases hz : L2.length = 0
  · rw [hz] at C4
    clear HF X3 X4 HD DW1 DW2 HL hm C3
    generalize L2.length = n2 at *
    subst hz
    go_wp2_with fail
    go_ret
    exact HY.out _ HB3.out
  have g0 : ((L2.length : Int) == 0) = false := by rw [beq_eq_false_iff_ne]; omega
  have HN0 := hide (show 0 < L2.length by omega)
  have HN9 := hide (show L1.length + L2.length ≤ 500000 by have := HL.out; omega)
  obtain ⟨x, hx⟩ : ∃ x, x = at_.toNat := ⟨_, rfl⟩
  have HX := hide hx.symm
  obtain ⟨rh, hrh⟩ : ∃ rh, rh = HV L1 L2 (norm tf) x := ⟨_, rfl⟩
  have VH := hide hrh.symm
  obtain ⟨P0, hP0⟩ : ∃ P0, P0 = plain (norm tf) false := ⟨_, rfl⟩
  obtain ⟨P1, hP1⟩ : ∃ P1, P1 = plain (norm tf) true := ⟨_, rfl⟩
  have hw := norm_wf tf
  have WP0 := hide (show P0.wf from hP0 ▸ plain_wf _ _ hw)
  have WP1 := hide (show P1.wf from hP1 ▸ plain_wf _ _ hw)
  have FP0 := hide (show few P0 = true from hP0 ▸ plain_few _ _ hw)
  have FP1 := hide (show few P1 = true from hP1 ▸ plain_few _ _ hw)
  have Qfalse := hide hP0.symm
  have Qtrue := hide hP1.symm
  have V0 := hide (show HV L1 L2 (norm (tree P0)) x = rh from by rw [norm_tree _ WP0.out, hP0, hrh]; unfold HV; rw [H_plain _ _ _ hw]; simp)
  have V1 := hide (show HV L1 L2 (norm (tree P1)) x = !rh from by rw [norm_tree _ WP1.out, hP1, hrh]; unfold HV; rw [H_plain _ _ _ hw]; simp)
  have T0 := hide (show plain (norm (tree P0)) false = P0 from by rw [norm_tree _ WP0.out, hP0]; exact plain_idem _ _ hw)
  have T1 := hide (show plain (norm (tree P1)) true = P0 from by rw [norm_tree _ WP1.out, hP1, hP0]; exact plain_twice _ _ hw)
  clear hx hrh hP0 hP1 hw hn hm HF HL
  have C0 := X3.out.cell 0 _ rfl
  have C1 := X3.out.cell 1 _ rfl
  have C2 := X3.out.cell 2 _ rfl
  go_wp2_with fail
  refine (hv_call Some_ tf kd pr A n c A1 c1 A2 c2 L1 L2 at_ x rh _ ((HD.out.keep (Keep.of_below HB3.out)).sub (fun _ _ _ => trivial)) (DW1.out.keep (Keep.of_below HB3.out)) (DW2.out.keep (Keep.of_below HB3.out)) HN0.out HN9.out HX9.out HX.out VH.out).mono ?_
  rintro e w4 ⟨rfl, b4⟩
  have HBa := hide (HB3.out.next b4)
  have X3 := hide (X3.out.next b4)
  have X4 := hide (X4.out.next b4)
  clear b4 C0 C1 C2 C3 C4 g0 hz
  go_upto_region 6 with fail
  have SOF := hide (fun w (h : Below w4.heap.size w4 w) => (⟨(X3.out.next h).cell 0 _ rfl, (X3.out.next h).cell 1 _ rfl, (X3.out.next h).cell 2 _ rfl, (X4.out.next h).cell 0 _ rfl, (X4.out.next h).cell 1 _ rfl⟩ : _ ∧ _ ∧ _ ∧ _ ∧ _))
  refine wp_drawnL (by kernel_rfl) (by kernel_rfl) (by kernel_rfl) (by kernel_rfl) (fun _ _ => True) (fun j v w => match j with | 0 => v = .agg #[.int .i64 kd, .int .i64 pr, .slice A n c] | 1 => True | 2 => v = .agg #[.int .i64 kd, .int .i64 pr, .slice A n c] | 3 => True | 4 => True | 5 => True | 6 => True | _ => True) (fun listed σ w => (listed.getD 6 false = false ∧ GQ w4 (spL 1 4 (tree P0)) (spL 3 5 (tree P1)) listed σ w) ∨ (listed.getD 6 false = true ∧ GQ2 w4 (spL 1 4 (tree P0)) (spL 3 5 (tree P1)) σ id w)) ?_ (fun _ => .inl ⟨rep_false _ _, GQ.start (bl_drewN w4 1)⟩) ?_ ?_
  · intro j v w w' hT h
    match j, h with
    | 0, h => exact h
    | 1, h => trivial
    | 2, h => exact h
    | 3, h => trivial
    | 4, h => trivial
    | 5, h => trivial
    | 6, h => trivial
    | j + 7, h => trivial
  · refine ⟨?_, ?_, ?_, ?_, ?_, ?_, ?_, trivial⟩
    · intro listed σ w a hin hout hl hla hs hc hp hG hF
      refine Guarded.none rfl ?_
      have h8 : listed.getD 6 false = false := (un_next (k := 6) hc hl (by kernel_rfl))
      have hG := (hG.resolve_right (fun h => by rw [h8] at h; cases h.1)).2
      have e3 : a.tmps.getD 3 undef = .pointer (some ⟨W.heap.size, 0, none⟩) := hout 3 (outB_spec (by kernel_rfl))
      have CC := SOF.out w hG.below; obtain ⟨C0, C1, C2, C3, C4⟩ := CC
      refine Does.val (.agg #[.int .i64 kd, .int .i64 pr, .slice A n c]) (w' := w) ?_ ⟨trivial, rfl, .inl ⟨(by rw [getD_set_ne false (show (0 : Nat) ≠ 6 by decide)]; exact h8), hG.next (spL_ok 1 4 (tree P0)) (spL_ok 3 5 (tree P1)) (Below.refl _ _) (show (0 : Nat) ≠ 1 ∧ (0 : Nat) ≠ 3 ∧ (0 : Nat) ≠ 4 ∧ (0 : Nat) ≠ 5 by decide)⟩⟩
      go_simp
    · intro listed σ w a hin hout hl hla hs hc hp hG hF
      refine Guarded.none rfl ?_
      have h8 : listed.getD 6 false = false := (un_next (k := 6) hc hl (by kernel_rfl))
      have hG := (hG.resolve_right (fun h => by rw [h8] at h; cases h.1)).2
      have e26 : a.tmps.getD 26 undef = .agg #[.int .i64 kd, .int .i64 pr, .slice A n c] := (hin 0 26 rfl (hp ⟨0, .data⟩ (by simp) rfl)).trans (hF 0 (hp ⟨0, .data⟩ (by simp) rfl))
      refine Does.call ?_ (PlainPost.eq Qfalse.out (wplain_any (norm tf).size (Lt w4.heap.size) tf kd pr A n c false w (Nat.le_refl _) ((HD.out.keep (Keep.of_below (HBa.out.next hG.below))).sub (fun b hlt h => Nat.lt_of_lt_of_le h HBa.out.size)))) ?_
      · go_simp
      · rintro e w' ⟨k, q, A, n, c, rfl, hd, hb⟩
        exact ⟨_, rfl, trivial, trivial, .inl ⟨(by rw [getD_set_ne false (show (1 : Nat) ≠ 6 by decide)]; exact h8), hG.call (by kernel_rfl) (spL_ok 1 4 (tree P0)) (spL_ok 3 5 (tree P1)) (.inl rfl) rfl hb ⟨_, _, _, _, _, rfl, hd.sub (fun b hlt h => by rcases h with h | h; exact .inl h; exact .inr ⟨h, hlt⟩)⟩⟩⟩
    · intro listed σ w a hin hout hl hla hs hc hp hG hF
      refine Guarded.none rfl ?_
      have h8 : listed.getD 6 false = false := (un_next (k := 6) hc (un_next (k := 3) hc hl (by kernel_rfl)) (by kernel_rfl))
      have hG := (hG.resolve_right (fun h => by rw [h8] at h; cases h.1)).2
      have e3 : a.tmps.getD 3 undef = .pointer (some ⟨W.heap.size, 0, none⟩) := hout 3 (outB_spec (by kernel_rfl))
      have CC := SOF.out w hG.below; obtain ⟨C0, C1, C2, C3, C4⟩ := CC
      refine Does.val (.agg #[.int .i64 kd, .int .i64 pr, .slice A n c]) (w' := w) ?_ ⟨trivial, rfl, .inl ⟨(by rw [getD_set_ne false (show (2 : Nat) ≠ 6 by decide)]; exact h8), hG.next (spL_ok 1 4 (tree P0)) (spL_ok 3 5 (tree P1)) (Below.refl _ _) (show (2 : Nat) ≠ 1 ∧ (2 : Nat) ≠ 3 ∧ (2 : Nat) ≠ 4 ∧ (2 : Nat) ≠ 5 by decide)⟩⟩
      go_simp
    · intro listed σ w a hin hout hl hla hs hc hp hG hF
      refine Guarded.none rfl ?_
      have h8 : listed.getD 6 false = false := (un_next (k := 6) hc hl (by kernel_rfl))
      have hG := (hG.resolve_right (fun h => by rw [h8] at h; cases h.1)).2
      have e28 : a.tmps.getD 28 undef = .agg #[.int .i64 kd, .int .i64 pr, .slice A n c] := (hin 2 28 rfl (hp ⟨2, .data⟩ (by simp) rfl)).trans (hF 2 (hp ⟨2, .data⟩ (by simp) rfl))
      refine Does.call ?_ (PlainPost.eq Qtrue.out (wplain_any (norm tf).size (Lt w4.heap.size) tf kd pr A n c true w (Nat.le_refl _) ((HD.out.keep (Keep.of_below (HBa.out.next hG.below))).sub (fun b hlt h => Nat.lt_of_lt_of_le h HBa.out.size)))) ?_
      · go_simp
      · rintro e w' ⟨k, q, A, n, c, rfl, hd, hb⟩
        exact ⟨_, rfl, trivial, trivial, .inl ⟨(by rw [getD_set_ne false (show (3 : Nat) ≠ 6 by decide)]; exact h8), hG.call (by kernel_rfl) (spL_ok 1 4 (tree P0)) (spL_ok 3 5 (tree P1)) (.inr rfl) rfl hb ⟨_, _, _, _, _, rfl, hd.sub (fun b hlt h => by rcases h with h | h; exact .inl h; exact .inr ⟨h, hlt⟩)⟩⟩⟩
    · intro listed σ w a hin hout hl hla hs hc hp hG hF
      refine Guarded.none rfl ?_
      have h8 : listed.getD 6 false = false := (un_next (k := 6) hc hl (by kernel_rfl))
      have hG := (hG.resolve_right (fun h => by rw [h8] at h; cases h.1)).2
      refine Does.val (.pointer (some ⟨w.heap.size, 0, none⟩)) (w' := w.alloc (.cells #[.int .i64 0, .int .i64 0, .slice none 0 0] 24)) ?_ ⟨trivial, trivial, .inl ⟨(by rw [getD_set_ne false (show (4 : Nat) ≠ 6 by decide)]; exact h8), hG.made (by kernel_rfl) (spL_ok 1 4 (tree P0)) (spL_ok 3 5 (tree P1)) (.inl rfl) rfl⟩⟩
      go_simp
    · intro listed σ w a hin hout hl hla hs hc hp hG hF
      refine Guarded.none rfl ?_
      have h8 : listed.getD 6 false = false := (un_next (k := 6) hc hl (by kernel_rfl))
      have hG := (hG.resolve_right (fun h => by rw [h8] at h; cases h.1)).2
      refine Does.val (.pointer (some ⟨w.heap.size, 0, none⟩)) (w' := w.alloc (.cells #[.int .i64 0, .int .i64 0, .slice none 0 0] 24)) ?_ ⟨trivial, trivial, .inl ⟨(by rw [getD_set_ne false (show (5 : Nat) ≠ 6 by decide)]; exact h8), hG.made (by kernel_rfl) (spL_ok 1 4 (tree P0)) (spL_ok 3 5 (tree P1)) (.inr rfl) rfl⟩⟩
      go_simp
    · intro listed σ w a hin hout hl hla hs hc hp hG hF
      refine Guarded.none rfl ?_
      have hG := (hG.resolve_right (fun h => by rw [hl] at h; cases h.1)).2
      obtain ⟨hb, g1, g2, cs1, cs2, e1, e2, eg1, eg2, hg1, hg2, hne, b1, b2, p1, p2⟩ := hG.all (spL_ok 1 4 (tree P0)) (spL_ok 3 5 (tree P1)) (hp ⟨1, .data⟩ (by simp) rfl) (hp ⟨3, .chain⟩ (by simp) rfl) (hp ⟨4, .data⟩ (by simp) rfl) (hp ⟨5, .phase⟩ (by simp) rfl)
      have hpp := p1
      obtain ⟨k9, p9, A9, n9, c9, rfl, hd9⟩ := p1
      have e8 := (hin 4 8 rfl (hp ⟨4, .data⟩ (by simp) rfl)).trans eg1
      have e27 := (hin 1 27 rfl (hp ⟨1, .data⟩ (by simp) rfl)).trans e1
      refine Does.store_box (T := 24) (cells := #[.int .i64 k9, .int .i64 p9, .slice A9 n9 c9]) rfl e8 e27 b1 (by kernel_rfl) rfl (by simp [Value.oneCell']) (fun w2 x9 o9 => ?_)
      have h9 : 6 < listed.size := by rw [show listed.size = 8 from hs]; decide
      exact ⟨trivial, trivial, .inr ⟨(by simp [Array.getD, h9]), hb.trans (o9.below hb.size hg1), g1, g2, _, _, ((upd_ne σ undef (show (1 : Nat) ≠ 6 by decide)).trans e1), ((upd_ne σ undef (show (3 : Nat) ≠ 6 by decide)).trans e2), ((upd_ne σ undef (show (4 : Nat) ≠ 6 by decide)).trans eg1), ((upd_ne σ undef (show (5 : Nat) ≠ 6 by decide)).trans eg2), hg1, hg2, hne, x9, b2.other o9 (Ne.symm hne), ((spL_ok 1 4 (tree P0))).keep _ _ _ _ (Keep.of_only o9 (fun h => h.1 rfl)) hpp, ((spL_ok 3 5 (tree P1))).keep _ _ _ _ (Keep.of_only o9 (fun h => h.1 rfl)) p2⟩⟩
  · intro o ho
    injection ho with ho; subst ho
    intro listed σ w a hall hin hout hG hF
    refine Guarded.none rfl ?_
    obtain ⟨hb, g1b, g2b, cs1, cs2, e1, e2, eg1, eg2, hg1, hg2, hne, b1, b2, p1, p2⟩ := (hG.resolve_left (fun h => by have h7 := hall 6 (by decide); rw [h.1] at h7; cases h7)).2
    replace eg1 : σ 4 = .pointer (some ⟨g1b, 0, none⟩) := eg1
    replace eg2 : σ 5 = .pointer (some ⟨g2b, 0, none⟩) := eg2
    have P91 := p1
    have hqq := p2
    obtain ⟨k9, p9, A9, n9, c9, rfl, hd9⟩ := p2
    have e9 := (hin 5 9 rfl (by decide)).trans eg2
    have e29 := (hin 3 29 rfl (by decide)).trans e2
    refine Does.store_box (T := 24) (cells := #[.int .i64 k9, .int .i64 p9, .slice A9 n9 c9]) rfl e9 e29 b2 (by kernel_rfl) rfl (by simp [Value.oneCell']) (fun Wb x92 o9 => ?_)
    have HB9b := hide (hb.trans (o9.below hb.size hg2))
    have x91 : Box 24 Wb g1b cs1 := b1.other o9 hne
    have P91 := ((spL_ok 1 4 (tree P0))).keep _ _ _ _ (Keep.of_only o9 (fun h => h.2 rfl)) P91
    have P92 := ((spL_ok 3 5 (tree P1))).keep _ _ _ _ (Keep.of_only o9 (fun h => h.2 rfl)) hqq
    rw [show fin _ σ undef _ = (Act.put (Act.put (Act.put (Act.put (Act.put (Act.put (Act.put (Act.put _ (some 26) (σ 0)) (some 27) (σ 1)) (some 28) (σ 2)) (some 29) (σ 3)) (some 8) (σ 4)) (some 9) (σ 5)) none (σ 6)) none undef) from (fin_all hall).trans rfl]
    simp only [Act.put, List.setIfInBounds_toArray, List.set_cons_zero, List.set_cons_succ]
    rw [eg1, eg2]
    have X91b := hide x91
    have X92b := hide x92
    have P91b := hide P91
    have P92b := hide P92
    have HNEb := hide hne
    clear hF hG hall hin hout SOF hb e1 e2 eg1 eg2 b1 b2 p1 o9 hqq e9 e29 x91 x92 hne
    generalize σ 0 = tt0 ; generalize σ 1 = tt1 ; generalize σ 2 = tt2 ; generalize σ 3 = tt3 ; generalize σ 4 = tt4 ; generalize σ 5 = tt5 ; generalize σ 6 = tt6 
    clear σ
    obtain ⟨k0, q0, A0, n0, c0, rfl, h90⟩ := P91b.out
    have D0 := hide (h90.sub (S' := Some_) (fun _ _ _ => trivial))
    have X8 := hide X91b.out
    clear h90 P91b X91b
    obtain ⟨k1, q1, B1, n1, d1, hcs, h91⟩ := P92b.out
    simp only [Array.mk.injEq, List.cons.injEq, Value.int.injEq, Value.slice.injEq, and_true, true_and] at hcs
    obtain ⟨q01, q02, q03, q04, q05⟩ := hcs
    subst k9 p9 A9 n9 c9
    have D1 := hide (h91.sub (S' := Some_) (fun _ _ _ => trivial))
    have X9 := hide X92b.out
    clear h91 P92b X92b
    have HBb := hide (HBa.out.next HB9b.out)
    have X3 := hide (X3.out.next HB9b.out)
    have X4 := hide (X4.out.next HB9b.out)
    clear HB9b HNEb
    go_upto_region 7 with fail
    have SOF := hide (fun w (h : Below Wb.heap.size Wb w) => (⟨(X3.out.next h).cell 0 _ rfl, (X3.out.next h).cell 1 _ rfl, (X3.out.next h).cell 2 _ rfl, (X4.out.next h).cell 0 _ rfl, (X4.out.next h).cell 1 _ rfl, (X8.out.next h).cell 0 _ rfl, (X8.out.next h).cell 1 _ rfl, (X8.out.next h).cell 2 _ rfl, (X9.out.next h).cell 0 _ rfl, (X9.out.next h).cell 1 _ rfl, (X9.out.next h).cell 2 _ rfl⟩ : _ ∧ _ ∧ _ ∧ _ ∧ _ ∧ _ ∧ _ ∧ _ ∧ _ ∧ _ ∧ _))
    refine wp_drawnL (by kernel_rfl) (by kernel_rfl) (by kernel_rfl) (by kernel_rfl) (fun w w' => Below w.heap.size w w') (fun j v w => match j with | 0 => v = .agg #[.int .i64 k0, .int .i64 q0, .slice A0 n0 c0] | 1 => v = .agg #[.slice A1 L1.length c1, .slice A2 L2.length c2] | 2 => v = .int .i64 at_ | 3 => v = .bool rh | 4 => v = .bool rh | 5 => v = .bool true | 6 => v = .bool true | 7 => v = .agg #[.int .i64 k1, .int .i64 q1, .slice B1 n1 d1] | 8 => v = .agg #[.slice A1 L1.length c1, .slice A2 L2.length c2] | 9 => v = .int .i64 at_ | 10 => v = .bool (!rh) | 11 => v = .bool rh | 12 => v = .bool true | 13 => v = .bool true | 14 => v = .bool true | 15 => v = .agg #[.int .i64 k1, .int .i64 q1, .slice B1 n1 d1] | 16 => ∃ k q A n c, v = .agg #[.int .i64 k, .int .i64 q, .slice A n c] ∧ DIn Some_ w (tree P0) (c3 k q A n c) | 17 => v = .agg #[.slice A1 L1.length c1, .slice A2 L2.length c2] | 18 => v = .int .i64 at_ | 19 => v = .bool rh | 20 => v = .bool rh | 21 => v = .bool true | 22 => v = .bool true | 23 => v = .bool true | 24 => v = .agg #[.int .i64 k0, .int .i64 q0, .slice A0 n0 c0] | 25 => ∃ k q A n c, v = .agg #[.int .i64 k, .int .i64 q, .slice A n c] ∧ DIn Some_ w (tree P0) (c3 k q A n c) | 26 => v = .agg #[.int .i64 k0, .int .i64 q0, .slice A0 n0 c0] | 27 => v = .bool true | 28 => v = .bool true | 29 => v = .bool true | 30 => v = .agg #[.int .i64 kd, .int .i64 pr, .slice A n c] | 31 => ∃ k q A n c, v = .agg #[.int .i64 k, .int .i64 q, .slice A n c] ∧ DIn Some_ w (tree P1) (c3 k q A n c) | 32 => ∃ k q A n c, v = .agg #[.int .i64 k, .int .i64 q, .slice A n c] ∧ DIn Some_ w (tree P0) (c3 k q A n c) | 33 => v = .agg #[.int .i64 k0, .int .i64 q0, .slice A0 n0 c0] | 34 => v = .bool true | 35 => v = .bool true | 36 => v = .bool true | 37 => v = .agg #[.int .i64 k0, .int .i64 q0, .slice A0 n0 c0] | 38 => v = .bool true | 39 => v = .bool true | 40 => v = .bool true | 41 => v = .agg #[.int .i64 k1, .int .i64 q1, .slice B1 n1 d1] | 42 => v = .bool true | 43 => v = .bool true | _ => True) (fun _ _ w => Below Wb.heap.size Wb w) ?_ (fun _ => bl_drewN Wb 1) ?_ ?_
    · intro j v w w' hT h
      match j, h with
      | 0, h => exact h
      | 1, h => exact h
      | 2, h => exact h
      | 3, h => exact h
      | 4, h => exact h
      | 5, h => exact h
      | 6, h => exact h
      | 7, h => exact h
      | 8, h => exact h
      | 9, h => exact h
      | 10, h => exact h
      | 11, h => exact h
      | 12, h => exact h
      | 13, h => exact h
      | 14, h => exact h
      | 15, h => exact h
      | 16, h => exact (by obtain ⟨k, q, A, n, c, e, h1⟩ := h; exact ⟨k, q, A, n, c, e, h1.keep (Keep.of_below hT)⟩)
      | 17, h => exact h
      | 18, h => exact h
      | 19, h => exact h
      | 20, h => exact h
      | 21, h => exact h
      | 22, h => exact h
      | 23, h => exact h
      | 24, h => exact h
      | 25, h => exact (by obtain ⟨k, q, A, n, c, e, h1⟩ := h; exact ⟨k, q, A, n, c, e, h1.keep (Keep.of_below hT)⟩)
      | 26, h => exact h
      | 27, h => exact h
      | 28, h => exact h
      | 29, h => exact h
      | 30, h => exact h
      | 31, h => exact (by obtain ⟨k, q, A, n, c, e, h1⟩ := h; exact ⟨k, q, A, n, c, e, h1.keep (Keep.of_below hT)⟩)
      | 32, h => exact (by obtain ⟨k, q, A, n, c, e, h1⟩ := h; exact ⟨k, q, A, n, c, e, h1.keep (Keep.of_below hT)⟩)
      | 33, h => exact h
      | 34, h => exact h
      | 35, h => exact h
      | 36, h => exact h
      | 37, h => exact h
      | 38, h => exact h
      | 39, h => exact h
      | 40, h => exact h
      | 41, h => exact h
      | 42, h => exact h
      | 43, h => exact h
      | j + 44, h => trivial
    · refine ⟨?_, ?_, ?_, ?_, ?_, ?_, ?_, ?_, ?_, ?_, ?_, ?_, ?_, ?_, ?_, ?_, ?_, ?_, ?_, ?_, ?_, ?_, ?_, ?_, ?_, ?_, ?_, ?_, ?_, ?_, ?_, ?_, ?_, ?_, ?_, ?_, ?_, ?_, ?_, ?_, ?_, ?_, ?_, ?_, trivial⟩
      · intro listed σ w a hin hout hl hla hs hc hp hG hF
        refine Guarded.none rfl ?_
        have e8 : a.tmps.getD 8 undef = .pointer (some ⟨g1b, 0, none⟩) := hout 8 (outB_spec (by kernel_rfl))
        have CC := SOF.out w hG; obtain ⟨C0, C1, C2, C3, C4, C5, C6, C7, C8, C9, C10⟩ := CC
        refine Does.val (.agg #[.int .i64 k0, .int .i64 q0, .slice A0 n0 c0]) (w' := w) ?_ ⟨Below.refl _ _, rfl, hG⟩
        go_simp
      · intro listed σ w a hin hout hl hla hs hc hp hG hF
        refine Guarded.none rfl ?_
        have e4 : a.tmps.getD 4 undef = .pointer (some ⟨W.heap.size + 1, 0, none⟩) := hout 4 (outB_spec (by kernel_rfl))
        have CC := SOF.out w hG; obtain ⟨C0, C1, C2, C3, C4, C5, C6, C7, C8, C9, C10⟩ := CC
        refine Does.val (.agg #[.slice A1 L1.length c1, .slice A2 L2.length c2]) (w' := w) ?_ ⟨Below.refl _ _, rfl, hG⟩
        go_simp
      · intro listed σ w a hin hout hl hla hs hc hp hG hF
        refine Guarded.none rfl ?_
        have e2 : a.tmps.getD 2 undef = .int .i64 at_ := hout 2 (outB_spec (by kernel_rfl))
        refine Does.val (.int .i64 at_) (w' := w) ?_ ⟨Below.refl _ _, rfl, hG⟩
        simp only [Array.getD_eq_getD_getElem?] at e2
        go_simp
      · intro listed σ w a hin hout hl hla hs hc hp hG hF
        refine Guarded.none rfl ?_
        have e30 : a.tmps.getD 30 undef = .agg #[.int .i64 k0, .int .i64 q0, .slice A0 n0 c0] := (hin 0 30 rfl (hp ⟨0, .data⟩ (by simp) rfl)).trans (hF 0 (hp ⟨0, .data⟩ (by simp) rfl))
        have e31 : a.tmps.getD 31 undef = .agg #[.slice A1 L1.length c1, .slice A2 L2.length c2] := (hin 1 31 rfl (hp ⟨1, .data⟩ (by simp) rfl)).trans (hF 1 (hp ⟨1, .data⟩ (by simp) rfl))
        have e32 : a.tmps.getD 32 undef = .int .i64 at_ := (hin 2 32 rfl (hp ⟨2, .data⟩ (by simp) rfl)).trans (hF 2 (hp ⟨2, .data⟩ (by simp) rfl))
        refine Does.call ?_ (hv_call Some_ (tree P0) k0 q0 A0 n0 c0 A1 c1 A2 c2 L1 L2 at_ x rh w (D0.out.keep (Keep.of_below hG)) (DW1.out.keep (Keep.of_below (HBb.out.next hG))) (DW2.out.keep (Keep.of_below (HBb.out.next hG))) HN0.out HN9.out HX9.out HX.out V0.out) ?_
        · go_simp
        · rintro e w' ⟨rfl, hb⟩
          exact ⟨_, rfl, hb, rfl, hG.next hb⟩
      · intro listed σ w a hin hout hl hla hs hc hp hG hF
        refine Guarded.none rfl ?_
        have e7 : a.tmps.getD 7 undef = .bool rh := hout 7 (outB_spec (by kernel_rfl))
        refine Does.val (.bool rh) (w' := w) ?_ ⟨Below.refl _ _, rfl, hG⟩
        simp only [Array.getD_eq_getD_getElem?] at e7
        go_simp
      · intro listed σ w a hin hout hl hla hs hc hp hG hF
        refine Guarded.none rfl ?_
        have e33 : a.tmps.getD 33 undef = .bool rh := (hin 3 33 rfl (hp ⟨3, .data⟩ (by simp) rfl)).trans (hF 3 (hp ⟨3, .data⟩ (by simp) rfl))
        have e34 : a.tmps.getD 34 undef = .bool rh := (hin 4 34 rfl (hp ⟨4, .data⟩ (by simp) rfl)).trans (hF 4 (hp ⟨4, .data⟩ (by simp) rfl))
        refine Does.val (.bool true) (w' := w) ?_ ⟨Below.refl _ _, rfl, hG⟩
        simp only [Array.getD_eq_getD_getElem?] at e33 e34
        go_simp
      · intro listed σ w a hin hout hl hla hs hc hp hG hF
        refine Guarded.none rfl ?_
        have e35 : a.tmps.getD 35 undef = .bool true := (hin 5 35 rfl (hp ⟨5, .data⟩ (by simp) rfl)).trans (hF 5 (hp ⟨5, .data⟩ (by simp) rfl))
        refine Does.val (.bool true) (w' := w) ?_ ⟨Below.refl _ _, rfl, hG⟩
        simp only [Array.getD_eq_getD_getElem?] at e35
        go_simp
      · intro listed σ w a hin hout hl hla hs hc hp hG hF
        refine Guarded.some (d := 36) (b := true) rfl rfl ((hin 6 36 rfl (hp ⟨6, .guard⟩ (by simp) rfl)).trans (hF 6 (hp ⟨6, .guard⟩ (by simp) rfl))) ?_
        refine Or.inl ⟨rfl, ?_⟩
        have e9 : a.tmps.getD 9 undef = .pointer (some ⟨g2b, 0, none⟩) := hout 9 (outB_spec (by kernel_rfl))
        have CC := SOF.out w hG; obtain ⟨C0, C1, C2, C3, C4, C5, C6, C7, C8, C9, C10⟩ := CC
        refine Does.val (.agg #[.int .i64 k1, .int .i64 q1, .slice B1 n1 d1]) (w' := w) ?_ ⟨Below.refl _ _, rfl, hG⟩
        go_simp
      · intro listed σ w a hin hout hl hla hs hc hp hG hF
        refine Guarded.some (d := 36) (b := true) rfl rfl ((hin 6 36 rfl (hp ⟨6, .guard⟩ (by simp) rfl)).trans (hF 6 (hp ⟨6, .guard⟩ (by simp) rfl))) ?_
        refine Or.inl ⟨rfl, ?_⟩
        have e4 : a.tmps.getD 4 undef = .pointer (some ⟨W.heap.size + 1, 0, none⟩) := hout 4 (outB_spec (by kernel_rfl))
        have CC := SOF.out w hG; obtain ⟨C0, C1, C2, C3, C4, C5, C6, C7, C8, C9, C10⟩ := CC
        refine Does.val (.agg #[.slice A1 L1.length c1, .slice A2 L2.length c2]) (w' := w) ?_ ⟨Below.refl _ _, rfl, hG⟩
        go_simp
      · intro listed σ w a hin hout hl hla hs hc hp hG hF
        refine Guarded.some (d := 36) (b := true) rfl rfl ((hin 6 36 rfl (hp ⟨6, .guard⟩ (by simp) rfl)).trans (hF 6 (hp ⟨6, .guard⟩ (by simp) rfl))) ?_
        refine Or.inl ⟨rfl, ?_⟩
        have e2 : a.tmps.getD 2 undef = .int .i64 at_ := hout 2 (outB_spec (by kernel_rfl))
        refine Does.val (.int .i64 at_) (w' := w) ?_ ⟨Below.refl _ _, rfl, hG⟩
        simp only [Array.getD_eq_getD_getElem?] at e2
        go_simp
      · intro listed σ w a hin hout hl hla hs hc hp hG hF
        refine Guarded.some (d := 36) (b := true) rfl rfl ((hin 6 36 rfl (hp ⟨6, .guard⟩ (by simp) rfl)).trans (hF 6 (hp ⟨6, .guard⟩ (by simp) rfl))) ?_
        refine Or.inl ⟨rfl, ?_⟩
        have e37 : a.tmps.getD 37 undef = .agg #[.int .i64 k1, .int .i64 q1, .slice B1 n1 d1] := (hin 7 37 rfl (hp ⟨7, .data⟩ (by simp) rfl)).trans (hF 7 (hp ⟨7, .data⟩ (by simp) rfl))
        have e38 : a.tmps.getD 38 undef = .agg #[.slice A1 L1.length c1, .slice A2 L2.length c2] := (hin 8 38 rfl (hp ⟨8, .data⟩ (by simp) rfl)).trans (hF 8 (hp ⟨8, .data⟩ (by simp) rfl))
        have e39 : a.tmps.getD 39 undef = .int .i64 at_ := (hin 9 39 rfl (hp ⟨9, .data⟩ (by simp) rfl)).trans (hF 9 (hp ⟨9, .data⟩ (by simp) rfl))
        refine Does.call ?_ (hv_call Some_ (tree P1) k1 q1 B1 n1 d1 A1 c1 A2 c2 L1 L2 at_ x (!rh) w (D1.out.keep (Keep.of_below hG)) (DW1.out.keep (Keep.of_below (HBb.out.next hG))) (DW2.out.keep (Keep.of_below (HBb.out.next hG))) HN0.out HN9.out HX9.out HX.out V1.out) ?_
        · go_simp
        · rintro e w' ⟨rfl, hb⟩
          exact ⟨_, rfl, hb, rfl, hG.next hb⟩
      · intro listed σ w a hin hout hl hla hs hc hp hG hF
        refine Guarded.some (d := 36) (b := true) rfl rfl ((hin 6 36 rfl (hp ⟨6, .guard⟩ (by simp) rfl)).trans (hF 6 (hp ⟨6, .guard⟩ (by simp) rfl))) ?_
        refine Or.inl ⟨rfl, ?_⟩
        have e7 : a.tmps.getD 7 undef = .bool rh := hout 7 (outB_spec (by kernel_rfl))
        refine Does.val (.bool rh) (w' := w) ?_ ⟨Below.refl _ _, rfl, hG⟩
        simp only [Array.getD_eq_getD_getElem?] at e7
        go_simp
      · intro listed σ w a hin hout hl hla hs hc hp hG hF
        refine Guarded.some (d := 36) (b := true) rfl rfl ((hin 6 36 rfl (hp ⟨6, .guard⟩ (by simp) rfl)).trans (hF 6 (hp ⟨6, .guard⟩ (by simp) rfl))) ?_
        refine Or.inl ⟨rfl, ?_⟩
        have e40 : a.tmps.getD 40 undef = .bool (!rh) := (hin 10 40 rfl (hp ⟨10, .data⟩ (by simp) rfl)).trans (hF 10 (hp ⟨10, .data⟩ (by simp) rfl))
        have e41 : a.tmps.getD 41 undef = .bool rh := (hin 11 41 rfl (hp ⟨11, .data⟩ (by simp) rfl)).trans (hF 11 (hp ⟨11, .data⟩ (by simp) rfl))
        refine Does.val (.bool true) (w' := w) ?_ ⟨Below.refl _ _, rfl, hG⟩
        simp only [Array.getD_eq_getD_getElem?] at e40 e41
        go_simp
        first | done | (cases rh <;> rfl)
      · intro listed σ w a hin hout hl hla hs hc hp hG hF
        refine Guarded.none rfl ?_
        have e36 : a.tmps.getD 36 undef = .bool true := (hin 6 36 rfl (hp ⟨6, .data⟩ (by simp) rfl)).trans (hF 6 (hp ⟨6, .data⟩ (by simp) rfl))
        have e42 : a.tmps.getD 42 undef = .bool true := (hin 12 42 rfl (hp ⟨12, .data⟩ (by simp) rfl)).trans (hF 12 (hp ⟨12, .data⟩ (by simp) rfl))
        refine Does.val (.bool true) (w' := w) ?_ ⟨Below.refl _ _, rfl, hG⟩
        simp only [Array.getD_eq_getD_getElem?] at e36 e42
        go_simp
      · intro listed σ w a hin hout hl hla hs hc hp hG hF
        refine Guarded.none rfl ?_
        have e43 : a.tmps.getD 43 undef = .bool true := (hin 13 43 rfl (hp ⟨13, .data⟩ (by simp) rfl)).trans (hF 13 (hp ⟨13, .data⟩ (by simp) rfl))
        refine Does.val (.bool true) (w' := w) ?_ ⟨Below.refl _ _, rfl, hG⟩
        simp only [Array.getD_eq_getD_getElem?] at e43
        go_simp
      · intro listed σ w a hin hout hl hla hs hc hp hG hF
        refine Guarded.some (d := 44) (b := true) rfl rfl ((hin 14 44 rfl (hp ⟨14, .guard⟩ (by simp) rfl)).trans (hF 14 (hp ⟨14, .guard⟩ (by simp) rfl))) ?_
        refine Or.inl ⟨rfl, ?_⟩
        have e9 : a.tmps.getD 9 undef = .pointer (some ⟨g2b, 0, none⟩) := hout 9 (outB_spec (by kernel_rfl))
        have CC := SOF.out w hG; obtain ⟨C0, C1, C2, C3, C4, C5, C6, C7, C8, C9, C10⟩ := CC
        refine Does.val (.agg #[.int .i64 k1, .int .i64 q1, .slice B1 n1 d1]) (w' := w) ?_ ⟨Below.refl _ _, rfl, hG⟩
        go_simp
      · intro listed σ w a hin hout hl hla hs hc hp hG hF
        refine Guarded.some (d := 44) (b := true) rfl rfl ((hin 14 44 rfl (hp ⟨14, .guard⟩ (by simp) rfl)).trans (hF 14 (hp ⟨14, .guard⟩ (by simp) rfl))) ?_
        refine Or.inl ⟨rfl, ?_⟩
        have e45 : a.tmps.getD 45 undef = .agg #[.int .i64 k1, .int .i64 q1, .slice B1 n1 d1] := (hin 15 45 rfl (hp ⟨15, .data⟩ (by simp) rfl)).trans (hF 15 (hp ⟨15, .data⟩ (by simp) rfl))
        refine Does.call ?_ (PlainPost.eq T1.out (wplain_any (norm (tree P1)).size Some_ (tree P1) k1 q1 B1 n1 d1 true w (Nat.le_refl _) (D1.out.keep (Keep.of_below hG)))) ?_
        · go_simp
        · rintro e w' ⟨k, q, A, n, c, rfl, hd, hb⟩
          exact ⟨_, rfl, hb, ⟨k, q, A, n, c, rfl, hd.sub (fun _ _ _ => trivial)⟩, hG.next hb⟩
      · intro listed σ w a hin hout hl hla hs hc hp hG hF
        refine Guarded.some (d := 44) (b := true) rfl rfl ((hin 14 44 rfl (hp ⟨14, .guard⟩ (by simp) rfl)).trans (hF 14 (hp ⟨14, .guard⟩ (by simp) rfl))) ?_
        refine Or.inl ⟨rfl, ?_⟩
        have e4 : a.tmps.getD 4 undef = .pointer (some ⟨W.heap.size + 1, 0, none⟩) := hout 4 (outB_spec (by kernel_rfl))
        have CC := SOF.out w hG; obtain ⟨C0, C1, C2, C3, C4, C5, C6, C7, C8, C9, C10⟩ := CC
        refine Does.val (.agg #[.slice A1 L1.length c1, .slice A2 L2.length c2]) (w' := w) ?_ ⟨Below.refl _ _, rfl, hG⟩
        go_simp
      · intro listed σ w a hin hout hl hla hs hc hp hG hF
        refine Guarded.some (d := 44) (b := true) rfl rfl ((hin 14 44 rfl (hp ⟨14, .guard⟩ (by simp) rfl)).trans (hF 14 (hp ⟨14, .guard⟩ (by simp) rfl))) ?_
        refine Or.inl ⟨rfl, ?_⟩
        have e2 : a.tmps.getD 2 undef = .int .i64 at_ := hout 2 (outB_spec (by kernel_rfl))
        refine Does.val (.int .i64 at_) (w' := w) ?_ ⟨Below.refl _ _, rfl, hG⟩
        simp only [Array.getD_eq_getD_getElem?] at e2
        go_simp
      · intro listed σ w a hin hout hl hla hs hc hp hG hF
        refine Guarded.some (d := 44) (b := true) rfl rfl ((hin 14 44 rfl (hp ⟨14, .guard⟩ (by simp) rfl)).trans (hF 14 (hp ⟨14, .guard⟩ (by simp) rfl))) ?_
        refine Or.inl ⟨rfl, ?_⟩
        have e46 := hin 16 46 rfl (hp ⟨16, .data⟩ (by simp) rfl)
        obtain ⟨km16, qm16, Am16, nm16, cm16, ev16, hd16⟩ := hF 16 (hp ⟨16, .data⟩ (by simp) rfl)
        rw [ev16] at e46
        have e47 : a.tmps.getD 47 undef = .agg #[.slice A1 L1.length c1, .slice A2 L2.length c2] := (hin 17 47 rfl (hp ⟨17, .data⟩ (by simp) rfl)).trans (hF 17 (hp ⟨17, .data⟩ (by simp) rfl))
        have e48 : a.tmps.getD 48 undef = .int .i64 at_ := (hin 18 48 rfl (hp ⟨18, .data⟩ (by simp) rfl)).trans (hF 18 (hp ⟨18, .data⟩ (by simp) rfl))
        refine Does.call ?_ (hv_call Some_ (tree P0) km16 qm16 Am16 nm16 cm16 A1 c1 A2 c2 L1 L2 at_ x rh w hd16 (DW1.out.keep (Keep.of_below (HBb.out.next hG))) (DW2.out.keep (Keep.of_below (HBb.out.next hG))) HN0.out HN9.out HX9.out HX.out V0.out) ?_
        · go_simp
        · rintro e w' ⟨rfl, hb⟩
          exact ⟨_, rfl, hb, rfl, hG.next hb⟩
      · intro listed σ w a hin hout hl hla hs hc hp hG hF
        refine Guarded.some (d := 44) (b := true) rfl rfl ((hin 14 44 rfl (hp ⟨14, .guard⟩ (by simp) rfl)).trans (hF 14 (hp ⟨14, .guard⟩ (by simp) rfl))) ?_
        refine Or.inl ⟨rfl, ?_⟩
        have e7 : a.tmps.getD 7 undef = .bool rh := hout 7 (outB_spec (by kernel_rfl))
        refine Does.val (.bool rh) (w' := w) ?_ ⟨Below.refl _ _, rfl, hG⟩
        simp only [Array.getD_eq_getD_getElem?] at e7
        go_simp
      · intro listed σ w a hin hout hl hla hs hc hp hG hF
        refine Guarded.some (d := 44) (b := true) rfl rfl ((hin 14 44 rfl (hp ⟨14, .guard⟩ (by simp) rfl)).trans (hF 14 (hp ⟨14, .guard⟩ (by simp) rfl))) ?_
        refine Or.inl ⟨rfl, ?_⟩
        have e49 : a.tmps.getD 49 undef = .bool rh := (hin 19 49 rfl (hp ⟨19, .data⟩ (by simp) rfl)).trans (hF 19 (hp ⟨19, .data⟩ (by simp) rfl))
        have e50 : a.tmps.getD 50 undef = .bool rh := (hin 20 50 rfl (hp ⟨20, .data⟩ (by simp) rfl)).trans (hF 20 (hp ⟨20, .data⟩ (by simp) rfl))
        refine Does.val (.bool true) (w' := w) ?_ ⟨Below.refl _ _, rfl, hG⟩
        simp only [Array.getD_eq_getD_getElem?] at e49 e50
        go_simp
      · intro listed σ w a hin hout hl hla hs hc hp hG hF
        refine Guarded.none rfl ?_
        have e44 : a.tmps.getD 44 undef = .bool true := (hin 14 44 rfl (hp ⟨14, .data⟩ (by simp) rfl)).trans (hF 14 (hp ⟨14, .data⟩ (by simp) rfl))
        have e51 : a.tmps.getD 51 undef = .bool true := (hin 21 51 rfl (hp ⟨21, .data⟩ (by simp) rfl)).trans (hF 21 (hp ⟨21, .data⟩ (by simp) rfl))
        refine Does.val (.bool true) (w' := w) ?_ ⟨Below.refl _ _, rfl, hG⟩
        simp only [Array.getD_eq_getD_getElem?] at e44 e51
        go_simp
      · intro listed σ w a hin hout hl hla hs hc hp hG hF
        refine Guarded.none rfl ?_
        have e52 : a.tmps.getD 52 undef = .bool true := (hin 22 52 rfl (hp ⟨22, .data⟩ (by simp) rfl)).trans (hF 22 (hp ⟨22, .data⟩ (by simp) rfl))
        refine Does.val (.bool true) (w' := w) ?_ ⟨Below.refl _ _, rfl, hG⟩
        simp only [Array.getD_eq_getD_getElem?] at e52
        go_simp
      · intro listed σ w a hin hout hl hla hs hc hp hG hF
        refine Guarded.some (d := 53) (b := true) rfl rfl ((hin 23 53 rfl (hp ⟨23, .guard⟩ (by simp) rfl)).trans (hF 23 (hp ⟨23, .guard⟩ (by simp) rfl))) ?_
        refine Or.inl ⟨rfl, ?_⟩
        have e8 : a.tmps.getD 8 undef = .pointer (some ⟨g1b, 0, none⟩) := hout 8 (outB_spec (by kernel_rfl))
        have CC := SOF.out w hG; obtain ⟨C0, C1, C2, C3, C4, C5, C6, C7, C8, C9, C10⟩ := CC
        refine Does.val (.agg #[.int .i64 k0, .int .i64 q0, .slice A0 n0 c0]) (w' := w) ?_ ⟨Below.refl _ _, rfl, hG⟩
        go_simp
      · intro listed σ w a hin hout hl hla hs hc hp hG hF
        refine Guarded.some (d := 53) (b := true) rfl rfl ((hin 23 53 rfl (hp ⟨23, .guard⟩ (by simp) rfl)).trans (hF 23 (hp ⟨23, .guard⟩ (by simp) rfl))) ?_
        refine Or.inl ⟨rfl, ?_⟩
        have e54 : a.tmps.getD 54 undef = .agg #[.int .i64 k0, .int .i64 q0, .slice A0 n0 c0] := (hin 24 54 rfl (hp ⟨24, .data⟩ (by simp) rfl)).trans (hF 24 (hp ⟨24, .data⟩ (by simp) rfl))
        refine Does.call ?_ (PlainPost.eq T0.out (wplain_any (norm (tree P0)).size Some_ (tree P0) k0 q0 A0 n0 c0 false w (Nat.le_refl _) (D0.out.keep (Keep.of_below hG)))) ?_
        · go_simp
        · rintro e w' ⟨k, q, A, n, c, rfl, hd, hb⟩
          exact ⟨_, rfl, hb, ⟨k, q, A, n, c, rfl, hd.sub (fun _ _ _ => trivial)⟩, hG.next hb⟩
      · intro listed σ w a hin hout hl hla hs hc hp hG hF
        refine Guarded.some (d := 53) (b := true) rfl rfl ((hin 23 53 rfl (hp ⟨23, .guard⟩ (by simp) rfl)).trans (hF 23 (hp ⟨23, .guard⟩ (by simp) rfl))) ?_
        refine Or.inl ⟨rfl, ?_⟩
        have e8 : a.tmps.getD 8 undef = .pointer (some ⟨g1b, 0, none⟩) := hout 8 (outB_spec (by kernel_rfl))
        have CC := SOF.out w hG; obtain ⟨C0, C1, C2, C3, C4, C5, C6, C7, C8, C9, C10⟩ := CC
        refine Does.val (.agg #[.int .i64 k0, .int .i64 q0, .slice A0 n0 c0]) (w' := w) ?_ ⟨Below.refl _ _, rfl, hG⟩
        go_simp
      · intro listed σ w a hin hout hl hla hs hc hp hG hF
        refine Guarded.some (d := 53) (b := true) rfl rfl ((hin 23 53 rfl (hp ⟨23, .guard⟩ (by simp) rfl)).trans (hF 23 (hp ⟨23, .guard⟩ (by simp) rfl))) ?_
        refine Or.inl ⟨rfl, ?_⟩
        have e55 := hin 25 55 rfl (hp ⟨25, .data⟩ (by simp) rfl)
        obtain ⟨km25, qm25, Am25, nm25, cm25, ev25, hd25⟩ := hF 25 (hp ⟨25, .data⟩ (by simp) rfl)
        rw [ev25] at e55
        have e56 : a.tmps.getD 56 undef = .agg #[.int .i64 k0, .int .i64 q0, .slice A0 n0 c0] := (hin 26 56 rfl (hp ⟨26, .data⟩ (by simp) rfl)).trans (hF 26 (hp ⟨26, .data⟩ (by simp) rfl))
        refine Does.call ?_ (wsame_any (norm (tree P0)).size Some_ Some_ (tree P0) (tree P0) km25 qm25 Am25 nm25 cm25 k0 q0 A0 n0 c0 w (Nat.le_refl _) hd25 (D0.out.keep (Keep.of_below hG))) ?_
        · go_simp
        · rintro e w' ⟨rfl, hb⟩
          exact ⟨_, rfl, hb, (congrArg Value.bool (decide_eq_true rfl)), hG.next hb⟩
      · intro listed σ w a hin hout hl hla hs hc hp hG hF
        refine Guarded.none rfl ?_
        have e53 : a.tmps.getD 53 undef = .bool true := (hin 23 53 rfl (hp ⟨23, .data⟩ (by simp) rfl)).trans (hF 23 (hp ⟨23, .data⟩ (by simp) rfl))
        have e57 : a.tmps.getD 57 undef = .bool true := (hin 27 57 rfl (hp ⟨27, .data⟩ (by simp) rfl)).trans (hF 27 (hp ⟨27, .data⟩ (by simp) rfl))
        refine Does.val (.bool true) (w' := w) ?_ ⟨Below.refl _ _, rfl, hG⟩
        simp only [Array.getD_eq_getD_getElem?] at e53 e57
        go_simp
      · intro listed σ w a hin hout hl hla hs hc hp hG hF
        refine Guarded.none rfl ?_
        have e58 : a.tmps.getD 58 undef = .bool true := (hin 28 58 rfl (hp ⟨28, .data⟩ (by simp) rfl)).trans (hF 28 (hp ⟨28, .data⟩ (by simp) rfl))
        refine Does.val (.bool true) (w' := w) ?_ ⟨Below.refl _ _, rfl, hG⟩
        simp only [Array.getD_eq_getD_getElem?] at e58
        go_simp
      · intro listed σ w a hin hout hl hla hs hc hp hG hF
        refine Guarded.some (d := 59) (b := true) rfl rfl ((hin 29 59 rfl (hp ⟨29, .guard⟩ (by simp) rfl)).trans (hF 29 (hp ⟨29, .guard⟩ (by simp) rfl))) ?_
        refine Or.inl ⟨rfl, ?_⟩
        have e3 : a.tmps.getD 3 undef = .pointer (some ⟨W.heap.size, 0, none⟩) := hout 3 (outB_spec (by kernel_rfl))
        have CC := SOF.out w hG; obtain ⟨C0, C1, C2, C3, C4, C5, C6, C7, C8, C9, C10⟩ := CC
        refine Does.val (.agg #[.int .i64 kd, .int .i64 pr, .slice A n c]) (w' := w) ?_ ⟨Below.refl _ _, rfl, hG⟩
        go_simp
      · intro listed σ w a hin hout hl hla hs hc hp hG hF
        refine Guarded.some (d := 59) (b := true) rfl rfl ((hin 29 59 rfl (hp ⟨29, .guard⟩ (by simp) rfl)).trans (hF 29 (hp ⟨29, .guard⟩ (by simp) rfl))) ?_
        refine Or.inl ⟨rfl, ?_⟩
        have e60 : a.tmps.getD 60 undef = .agg #[.int .i64 kd, .int .i64 pr, .slice A n c] := (hin 30 60 rfl (hp ⟨30, .data⟩ (by simp) rfl)).trans (hF 30 (hp ⟨30, .data⟩ (by simp) rfl))
        refine Does.call ?_ (PlainPost.eq Qtrue.out (wplain_any (norm tf).size Some_ tf kd pr A n c true w (Nat.le_refl _) ((HD.out.keep (Keep.of_below (HBb.out.next hG))).sub (fun _ _ _ => trivial)))) ?_
        · go_simp
        · rintro e w' ⟨k, q, A, n, c, rfl, hd, hb⟩
          exact ⟨_, rfl, hb, ⟨k, q, A, n, c, rfl, hd.sub (fun _ _ _ => trivial)⟩, hG.next hb⟩
      · intro listed σ w a hin hout hl hla hs hc hp hG hF
        refine Guarded.some (d := 59) (b := true) rfl rfl ((hin 29 59 rfl (hp ⟨29, .guard⟩ (by simp) rfl)).trans (hF 29 (hp ⟨29, .guard⟩ (by simp) rfl))) ?_
        refine Or.inl ⟨rfl, ?_⟩
        have e61 := hin 31 61 rfl (hp ⟨31, .data⟩ (by simp) rfl)
        obtain ⟨km31, qm31, Am31, nm31, cm31, ev31, hd31⟩ := hF 31 (hp ⟨31, .data⟩ (by simp) rfl)
        rw [ev31] at e61
        refine Does.call ?_ (PlainPost.eq T1.out (wplain_any (norm (tree P1)).size Some_ (tree P1) km31 qm31 Am31 nm31 cm31 true w (Nat.le_refl _) hd31)) ?_
        · go_simp
        · rintro e w' ⟨k, q, A, n, c, rfl, hd, hb⟩
          exact ⟨_, rfl, hb, ⟨k, q, A, n, c, rfl, hd.sub (fun _ _ _ => trivial)⟩, hG.next hb⟩
      · intro listed σ w a hin hout hl hla hs hc hp hG hF
        refine Guarded.some (d := 59) (b := true) rfl rfl ((hin 29 59 rfl (hp ⟨29, .guard⟩ (by simp) rfl)).trans (hF 29 (hp ⟨29, .guard⟩ (by simp) rfl))) ?_
        refine Or.inl ⟨rfl, ?_⟩
        have e8 : a.tmps.getD 8 undef = .pointer (some ⟨g1b, 0, none⟩) := hout 8 (outB_spec (by kernel_rfl))
        have CC := SOF.out w hG; obtain ⟨C0, C1, C2, C3, C4, C5, C6, C7, C8, C9, C10⟩ := CC
        refine Does.val (.agg #[.int .i64 k0, .int .i64 q0, .slice A0 n0 c0]) (w' := w) ?_ ⟨Below.refl _ _, rfl, hG⟩
        go_simp
      · intro listed σ w a hin hout hl hla hs hc hp hG hF
        refine Guarded.some (d := 59) (b := true) rfl rfl ((hin 29 59 rfl (hp ⟨29, .guard⟩ (by simp) rfl)).trans (hF 29 (hp ⟨29, .guard⟩ (by simp) rfl))) ?_
        refine Or.inl ⟨rfl, ?_⟩
        have e62 := hin 32 62 rfl (hp ⟨32, .data⟩ (by simp) rfl)
        obtain ⟨km32, qm32, Am32, nm32, cm32, ev32, hd32⟩ := hF 32 (hp ⟨32, .data⟩ (by simp) rfl)
        rw [ev32] at e62
        have e63 : a.tmps.getD 63 undef = .agg #[.int .i64 k0, .int .i64 q0, .slice A0 n0 c0] := (hin 33 63 rfl (hp ⟨33, .data⟩ (by simp) rfl)).trans (hF 33 (hp ⟨33, .data⟩ (by simp) rfl))
        refine Does.call ?_ (wsame_any (norm (tree P0)).size Some_ Some_ (tree P0) (tree P0) km32 qm32 Am32 nm32 cm32 k0 q0 A0 n0 c0 w (Nat.le_refl _) hd32 (D0.out.keep (Keep.of_below hG))) ?_
        · go_simp
        · rintro e w' ⟨rfl, hb⟩
          exact ⟨_, rfl, hb, (congrArg Value.bool (decide_eq_true rfl)), hG.next hb⟩
      · intro listed σ w a hin hout hl hla hs hc hp hG hF
        refine Guarded.none rfl ?_
        have e59 : a.tmps.getD 59 undef = .bool true := (hin 29 59 rfl (hp ⟨29, .data⟩ (by simp) rfl)).trans (hF 29 (hp ⟨29, .data⟩ (by simp) rfl))
        have e64 : a.tmps.getD 64 undef = .bool true := (hin 34 64 rfl (hp ⟨34, .data⟩ (by simp) rfl)).trans (hF 34 (hp ⟨34, .data⟩ (by simp) rfl))
        refine Does.val (.bool true) (w' := w) ?_ ⟨Below.refl _ _, rfl, hG⟩
        simp only [Array.getD_eq_getD_getElem?] at e59 e64
        go_simp
      · intro listed σ w a hin hout hl hla hs hc hp hG hF
        refine Guarded.none rfl ?_
        have e65 : a.tmps.getD 65 undef = .bool true := (hin 35 65 rfl (hp ⟨35, .data⟩ (by simp) rfl)).trans (hF 35 (hp ⟨35, .data⟩ (by simp) rfl))
        refine Does.val (.bool true) (w' := w) ?_ ⟨Below.refl _ _, rfl, hG⟩
        simp only [Array.getD_eq_getD_getElem?] at e65
        go_simp
      · intro listed σ w a hin hout hl hla hs hc hp hG hF
        refine Guarded.some (d := 66) (b := true) rfl rfl ((hin 36 66 rfl (hp ⟨36, .guard⟩ (by simp) rfl)).trans (hF 36 (hp ⟨36, .guard⟩ (by simp) rfl))) ?_
        refine Or.inl ⟨rfl, ?_⟩
        have e8 : a.tmps.getD 8 undef = .pointer (some ⟨g1b, 0, none⟩) := hout 8 (outB_spec (by kernel_rfl))
        have CC := SOF.out w hG; obtain ⟨C0, C1, C2, C3, C4, C5, C6, C7, C8, C9, C10⟩ := CC
        refine Does.val (.agg #[.int .i64 k0, .int .i64 q0, .slice A0 n0 c0]) (w' := w) ?_ ⟨Below.refl _ _, rfl, hG⟩
        go_simp
      · intro listed σ w a hin hout hl hla hs hc hp hG hF
        refine Guarded.some (d := 66) (b := true) rfl rfl ((hin 36 66 rfl (hp ⟨36, .guard⟩ (by simp) rfl)).trans (hF 36 (hp ⟨36, .guard⟩ (by simp) rfl))) ?_
        refine Or.inl ⟨rfl, ?_⟩
        have e67 : a.tmps.getD 67 undef = .agg #[.int .i64 k0, .int .i64 q0, .slice A0 n0 c0] := (hin 37 67 rfl (hp ⟨37, .data⟩ (by simp) rfl)).trans (hF 37 (hp ⟨37, .data⟩ (by simp) rfl))
        refine Does.call ?_ (lplain_any P0.size Some_ P0 k0 q0 A0 n0 c0 w (Nat.le_refl _) WP0.out (D0.out.keep (Keep.of_below hG))) ?_
        · go_simp
        · rintro e w' ⟨rfl, hb⟩
          exact ⟨_, rfl, hb, (congrArg Value.bool FP0.out), hG.next hb⟩
      · intro listed σ w a hin hout hl hla hs hc hp hG hF
        refine Guarded.none rfl ?_
        have e66 : a.tmps.getD 66 undef = .bool true := (hin 36 66 rfl (hp ⟨36, .data⟩ (by simp) rfl)).trans (hF 36 (hp ⟨36, .data⟩ (by simp) rfl))
        have e68 : a.tmps.getD 68 undef = .bool true := (hin 38 68 rfl (hp ⟨38, .data⟩ (by simp) rfl)).trans (hF 38 (hp ⟨38, .data⟩ (by simp) rfl))
        refine Does.val (.bool true) (w' := w) ?_ ⟨Below.refl _ _, rfl, hG⟩
        simp only [Array.getD_eq_getD_getElem?] at e66 e68
        go_simp
      · intro listed σ w a hin hout hl hla hs hc hp hG hF
        refine Guarded.none rfl ?_
        have e69 : a.tmps.getD 69 undef = .bool true := (hin 39 69 rfl (hp ⟨39, .data⟩ (by simp) rfl)).trans (hF 39 (hp ⟨39, .data⟩ (by simp) rfl))
        refine Does.val (.bool true) (w' := w) ?_ ⟨Below.refl _ _, rfl, hG⟩
        simp only [Array.getD_eq_getD_getElem?] at e69
        go_simp
      · intro listed σ w a hin hout hl hla hs hc hp hG hF
        refine Guarded.some (d := 70) (b := true) rfl rfl ((hin 40 70 rfl (hp ⟨40, .guard⟩ (by simp) rfl)).trans (hF 40 (hp ⟨40, .guard⟩ (by simp) rfl))) ?_
        refine Or.inl ⟨rfl, ?_⟩
        have e9 : a.tmps.getD 9 undef = .pointer (some ⟨g2b, 0, none⟩) := hout 9 (outB_spec (by kernel_rfl))
        have CC := SOF.out w hG; obtain ⟨C0, C1, C2, C3, C4, C5, C6, C7, C8, C9, C10⟩ := CC
        refine Does.val (.agg #[.int .i64 k1, .int .i64 q1, .slice B1 n1 d1]) (w' := w) ?_ ⟨Below.refl _ _, rfl, hG⟩
        go_simp
      · intro listed σ w a hin hout hl hla hs hc hp hG hF
        refine Guarded.some (d := 70) (b := true) rfl rfl ((hin 40 70 rfl (hp ⟨40, .guard⟩ (by simp) rfl)).trans (hF 40 (hp ⟨40, .guard⟩ (by simp) rfl))) ?_
        refine Or.inl ⟨rfl, ?_⟩
        have e71 : a.tmps.getD 71 undef = .agg #[.int .i64 k1, .int .i64 q1, .slice B1 n1 d1] := (hin 41 71 rfl (hp ⟨41, .data⟩ (by simp) rfl)).trans (hF 41 (hp ⟨41, .data⟩ (by simp) rfl))
        refine Does.call ?_ (lplain_any P1.size Some_ P1 k1 q1 B1 n1 d1 w (Nat.le_refl _) WP1.out (D1.out.keep (Keep.of_below hG))) ?_
        · go_simp
        · rintro e w' ⟨rfl, hb⟩
          exact ⟨_, rfl, hb, (congrArg Value.bool FP1.out), hG.next hb⟩
      · intro listed σ w a hin hout hl hla hs hc hp hG hF
        refine Guarded.none rfl ?_
        have e70 : a.tmps.getD 70 undef = .bool true := (hin 40 70 rfl (hp ⟨40, .data⟩ (by simp) rfl)).trans (hF 40 (hp ⟨40, .data⟩ (by simp) rfl))
        have e72 : a.tmps.getD 72 undef = .bool true := (hin 42 72 rfl (hp ⟨42, .data⟩ (by simp) rfl)).trans (hF 42 (hp ⟨42, .data⟩ (by simp) rfl))
        refine Does.val (.bool true) (w' := w) ?_ ⟨Below.refl _ _, rfl, hG⟩
        simp only [Array.getD_eq_getD_getElem?] at e70 e72
        go_simp
    · intro o ho
      injection ho with ho; subst ho
      intro listed σ w a hall hin hout hG hF
      refine Guarded.none rfl ?_
      have e73 : a.tmps.getD 73 undef = .bool true := (hin 43 73 rfl (by decide)).trans (hF 43 (by decide))
      refine Does.val (.bool true) (w' := w) (by simp only [Array.getD_eq_getD_getElem?] at *; go_simp) ?_
      rw [show fin _ σ (.bool true) _ = (Act.put (Act.put (Act.put (Act.put (Act.put (Act.put (Act.put (Act.put (Act.put (Act.put (Act.put (Act.put (Act.put (Act.put (Act.put (Act.put (Act.put (Act.put (Act.put (Act.put (Act.put (Act.put (Act.put (Act.put (Act.put (Act.put (Act.put (Act.put (Act.put (Act.put (Act.put (Act.put (Act.put (Act.put (Act.put (Act.put (Act.put (Act.put (Act.put (Act.put (Act.put (Act.put (Act.put (Act.put (Act.put _ (some 30) (σ 0)) (some 31) (σ 1)) (some 32) (σ 2)) (some 33) (σ 3)) (some 34) (σ 4)) (some 35) (σ 5)) (some 36) (σ 6)) (some 37) (σ 7)) (some 38) (σ 8)) (some 39) (σ 9)) (some 40) (σ 10)) (some 41) (σ 11)) (some 42) (σ 12)) (some 43) (σ 13)) (some 44) (σ 14)) (some 45) (σ 15)) (some 46) (σ 16)) (some 47) (σ 17)) (some 48) (σ 18)) (some 49) (σ 19)) (some 50) (σ 20)) (some 51) (σ 21)) (some 52) (σ 22)) (some 53) (σ 23)) (some 54) (σ 24)) (some 55) (σ 25)) (some 56) (σ 26)) (some 57) (σ 27)) (some 58) (σ 28)) (some 59) (σ 29)) (some 60) (σ 30)) (some 61) (σ 31)) (some 62) (σ 32)) (some 63) (σ 33)) (some 64) (σ 34)) (some 65) (σ 35)) (some 66) (σ 36)) (some 67) (σ 37)) (some 68) (σ 38)) (some 69) (σ 39)) (some 70) (σ 40)) (some 71) (σ 41)) (some 72) (σ 42)) (some 73) (σ 43)) (some 6) (.bool true)) from (fin_all hall).trans rfl]
      simp only [Act.put, List.setIfInBounds_toArray, List.set_cons_zero, List.set_cons_succ]
      have HB9 := hide (HBb.out.next hG)
      generalize σ 0 = tt0 at *; generalize σ 1 = tt1 at *; generalize σ 2 = tt2 at *; generalize σ 3 = tt3 at *; generalize σ 4 = tt4 at *; generalize σ 5 = tt5 at *; generalize σ 6 = tt6 at *; generalize σ 7 = tt7 at *; generalize σ 8 = tt8 at *; generalize σ 9 = tt9 at *; generalize σ 10 = tt10 at *; generalize σ 11 = tt11 at *; generalize σ 12 = tt12 at *; generalize σ 13 = tt13 at *; generalize σ 14 = tt14 at *; generalize σ 15 = tt15 at *; generalize σ 16 = tt16 at *; generalize σ 17 = tt17 at *; generalize σ 18 = tt18 at *; generalize σ 19 = tt19 at *; generalize σ 20 = tt20 at *; generalize σ 21 = tt21 at *; generalize σ 22 = tt22 at *; generalize σ 23 = tt23 at *; generalize σ 24 = tt24 at *; generalize σ 25 = tt25 at *; generalize σ 26 = tt26 at *; generalize σ 27 = tt27 at *; generalize σ 28 = tt28 at *; generalize σ 29 = tt29 at *; generalize σ 30 = tt30 at *; generalize σ 31 = tt31 at *; generalize σ 32 = tt32 at *; generalize σ 33 = tt33 at *; generalize σ 34 = tt34 at *; generalize σ 35 = tt35 at *; generalize σ 36 = tt36 at *; generalize σ 37 = tt37 at *; generalize σ 38 = tt38 at *; generalize σ 39 = tt39 at *; generalize σ 40 = tt40 at *; generalize σ 41 = tt41 at *; generalize σ 42 = tt42 at *; generalize σ 43 = tt43 at *
      clear hF hG hall hin hout SOF
      go_wp2_with fail
      go_ret
      exact HY.out _ HB9.out

theorem wordTurns_walk (kd pr : Int) (A : Option Addr) (n c : Nat) (t : LT) (A1 : Option Addr) (n1 c1 : Nat) (L1 : List (List Bool)) (A2 : Option Addr) (n2 c2 : Nat) (L2 : List (List Bool)) (at_ : Int) (W : World)
    (hd : DIn Some_ W t (c3 kd pr A n c)) (h1 : LsIn Some_ W A1 n1 L1) (h2 : LsIn Some_ W A2 n2 L2) (_ : n1 ≤ c1) (_ : c1 ≤ 9223372036854775807) (_ : A1 = none → n1 = 0 ∧ c1 = 0) (_ : n2 ≤ c2) (_ : c2 ≤ 9223372036854775807) (_ : A2 = none → n2 = 0 ∧ c2 = 0)
    (hn : n1 ≤ 4611686018427387903) (hm : n2 ≤ 4611686018427387903) (_ : -9223372036854775808 ≤ at_) (hx9 : at_ ≤ 9223372036854775807) :
    Calls Try.prog 5 #[.agg #[.int .i64 kd, .int .i64 pr, .slice A n c], .agg #[.slice A1 n1 c1, .slice A2 n2 c2], .int .i64 at_] W (WYes W) := by
  obtain rfl := h1.1
  obtain rfl := h2.1
  exact wordTurns_any kd pr A n c t A1 c1 L1 A2 c2 L2 at_ W hd h1 h2 hn hm hx9
end Go.Proofs.Ytljocjjdfgpbaaa
