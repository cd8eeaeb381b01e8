/- Texts of one seat, put together: WordLt. -/
import Derived.Test.YtljocjjdfgpbaaaB32
import Derived.Test.YtljocjjdfgpbaaaB20
set_option linter.unusedVariables false
/- plumblineref15.Same: of letters. -/
namespace Go.Proofs.Ytljocjjdfgpbaaa
open Go.RowKit
open Wo

theorem take_step {α : Type} {L M : List α} {q : Nat} {x : α} (hx : L[q]? = some x) (hy : M[q]? = some x) (h : L.take q = M.take q) : L.take (q + 1) = M.take (q + 1) := by
  rw [List.take_add_one, List.take_add_one, hx, hy, h]
theorem take_not {α : Type} {L M : List α} {q : Nat} {x y : α} (hx : L[q]? = some x) (hy : M[q]? = some y) (h : x ≠ y) : L ≠ M := fun e => by
  subst e; rw [hx] at hy; injection hy with hy; exact h hy
set_option maxRecDepth 100000 in
set_option maxHeartbeats 16000000 in
theorem rlsame_any (S S' : Nat → Prop) (A A' : Option Addr) (n c n' c' : Nat) (L M : List (List Bool)) (w0 : World) (hn9 : n ≤ 100000) (hn9' : n' ≤ 100000) (h1 : LsIn S w0 A n L) (h2 : LsIn S' w0 A' n' M) (h9 : ∀ l ∈ L, l.length ≤ 1000000) :
    Calls Try.prog 13 #[.slice A n c, .slice A' n' c'] w0 (SamePost (decide (L = M)) w0) := by
  have HT := hide (show ∀ W, Below w0.heap.size w0 W → L = M → SamePost (decide (L = M)) w0 (.returned (.bool true)) W from fun W h e => ⟨by rw [decide_eq_true e], h⟩)
  have HF := hide (show ∀ W, Below w0.heap.size w0 W → L ≠ M → SamePost (decide (L = M)) w0 (.returned (.bool false)) W from fun W h e => ⟨by rw [decide_eq_false e], h⟩)
  have HS0 := hide (show Below w0.heap.size w0 w0 from Below.refl _ _)
  by_cases hn : n = n'
  case neg =>
    have hne : L ≠ M := fun e => hn (by rw [← h1.1, ← h2.1, e])
    have HP := hide (HF.out _ HS0.out hne)
    have g0 : ((n : Int) != (n' : Int)) = true := by simp; omega
    clear h1 h2 hne HT HF hn
    go_enter Try.func13, Try.ntmps13
    go_wp2_with fail
    go_ret
    exact HP.out
  subst hn
  have g0 : ((n : Int) != (n : Int)) = false := by simp
  have H1 := hide h1
  have H2 := hide h2
  have H9 := hide h9
  have HL1 := hide h1.1
  have HL2 := hide h2.1
  clear h1 h2 h9
  go_enter Try.func13, Try.ntmps13
  go_wp2_with fail
  go_loopw [5] (fun i wr => ∃ q : Nat, q ≤ n ∧ i = .int .i64 q ∧ Hid (L.take q = M.take q) ∧ Hid (Below w0.heap.size w0 wr)) (fun i _ => n - (intOf i).toNat)
  case atStart => exact ⟨0, Nat.zero_le _, rfl, hide rfl, HS0⟩
  case round =>
    obtain ⟨q, hq, rfl, HE, HR⟩ := hrel
    by_cases hqn : q < n
    case neg =>
      obtain rfl : q = n := by omega
      have HP := hide (HT.out wr HR.out (by have := HE.out; rw [List.take_of_length_le (by rw [HL1.out]; omega), List.take_of_length_le (by rw [HL2.out]; omega)] at this; exact this))
      go_wp2_with fail
      go_ret
      exact HP.out
    obtain ⟨be, oe, Al, cl, l, hA5, hlt1, hl, d0, hcl1, hcl2, hbl⟩ := (H1.out.keep (Keep.of_below HR.out)).at_ hqn
    obtain ⟨bf, of, Am, cm, m, hA6, hlt2, hm, d1, hcm1, hcm2, hbm⟩ := (H2.out.keep (Keep.of_below HR.out)).at_ hqn
    subst hA5 hA6
    have hl9 := H9.out l (List.mem_of_getElem? hl)
    have HX := hide hl
    have HY := hide hm
    have HLT1 := hide hlt1
    have HLT2 := hide hlt2
    have HBL := hide hbl
    have HBM := hide hbm
    obtain ⟨ll, hll⟩ : ∃ ll, ll = l.length := ⟨_, rfl⟩
    obtain ⟨mm, hmm⟩ : ∃ mm, mm = m.length := ⟨_, rfl⟩
    rw [← hll] at d0 HBL hl9
    rw [← hmm] at d1 HBM
    have D0 := hide d0
    have D1 := hide d1
    clear hl hm hlt1 hlt2 hbl hbm d0 d1
    have SOF := hide (fun w (h : Below wr.heap.size wr w) => (⟨(below_cell h HLT1.out).trans D0.out, (below_cell h HLT2.out).trans D1.out⟩ : _ ∧ _))
    by_cases hlm : ll = mm
    case neg =>
      have HP := hide (fun W (h : Below w0.heap.size w0 W) => HF.out W h (take_not HX.out HY.out (fun e => hlm (by rw [hll, hmm, e]))))
      have g1 : ((ll : Int) != (mm : Int)) = true := by simp; omega
      clear hll hmm hlm
      go_upto_region 6 with fail
      refine wp_drawn (by kernel_rfl) (by kernel_rfl) (by kernel_rfl) (fun w w' => Below w.heap.size w w') (fun j v w => match j with | 0 => v = .slice (some ⟨be, oe, none⟩) n c | 1 => v = .int .i64 (q : Int) | 2 => v = .pointer (some ⟨be, oe + q, none⟩) | 3 => v = .slice Al ll cl | 4 => v = .int .i64 ll | 5 => v = .slice (some ⟨bf, of, none⟩) n c' | 6 => v = .int .i64 (q : Int) | 7 => v = .pointer (some ⟨bf, of + q, none⟩) | 8 => v = .slice Am mm cm | 9 => v = .int .i64 mm | 10 => v = .bool true | _ => True) (fun _ _ w => Below wr.heap.size wr w) ?_ (fun _ => bl_drewN wr 1) ?_ ?_
      · intro j v w w' hT h
        match j, h with
        | 0, h => exact h
        | 1, h => exact h
        | 2, h => exact h
        | 3, h => exact h
        | 4, h => exact h
        | 5, h => exact h
        | 6, h => exact h
        | 7, h => exact h
        | 8, h => exact h
        | 9, h => exact h
        | 10, h => exact h
        | j + 11, h => trivial
      · refine ⟨?_, ?_, ?_, ?_, ?_, ?_, ?_, ?_, ?_, ?_, ?_, trivial⟩
        · intro listed σ w a hin hout hl hc hp hG hF
          refine Guarded.none rfl ?_
          have e0 : a.tmps.getD 0 undef = .slice (some ⟨be, oe, none⟩) n c := hout 0 (outB_spec (by kernel_rfl))
          refine Does.val (.slice (some ⟨be, oe, none⟩) n c) (w' := w) ?_ ⟨Below.refl _ _, rfl, hG⟩
          simp only [Array.getD_eq_getD_getElem?] at e0
          go_simp
        · intro listed σ w a hin hout hl hc hp hG hF
          refine Guarded.none rfl ?_
          have e5 : a.tmps.getD 5 undef = .int .i64 (q : Int) := hout 5 (outB_spec (by kernel_rfl))
          refine Does.val (.int .i64 (q : Int)) (w' := w) ?_ ⟨Below.refl _ _, rfl, hG⟩
          simp only [Array.getD_eq_getD_getElem?] at e5
          go_simp
        · intro listed σ w a hin hout hl hc hp hG hF
          refine Guarded.none rfl ?_
          have e18 : a.tmps.getD 18 undef = .slice (some ⟨be, oe, none⟩) n c := (hin 0 18 rfl (hp ⟨0, .data⟩ (by simp) rfl)).trans (hF 0 (hp ⟨0, .data⟩ (by simp) rfl))
          have e19 : a.tmps.getD 19 undef = .int .i64 (q : Int) := (hin 1 19 rfl (hp ⟨1, .data⟩ (by simp) rfl)).trans (hF 1 (hp ⟨1, .data⟩ (by simp) rfl))
          refine Does.val (.pointer (some ⟨be, oe + q, none⟩)) (w' := w) ?_ ⟨Below.refl _ _, rfl, hG⟩
          simp only [Array.getD_eq_getD_getElem?] at e18 e19
          go_simp
          (try (intro hh; exfalso; omega))
        · intro listed σ w a hin hout hl hc hp hG hF
          refine Guarded.none rfl ?_
          have e20 : a.tmps.getD 20 undef = .pointer (some ⟨be, oe + q, none⟩) := (hin 2 20 rfl (hp ⟨2, .data⟩ (by simp) rfl)).trans (hF 2 (hp ⟨2, .data⟩ (by simp) rfl))
          have CC := SOF.out w hG; obtain ⟨C0, C1⟩ := CC
          refine Does.val (.slice Al ll cl) (w' := w) ?_ ⟨Below.refl _ _, rfl, hG⟩
          go_simp
        · intro listed σ w a hin hout hl hc hp hG hF
          refine Guarded.none rfl ?_
          have e21 : a.tmps.getD 21 undef = .slice Al ll cl := (hin 3 21 rfl (hp ⟨3, .data⟩ (by simp) rfl)).trans (hF 3 (hp ⟨3, .data⟩ (by simp) rfl))
          refine Does.val (.int .i64 ll) (w' := w) ?_ ⟨Below.refl _ _, rfl, hG⟩
          simp only [Array.getD_eq_getD_getElem?] at e21
          go_simp
        · intro listed σ w a hin hout hl hc hp hG hF
          refine Guarded.none rfl ?_
          have e1 : a.tmps.getD 1 undef = .slice (some ⟨bf, of, none⟩) n c' := hout 1 (outB_spec (by kernel_rfl))
          refine Does.val (.slice (some ⟨bf, of, none⟩) n c') (w' := w) ?_ ⟨Below.refl _ _, rfl, hG⟩
          simp only [Array.getD_eq_getD_getElem?] at e1
          go_simp
        · intro listed σ w a hin hout hl hc hp hG hF
          refine Guarded.none rfl ?_
          have e5 : a.tmps.getD 5 undef = .int .i64 (q : Int) := hout 5 (outB_spec (by kernel_rfl))
          refine Does.val (.int .i64 (q : Int)) (w' := w) ?_ ⟨Below.refl _ _, rfl, hG⟩
          simp only [Array.getD_eq_getD_getElem?] at e5
          go_simp
        · intro listed σ w a hin hout hl hc hp hG hF
          refine Guarded.none rfl ?_
          have e23 : a.tmps.getD 23 undef = .slice (some ⟨bf, of, none⟩) n c' := (hin 5 23 rfl (hp ⟨5, .data⟩ (by simp) rfl)).trans (hF 5 (hp ⟨5, .data⟩ (by simp) rfl))
          have e24 : a.tmps.getD 24 undef = .int .i64 (q : Int) := (hin 6 24 rfl (hp ⟨6, .data⟩ (by simp) rfl)).trans (hF 6 (hp ⟨6, .data⟩ (by simp) rfl))
          refine Does.val (.pointer (some ⟨bf, of + q, none⟩)) (w' := w) ?_ ⟨Below.refl _ _, rfl, hG⟩
          simp only [Array.getD_eq_getD_getElem?] at e23 e24
          go_simp
          (try (intro hh; exfalso; omega))
        · intro listed σ w a hin hout hl hc hp hG hF
          refine Guarded.none rfl ?_
          have e25 : a.tmps.getD 25 undef = .pointer (some ⟨bf, of + q, none⟩) := (hin 7 25 rfl (hp ⟨7, .data⟩ (by simp) rfl)).trans (hF 7 (hp ⟨7, .data⟩ (by simp) rfl))
          have CC := SOF.out w hG; obtain ⟨C0, C1⟩ := CC
          refine Does.val (.slice Am mm cm) (w' := w) ?_ ⟨Below.refl _ _, rfl, hG⟩
          go_simp
        · intro listed σ w a hin hout hl hc hp hG hF
          refine Guarded.none rfl ?_
          have e26 : a.tmps.getD 26 undef = .slice Am mm cm := (hin 8 26 rfl (hp ⟨8, .data⟩ (by simp) rfl)).trans (hF 8 (hp ⟨8, .data⟩ (by simp) rfl))
          refine Does.val (.int .i64 mm) (w' := w) ?_ ⟨Below.refl _ _, rfl, hG⟩
          simp only [Array.getD_eq_getD_getElem?] at e26
          go_simp
        · intro listed σ w a hin hout hl hc hp hG hF
          refine Guarded.none rfl ?_
          have e22 : a.tmps.getD 22 undef = .int .i64 ll := (hin 4 22 rfl (hp ⟨4, .data⟩ (by simp) rfl)).trans (hF 4 (hp ⟨4, .data⟩ (by simp) rfl))
          have e27 : a.tmps.getD 27 undef = .int .i64 mm := (hin 9 27 rfl (hp ⟨9, .data⟩ (by simp) rfl)).trans (hF 9 (hp ⟨9, .data⟩ (by simp) rfl))
          refine Does.val (.bool true) (w' := w) ?_ ⟨Below.refl _ _, rfl, hG⟩
          simp only [Array.getD_eq_getD_getElem?] at e22 e27
          go_simp
      · intro listed σ W9 hall hG hF
        rw [show mid _ σ listed _ = (Act.put (Act.put (Act.put (Act.put (Act.put (Act.put (Act.put (Act.put (Act.put (Act.put (Act.put _ (some 18) (σ 0)) (some 19) (σ 1)) (some 20) (σ 2)) (some 21) (σ 3)) (some 22) (σ 4)) (some 23) (σ 5)) (some 24) (σ 6)) (some 25) (σ 7)) (some 26) (σ 8)) (some 27) (σ 9)) (some 28) (σ 10)) from (mid_all hall).trans rfl]
        generalize σ 0 = tt0
        generalize σ 1 = tt1
        generalize σ 2 = tt2
        generalize σ 3 = tt3
        generalize σ 4 = tt4
        generalize σ 5 = tt5
        generalize σ 6 = tt6
        generalize σ 7 = tt7
        generalize σ 8 = tt8
        generalize σ 9 = tt9
        rw [show σ 10 = .bool true from hF 10 (by decide)]
        simp only [Act.put, List.setIfInBounds_toArray, List.set_cons_zero, List.set_cons_succ]
        have TG := hG
        clear hF hG hall
        clear σ
        have HB9 := hide (HR.out.next TG)
        clear TG SOF
        go_wp2_with fail
        go_ret
        exact HP.out _ HB9.out
    have HML := hide (show m.length = ll by rw [hlm, hmm])
    have HLL := hide (show l.length = ll from hll.symm)
    clear hll hmm
    subst hlm
    have g1 : ((ll : Int) != (ll : Int)) = false := by simp
    go_upto_region 6 with fail
    refine wp_drawn (by kernel_rfl) (by kernel_rfl) (by kernel_rfl) (fun w w' => Below w.heap.size w w') (fun j v w => match j with | 0 => v = .slice (some ⟨be, oe, none⟩) n c | 1 => v = .int .i64 (q : Int) | 2 => v = .pointer (some ⟨be, oe + q, none⟩) | 3 => v = .slice Al ll cl | 4 => v = .int .i64 ll | 5 => v = .slice (some ⟨bf, of, none⟩) n c' | 6 => v = .int .i64 (q : Int) | 7 => v = .pointer (some ⟨bf, of + q, none⟩) | 8 => v = .slice Am ll cm | 9 => v = .int .i64 ll | 10 => v = .bool false | _ => True) (fun _ _ w => Below wr.heap.size wr w) ?_ (fun _ => bl_drewN wr 1) ?_ ?_
    · intro j v w w' hT h
      match j, h with
      | 0, h => exact h
      | 1, h => exact h
      | 2, h => exact h
      | 3, h => exact h
      | 4, h => exact h
      | 5, h => exact h
      | 6, h => exact h
      | 7, h => exact h
      | 8, h => exact h
      | 9, h => exact h
      | 10, h => exact h
      | j + 11, h => trivial
    · refine ⟨?_, ?_, ?_, ?_, ?_, ?_, ?_, ?_, ?_, ?_, ?_, trivial⟩
      · intro listed σ w a hin hout hl hc hp hG hF
        refine Guarded.none rfl ?_
        have e0 : a.tmps.getD 0 undef = .slice (some ⟨be, oe, none⟩) n c := hout 0 (outB_spec (by kernel_rfl))
        refine Does.val (.slice (some ⟨be, oe, none⟩) n c) (w' := w) ?_ ⟨Below.refl _ _, rfl, hG⟩
        simp only [Array.getD_eq_getD_getElem?] at e0
        go_simp
      · intro listed σ w a hin hout hl hc hp hG hF
        refine Guarded.none rfl ?_
        have e5 : a.tmps.getD 5 undef = .int .i64 (q : Int) := hout 5 (outB_spec (by kernel_rfl))
        refine Does.val (.int .i64 (q : Int)) (w' := w) ?_ ⟨Below.refl _ _, rfl, hG⟩
        simp only [Array.getD_eq_getD_getElem?] at e5
        go_simp
      · intro listed σ w a hin hout hl hc hp hG hF
        refine Guarded.none rfl ?_
        have e18 : a.tmps.getD 18 undef = .slice (some ⟨be, oe, none⟩) n c := (hin 0 18 rfl (hp ⟨0, .data⟩ (by simp) rfl)).trans (hF 0 (hp ⟨0, .data⟩ (by simp) rfl))
        have e19 : a.tmps.getD 19 undef = .int .i64 (q : Int) := (hin 1 19 rfl (hp ⟨1, .data⟩ (by simp) rfl)).trans (hF 1 (hp ⟨1, .data⟩ (by simp) rfl))
        refine Does.val (.pointer (some ⟨be, oe + q, none⟩)) (w' := w) ?_ ⟨Below.refl _ _, rfl, hG⟩
        simp only [Array.getD_eq_getD_getElem?] at e18 e19
        go_simp
        (try (intro hh; exfalso; omega))
      · intro listed σ w a hin hout hl hc hp hG hF
        refine Guarded.none rfl ?_
        have e20 : a.tmps.getD 20 undef = .pointer (some ⟨be, oe + q, none⟩) := (hin 2 20 rfl (hp ⟨2, .data⟩ (by simp) rfl)).trans (hF 2 (hp ⟨2, .data⟩ (by simp) rfl))
        have CC := SOF.out w hG; obtain ⟨C0, C1⟩ := CC
        refine Does.val (.slice Al ll cl) (w' := w) ?_ ⟨Below.refl _ _, rfl, hG⟩
        go_simp
      · intro listed σ w a hin hout hl hc hp hG hF
        refine Guarded.none rfl ?_
        have e21 : a.tmps.getD 21 undef = .slice Al ll cl := (hin 3 21 rfl (hp ⟨3, .data⟩ (by simp) rfl)).trans (hF 3 (hp ⟨3, .data⟩ (by simp) rfl))
        refine Does.val (.int .i64 ll) (w' := w) ?_ ⟨Below.refl _ _, rfl, hG⟩
        simp only [Array.getD_eq_getD_getElem?] at e21
        go_simp
      · intro listed σ w a hin hout hl hc hp hG hF
        refine Guarded.none rfl ?_
        have e1 : a.tmps.getD 1 undef = .slice (some ⟨bf, of, none⟩) n c' := hout 1 (outB_spec (by kernel_rfl))
        refine Does.val (.slice (some ⟨bf, of, none⟩) n c') (w' := w) ?_ ⟨Below.refl _ _, rfl, hG⟩
        simp only [Array.getD_eq_getD_getElem?] at e1
        go_simp
      · intro listed σ w a hin hout hl hc hp hG hF
        refine Guarded.none rfl ?_
        have e5 : a.tmps.getD 5 undef = .int .i64 (q : Int) := hout 5 (outB_spec (by kernel_rfl))
        refine Does.val (.int .i64 (q : Int)) (w' := w) ?_ ⟨Below.refl _ _, rfl, hG⟩
        simp only [Array.getD_eq_getD_getElem?] at e5
        go_simp
      · intro listed σ w a hin hout hl hc hp hG hF
        refine Guarded.none rfl ?_
        have e23 : a.tmps.getD 23 undef = .slice (some ⟨bf, of, none⟩) n c' := (hin 5 23 rfl (hp ⟨5, .data⟩ (by simp) rfl)).trans (hF 5 (hp ⟨5, .data⟩ (by simp) rfl))
        have e24 : a.tmps.getD 24 undef = .int .i64 (q : Int) := (hin 6 24 rfl (hp ⟨6, .data⟩ (by simp) rfl)).trans (hF 6 (hp ⟨6, .data⟩ (by simp) rfl))
        refine Does.val (.pointer (some ⟨bf, of + q, none⟩)) (w' := w) ?_ ⟨Below.refl _ _, rfl, hG⟩
        simp only [Array.getD_eq_getD_getElem?] at e23 e24
        go_simp
        (try (intro hh; exfalso; omega))
      · intro listed σ w a hin hout hl hc hp hG hF
        refine Guarded.none rfl ?_
        have e25 : a.tmps.getD 25 undef = .pointer (some ⟨bf, of + q, none⟩) := (hin 7 25 rfl (hp ⟨7, .data⟩ (by simp) rfl)).trans (hF 7 (hp ⟨7, .data⟩ (by simp) rfl))
        have CC := SOF.out w hG; obtain ⟨C0, C1⟩ := CC
        refine Does.val (.slice Am ll cm) (w' := w) ?_ ⟨Below.refl _ _, rfl, hG⟩
        go_simp
      · intro listed σ w a hin hout hl hc hp hG hF
        refine Guarded.none rfl ?_
        have e26 : a.tmps.getD 26 undef = .slice Am ll cm := (hin 8 26 rfl (hp ⟨8, .data⟩ (by simp) rfl)).trans (hF 8 (hp ⟨8, .data⟩ (by simp) rfl))
        refine Does.val (.int .i64 ll) (w' := w) ?_ ⟨Below.refl _ _, rfl, hG⟩
        simp only [Array.getD_eq_getD_getElem?] at e26
        go_simp
      · intro listed σ w a hin hout hl hc hp hG hF
        refine Guarded.none rfl ?_
        have e22 : a.tmps.getD 22 undef = .int .i64 ll := (hin 4 22 rfl (hp ⟨4, .data⟩ (by simp) rfl)).trans (hF 4 (hp ⟨4, .data⟩ (by simp) rfl))
        have e27 : a.tmps.getD 27 undef = .int .i64 ll := (hin 9 27 rfl (hp ⟨9, .data⟩ (by simp) rfl)).trans (hF 9 (hp ⟨9, .data⟩ (by simp) rfl))
        refine Does.val (.bool false) (w' := w) ?_ ⟨Below.refl _ _, rfl, hG⟩
        simp only [Array.getD_eq_getD_getElem?] at e22 e27
        go_simp
    · intro listed σ W9 hall hG hF
      rw [show mid _ σ listed _ = (Act.put (Act.put (Act.put (Act.put (Act.put (Act.put (Act.put (Act.put (Act.put (Act.put (Act.put _ (some 18) (σ 0)) (some 19) (σ 1)) (some 20) (σ 2)) (some 21) (σ 3)) (some 22) (σ 4)) (some 23) (σ 5)) (some 24) (σ 6)) (some 25) (σ 7)) (some 26) (σ 8)) (some 27) (σ 9)) (some 28) (σ 10)) from (mid_all hall).trans rfl]
      generalize σ 0 = tt0
      generalize σ 1 = tt1
      generalize σ 2 = tt2
      generalize σ 3 = tt3
      generalize σ 4 = tt4
      generalize σ 5 = tt5
      generalize σ 6 = tt6
      generalize σ 7 = tt7
      generalize σ 8 = tt8
      generalize σ 9 = tt9
      rw [show σ 10 = .bool false from hF 10 (by decide)]
      simp only [Act.put, List.setIfInBounds_toArray, List.set_cons_zero, List.set_cons_succ]
      have TG := hG
      clear hF hG hall
      clear σ
      have HB9 := hide (HR.out.next TG)
      have D0 := hide ((below_cell TG HLT1.out).trans D0.out)
      have D1 := hide ((below_cell TG HLT2.out).trans D1.out)
      have HLT1 := hide (Nat.lt_of_lt_of_le HLT1.out TG.size)
      have HLT2 := hide (Nat.lt_of_lt_of_le HLT2.out TG.size)
      have HBL := hide (HBL.out.keep (Keep.of_below TG))
      have HBM := hide (HBM.out.keep (Keep.of_below TG))
      have HS9 := hide (Below.refl W9.heap.size W9)
      clear TG SOF g1
      go_wp2_with fail
      go_loopw [6] (fun i wr => ∃ k : Nat, k ≤ ll ∧ i = .int .i64 k ∧ Hid (l.take k = m.take k) ∧ Hid (Below W9.heap.size W9 wr)) (fun i _ => ll - (intOf i).toNat)
      case atStart => exact ⟨0, Nat.zero_le _, rfl, hide rfl, HS9⟩
      case round =>
        obtain ⟨k, hk, rfl, HEK, HRK⟩ := hrel
        have C0 := hide ((below_cell HRK.out HLT1.out).trans D0.out)
        have C1 := hide ((below_cell HRK.out HLT2.out).trans D1.out)
        have cc0 := C0.out
        by_cases hkl : k < ll
        case neg =>
          obtain rfl : k = ll := by omega
          have hlm : l = m := by have := HEK.out; rw [List.take_of_length_le (by rw [HLL.out]; omega), List.take_of_length_le (by rw [HML.out]; omega)] at this; exact this
          have HQ := hide (take_step HX.out (hlm ▸ HY.out) HE.out)
          have HB8 := hide (HB9.out.next HRK.out)
          clear hlm
          go_wp2_with fail
          go_roundw
          case rel => exact ⟨q + 1, by omega, by go_num, HQ, HB8⟩
          case measure => simp [intOf]; omega
        obtain ⟨bl, ol, vl, hB1, hlt3, hvl, e2⟩ := (HBL.out.keep (Keep.of_below HRK.out)).at_ hkl
        obtain ⟨bm, om, vm, hB2, hlt4, hvm, e3⟩ := (HBM.out.keep (Keep.of_below HRK.out)).at_ hkl
        subst hB1 hB2
        have C2 := hide e2
        have C3 := hide e3
        have HLT3 := hide hlt3
        have HLT4 := hide hlt4
        have HSZ := hide HRK.out.size
        have HVL := hide hvl
        have HVM := hide hvm
        clear e2 e3 hlt3 hlt4 hvl hvm
        have SOF := hide (fun w (h : Below wr.heap.size wr w) => (⟨(below_cell h (Nat.lt_of_lt_of_le HLT1.out HSZ.out)).trans C0.out, (below_cell h (Nat.lt_of_lt_of_le HLT2.out HSZ.out)).trans C1.out, (below_cell h HLT3.out).trans C2.out, (below_cell h HLT4.out).trans C3.out⟩ : _ ∧ _ ∧ _ ∧ _))
        by_cases hv : vl = vm
        · have HBV := hide (show (vl != vm) = false by rw [hv]; simp)
          have HV2 := hide hv
          have HQ := hide (take_step HVL.out (hv ▸ HVM.out) HEK.out)
          have g1 : (vl != vm) = false := HBV.out
          clear hv
          go_upto_region 11 with fail
          clear cc0
          refine wp_drawn (by kernel_rfl) (by kernel_rfl) (by kernel_rfl) (fun w w' => Below w.heap.size w w') (fun j v w => match j with | 0 => v = .slice (some ⟨be, oe, none⟩) n c | 1 => v = .int .i64 (q : Int) | 2 => v = .pointer (some ⟨be, oe + q, none⟩) | 3 => v = .slice (some ⟨bl, ol, none⟩) ll cl | 4 => v = .int .i64 (k : Int) | 5 => v = .pointer (some ⟨bl, ol + k, none⟩) | 6 => v = .bool vl | 7 => v = .slice (some ⟨bf, of, none⟩) n c' | 8 => v = .int .i64 (q : Int) | 9 => v = .pointer (some ⟨bf, of + q, none⟩) | 10 => v = .slice (some ⟨bm, om, none⟩) ll cm | 11 => v = .int .i64 (k : Int) | 12 => v = .pointer (some ⟨bm, om + k, none⟩) | 13 => v = .bool vm | 14 => v = .bool false | _ => True) (fun _ _ w => Below wr.heap.size wr w) ?_ (fun _ => bl_drewN wr 1) ?_ ?_
          · intro j v w w' hT h
            match j, h with
            | 0, h => exact h
            | 1, h => exact h
            | 2, h => exact h
            | 3, h => exact h
            | 4, h => exact h
            | 5, h => exact h
            | 6, h => exact h
            | 7, h => exact h
            | 8, h => exact h
            | 9, h => exact h
            | 10, h => exact h
            | 11, h => exact h
            | 12, h => exact h
            | 13, h => exact h
            | 14, h => exact h
            | j + 15, h => trivial
          · refine ⟨?_, ?_, ?_, ?_, ?_, ?_, ?_, ?_, ?_, ?_, ?_, ?_, ?_, ?_, ?_, trivial⟩
            · intro listed σ w a hin hout hl hc hp hG hF
              refine Guarded.none rfl ?_
              have e0 : a.tmps.getD 0 undef = .slice (some ⟨be, oe, none⟩) n c := hout 0 (outB_spec (by kernel_rfl))
              refine Does.val (.slice (some ⟨be, oe, none⟩) n c) (w' := w) ?_ ⟨Below.refl _ _, rfl, hG⟩
              simp only [Array.getD_eq_getD_getElem?] at e0
              go_simp
            · intro listed σ w a hin hout hl hc hp hG hF
              refine Guarded.none rfl ?_
              have e5 : a.tmps.getD 5 undef = .int .i64 (q : Int) := hout 5 (outB_spec (by kernel_rfl))
              refine Does.val (.int .i64 (q : Int)) (w' := w) ?_ ⟨Below.refl _ _, rfl, hG⟩
              simp only [Array.getD_eq_getD_getElem?] at e5
              go_simp
            · intro listed σ w a hin hout hl hc hp hG hF
              refine Guarded.none rfl ?_
              have e38 : a.tmps.getD 38 undef = .slice (some ⟨be, oe, none⟩) n c := (hin 0 38 rfl (hp ⟨0, .data⟩ (by simp) rfl)).trans (hF 0 (hp ⟨0, .data⟩ (by simp) rfl))
              have e39 : a.tmps.getD 39 undef = .int .i64 (q : Int) := (hin 1 39 rfl (hp ⟨1, .data⟩ (by simp) rfl)).trans (hF 1 (hp ⟨1, .data⟩ (by simp) rfl))
              refine Does.val (.pointer (some ⟨be, oe + q, none⟩)) (w' := w) ?_ ⟨Below.refl _ _, rfl, hG⟩
              simp only [Array.getD_eq_getD_getElem?] at e38 e39
              go_simp
              (try (intro hh; exfalso; omega))
            · intro listed σ w a hin hout hl hc hp hG hF
              refine Guarded.none rfl ?_
              have e40 : a.tmps.getD 40 undef = .pointer (some ⟨be, oe + q, none⟩) := (hin 2 40 rfl (hp ⟨2, .data⟩ (by simp) rfl)).trans (hF 2 (hp ⟨2, .data⟩ (by simp) rfl))
              have CC := SOF.out w hG; obtain ⟨C0, C1, C2, C3⟩ := CC
              refine Does.val (.slice (some ⟨bl, ol, none⟩) ll cl) (w' := w) ?_ ⟨Below.refl _ _, rfl, hG⟩
              go_simp
            · intro listed σ w a hin hout hl hc hp hG hF
              refine Guarded.none rfl ?_
              have e6 : a.tmps.getD 6 undef = .int .i64 (k : Int) := hout 6 (outB_spec (by kernel_rfl))
              refine Does.val (.int .i64 (k : Int)) (w' := w) ?_ ⟨Below.refl _ _, rfl, hG⟩
              simp only [Array.getD_eq_getD_getElem?] at e6
              go_simp
            · intro listed σ w a hin hout hl hc hp hG hF
              refine Guarded.none rfl ?_
              have e41 : a.tmps.getD 41 undef = .slice (some ⟨bl, ol, none⟩) ll cl := (hin 3 41 rfl (hp ⟨3, .data⟩ (by simp) rfl)).trans (hF 3 (hp ⟨3, .data⟩ (by simp) rfl))
              have e42 : a.tmps.getD 42 undef = .int .i64 (k : Int) := (hin 4 42 rfl (hp ⟨4, .data⟩ (by simp) rfl)).trans (hF 4 (hp ⟨4, .data⟩ (by simp) rfl))
              refine Does.val (.pointer (some ⟨bl, ol + k, none⟩)) (w' := w) ?_ ⟨Below.refl _ _, rfl, hG⟩
              simp only [Array.getD_eq_getD_getElem?] at e41 e42
              go_simp
              (try (intro hh; exfalso; omega))
            · intro listed σ w a hin hout hl hc hp hG hF
              refine Guarded.none rfl ?_
              have e43 : a.tmps.getD 43 undef = .pointer (some ⟨bl, ol + k, none⟩) := (hin 5 43 rfl (hp ⟨5, .data⟩ (by simp) rfl)).trans (hF 5 (hp ⟨5, .data⟩ (by simp) rfl))
              have CC := SOF.out w hG; obtain ⟨C0, C1, C2, C3⟩ := CC
              refine Does.val (.bool vl) (w' := w) ?_ ⟨Below.refl _ _, rfl, hG⟩
              go_simp
            · intro listed σ w a hin hout hl hc hp hG hF
              refine Guarded.none rfl ?_
              have e1 : a.tmps.getD 1 undef = .slice (some ⟨bf, of, none⟩) n c' := hout 1 (outB_spec (by kernel_rfl))
              refine Does.val (.slice (some ⟨bf, of, none⟩) n c') (w' := w) ?_ ⟨Below.refl _ _, rfl, hG⟩
              simp only [Array.getD_eq_getD_getElem?] at e1
              go_simp
            · intro listed σ w a hin hout hl hc hp hG hF
              refine Guarded.none rfl ?_
              have e5 : a.tmps.getD 5 undef = .int .i64 (q : Int) := hout 5 (outB_spec (by kernel_rfl))
              refine Does.val (.int .i64 (q : Int)) (w' := w) ?_ ⟨Below.refl _ _, rfl, hG⟩
              simp only [Array.getD_eq_getD_getElem?] at e5
              go_simp
            · intro listed σ w a hin hout hl hc hp hG hF
              refine Guarded.none rfl ?_
              have e45 : a.tmps.getD 45 undef = .slice (some ⟨bf, of, none⟩) n c' := (hin 7 45 rfl (hp ⟨7, .data⟩ (by simp) rfl)).trans (hF 7 (hp ⟨7, .data⟩ (by simp) rfl))
              have e46 : a.tmps.getD 46 undef = .int .i64 (q : Int) := (hin 8 46 rfl (hp ⟨8, .data⟩ (by simp) rfl)).trans (hF 8 (hp ⟨8, .data⟩ (by simp) rfl))
              refine Does.val (.pointer (some ⟨bf, of + q, none⟩)) (w' := w) ?_ ⟨Below.refl _ _, rfl, hG⟩
              simp only [Array.getD_eq_getD_getElem?] at e45 e46
              go_simp
              (try (intro hh; exfalso; omega))
            · intro listed σ w a hin hout hl hc hp hG hF
              refine Guarded.none rfl ?_
              have e47 : a.tmps.getD 47 undef = .pointer (some ⟨bf, of + q, none⟩) := (hin 9 47 rfl (hp ⟨9, .data⟩ (by simp) rfl)).trans (hF 9 (hp ⟨9, .data⟩ (by simp) rfl))
              have CC := SOF.out w hG; obtain ⟨C0, C1, C2, C3⟩ := CC
              refine Does.val (.slice (some ⟨bm, om, none⟩) ll cm) (w' := w) ?_ ⟨Below.refl _ _, rfl, hG⟩
              go_simp
            · intro listed σ w a hin hout hl hc hp hG hF
              refine Guarded.none rfl ?_
              have e6 : a.tmps.getD 6 undef = .int .i64 (k : Int) := hout 6 (outB_spec (by kernel_rfl))
              refine Does.val (.int .i64 (k : Int)) (w' := w) ?_ ⟨Below.refl _ _, rfl, hG⟩
              simp only [Array.getD_eq_getD_getElem?] at e6
              go_simp
            · intro listed σ w a hin hout hl hc hp hG hF
              refine Guarded.none rfl ?_
              have e48 : a.tmps.getD 48 undef = .slice (some ⟨bm, om, none⟩) ll cm := (hin 10 48 rfl (hp ⟨10, .data⟩ (by simp) rfl)).trans (hF 10 (hp ⟨10, .data⟩ (by simp) rfl))
              have e49 : a.tmps.getD 49 undef = .int .i64 (k : Int) := (hin 11 49 rfl (hp ⟨11, .data⟩ (by simp) rfl)).trans (hF 11 (hp ⟨11, .data⟩ (by simp) rfl))
              refine Does.val (.pointer (some ⟨bm, om + k, none⟩)) (w' := w) ?_ ⟨Below.refl _ _, rfl, hG⟩
              simp only [Array.getD_eq_getD_getElem?] at e48 e49
              go_simp
              (try (intro hh; exfalso; omega))
            · intro listed σ w a hin hout hl hc hp hG hF
              refine Guarded.none rfl ?_
              have e50 : a.tmps.getD 50 undef = .pointer (some ⟨bm, om + k, none⟩) := (hin 12 50 rfl (hp ⟨12, .data⟩ (by simp) rfl)).trans (hF 12 (hp ⟨12, .data⟩ (by simp) rfl))
              have CC := SOF.out w hG; obtain ⟨C0, C1, C2, C3⟩ := CC
              refine Does.val (.bool vm) (w' := w) ?_ ⟨Below.refl _ _, rfl, hG⟩
              go_simp
            · intro listed σ w a hin hout hl hc hp hG hF
              refine Guarded.none rfl ?_
              have e44 : a.tmps.getD 44 undef = .bool vl := (hin 6 44 rfl (hp ⟨6, .data⟩ (by simp) rfl)).trans (hF 6 (hp ⟨6, .data⟩ (by simp) rfl))
              have e51 : a.tmps.getD 51 undef = .bool vm := (hin 13 51 rfl (hp ⟨13, .data⟩ (by simp) rfl)).trans (hF 13 (hp ⟨13, .data⟩ (by simp) rfl))
              refine Does.val (.bool false) (w' := w) ?_ ⟨Below.refl _ _, rfl, hG⟩
              simp only [Array.getD_eq_getD_getElem?] at e44 e51
              go_simp
              (first | done | exact HBV.out | exact HV2.out)
          · intro listed σ W9 hall hG hF
            rw [show mid _ σ listed _ = (Act.put (Act.put (Act.put (Act.put (Act.put (Act.put (Act.put (Act.put (Act.put (Act.put (Act.put (Act.put (Act.put (Act.put (Act.put _ (some 38) (σ 0)) (some 39) (σ 1)) (some 40) (σ 2)) (some 41) (σ 3)) (some 42) (σ 4)) (some 43) (σ 5)) (some 44) (σ 6)) (some 45) (σ 7)) (some 46) (σ 8)) (some 47) (σ 9)) (some 48) (σ 10)) (some 49) (σ 11)) (some 50) (σ 12)) (some 51) (σ 13)) (some 52) (σ 14)) from (mid_all hall).trans rfl]
            generalize σ 0 = tt0
            generalize σ 1 = tt1
            generalize σ 2 = tt2
            generalize σ 3 = tt3
            generalize σ 4 = tt4
            generalize σ 5 = tt5
            generalize σ 6 = tt6
            generalize σ 7 = tt7
            generalize σ 8 = tt8
            generalize σ 9 = tt9
            generalize σ 10 = tt10
            generalize σ 11 = tt11
            generalize σ 12 = tt12
            generalize σ 13 = tt13
            rw [show σ 14 = .bool false from hF 14 (by decide)]
            simp only [Act.put, List.setIfInBounds_toArray, List.set_cons_zero, List.set_cons_succ]
            have TG := hG
            clear hF hG hall
            clear σ
            have HB8 := hide (HRK.out.next TG)
            clear TG SOF
            go_wp2_with fail
            go_roundw
            case rel => exact ⟨k + 1, by omega, by go_num, HQ, HB8⟩
            case measure => simp [intOf]; omega
        · have HBV := hide (show (vl != vm) = true by simpa using hv)
          have HV2 := hide hv
          have HP := hide (fun W (h : Below w0.heap.size w0 W) => HF.out W h (take_not HX.out HY.out (take_not HVL.out HVM.out hv)))
          have g1 : (vl != vm) = true := HBV.out
          clear hv
          go_upto_region 11 with fail
          clear cc0
          refine wp_drawn (by kernel_rfl) (by kernel_rfl) (by kernel_rfl) (fun w w' => Below w.heap.size w w') (fun j v w => match j with | 0 => v = .slice (some ⟨be, oe, none⟩) n c | 1 => v = .int .i64 (q : Int) | 2 => v = .pointer (some ⟨be, oe + q, none⟩) | 3 => v = .slice (some ⟨bl, ol, none⟩) ll cl | 4 => v = .int .i64 (k : Int) | 5 => v = .pointer (some ⟨bl, ol + k, none⟩) | 6 => v = .bool vl | 7 => v = .slice (some ⟨bf, of, none⟩) n c' | 8 => v = .int .i64 (q : Int) | 9 => v = .pointer (some ⟨bf, of + q, none⟩) | 10 => v = .slice (some ⟨bm, om, none⟩) ll cm | 11 => v = .int .i64 (k : Int) | 12 => v = .pointer (some ⟨bm, om + k, none⟩) | 13 => v = .bool vm | 14 => v = .bool true | _ => True) (fun _ _ w => Below wr.heap.size wr w) ?_ (fun _ => bl_drewN wr 1) ?_ ?_
          · intro j v w w' hT h
            match j, h with
            | 0, h => exact h
            | 1, h => exact h
            | 2, h => exact h
            | 3, h => exact h
            | 4, h => exact h
            | 5, h => exact h
            | 6, h => exact h
            | 7, h => exact h
            | 8, h => exact h
            | 9, h => exact h
            | 10, h => exact h
            | 11, h => exact h
            | 12, h => exact h
            | 13, h => exact h
            | 14, h => exact h
            | j + 15, h => trivial
          · refine ⟨?_, ?_, ?_, ?_, ?_, ?_, ?_, ?_, ?_, ?_, ?_, ?_, ?_, ?_, ?_, trivial⟩
            · intro listed σ w a hin hout hl hc hp hG hF
              refine Guarded.none rfl ?_
              have e0 : a.tmps.getD 0 undef = .slice (some ⟨be, oe, none⟩) n c := hout 0 (outB_spec (by kernel_rfl))
              refine Does.val (.slice (some ⟨be, oe, none⟩) n c) (w' := w) ?_ ⟨Below.refl _ _, rfl, hG⟩
              simp only [Array.getD_eq_getD_getElem?] at e0
              go_simp
            · intro listed σ w a hin hout hl hc hp hG hF
              refine Guarded.none rfl ?_
              have e5 : a.tmps.getD 5 undef = .int .i64 (q : Int) := hout 5 (outB_spec (by kernel_rfl))
              refine Does.val (.int .i64 (q : Int)) (w' := w) ?_ ⟨Below.refl _ _, rfl, hG⟩
              simp only [Array.getD_eq_getD_getElem?] at e5
              go_simp
            · intro listed σ w a hin hout hl hc hp hG hF
              refine Guarded.none rfl ?_
              have e38 : a.tmps.getD 38 undef = .slice (some ⟨be, oe, none⟩) n c := (hin 0 38 rfl (hp ⟨0, .data⟩ (by simp) rfl)).trans (hF 0 (hp ⟨0, .data⟩ (by simp) rfl))
              have e39 : a.tmps.getD 39 undef = .int .i64 (q : Int) := (hin 1 39 rfl (hp ⟨1, .data⟩ (by simp) rfl)).trans (hF 1 (hp ⟨1, .data⟩ (by simp) rfl))
              refine Does.val (.pointer (some ⟨be, oe + q, none⟩)) (w' := w) ?_ ⟨Below.refl _ _, rfl, hG⟩
              simp only [Array.getD_eq_getD_getElem?] at e38 e39
              go_simp
              (try (intro hh; exfalso; omega))
            · intro listed σ w a hin hout hl hc hp hG hF
              refine Guarded.none rfl ?_
              have e40 : a.tmps.getD 40 undef = .pointer (some ⟨be, oe + q, none⟩) := (hin 2 40 rfl (hp ⟨2, .data⟩ (by simp) rfl)).trans (hF 2 (hp ⟨2, .data⟩ (by simp) rfl))
              have CC := SOF.out w hG; obtain ⟨C0, C1, C2, C3⟩ := CC
              refine Does.val (.slice (some ⟨bl, ol, none⟩) ll cl) (w' := w) ?_ ⟨Below.refl _ _, rfl, hG⟩
              go_simp
            · intro listed σ w a hin hout hl hc hp hG hF
              refine Guarded.none rfl ?_
              have e6 : a.tmps.getD 6 undef = .int .i64 (k : Int) := hout 6 (outB_spec (by kernel_rfl))
              refine Does.val (.int .i64 (k : Int)) (w' := w) ?_ ⟨Below.refl _ _, rfl, hG⟩
              simp only [Array.getD_eq_getD_getElem?] at e6
              go_simp
            · intro listed σ w a hin hout hl hc hp hG hF
              refine Guarded.none rfl ?_
              have e41 : a.tmps.getD 41 undef = .slice (some ⟨bl, ol, none⟩) ll cl := (hin 3 41 rfl (hp ⟨3, .data⟩ (by simp) rfl)).trans (hF 3 (hp ⟨3, .data⟩ (by simp) rfl))
              have e42 : a.tmps.getD 42 undef = .int .i64 (k : Int) := (hin 4 42 rfl (hp ⟨4, .data⟩ (by simp) rfl)).trans (hF 4 (hp ⟨4, .data⟩ (by simp) rfl))
              refine Does.val (.pointer (some ⟨bl, ol + k, none⟩)) (w' := w) ?_ ⟨Below.refl _ _, rfl, hG⟩
              simp only [Array.getD_eq_getD_getElem?] at e41 e42
              go_simp
              (try (intro hh; exfalso; omega))
            · intro listed σ w a hin hout hl hc hp hG hF
              refine Guarded.none rfl ?_
              have e43 : a.tmps.getD 43 undef = .pointer (some ⟨bl, ol + k, none⟩) := (hin 5 43 rfl (hp ⟨5, .data⟩ (by simp) rfl)).trans (hF 5 (hp ⟨5, .data⟩ (by simp) rfl))
              have CC := SOF.out w hG; obtain ⟨C0, C1, C2, C3⟩ := CC
              refine Does.val (.bool vl) (w' := w) ?_ ⟨Below.refl _ _, rfl, hG⟩
              go_simp
            · intro listed σ w a hin hout hl hc hp hG hF
              refine Guarded.none rfl ?_
              have e1 : a.tmps.getD 1 undef = .slice (some ⟨bf, of, none⟩) n c' := hout 1 (outB_spec (by kernel_rfl))
              refine Does.val (.slice (some ⟨bf, of, none⟩) n c') (w' := w) ?_ ⟨Below.refl _ _, rfl, hG⟩
              simp only [Array.getD_eq_getD_getElem?] at e1
              go_simp
            · intro listed σ w a hin hout hl hc hp hG hF
              refine Guarded.none rfl ?_
              have e5 : a.tmps.getD 5 undef = .int .i64 (q : Int) := hout 5 (outB_spec (by kernel_rfl))
              refine Does.val (.int .i64 (q : Int)) (w' := w) ?_ ⟨Below.refl _ _, rfl, hG⟩
              simp only [Array.getD_eq_getD_getElem?] at e5
              go_simp
            · intro listed σ w a hin hout hl hc hp hG hF
              refine Guarded.none rfl ?_
              have e45 : a.tmps.getD 45 undef = .slice (some ⟨bf, of, none⟩) n c' := (hin 7 45 rfl (hp ⟨7, .data⟩ (by simp) rfl)).trans (hF 7 (hp ⟨7, .data⟩ (by simp) rfl))
              have e46 : a.tmps.getD 46 undef = .int .i64 (q : Int) := (hin 8 46 rfl (hp ⟨8, .data⟩ (by simp) rfl)).trans (hF 8 (hp ⟨8, .data⟩ (by simp) rfl))
              refine Does.val (.pointer (some ⟨bf, of + q, none⟩)) (w' := w) ?_ ⟨Below.refl _ _, rfl, hG⟩
              simp only [Array.getD_eq_getD_getElem?] at e45 e46
              go_simp
              (try (intro hh; exfalso; omega))
            · intro listed σ w a hin hout hl hc hp hG hF
              refine Guarded.none rfl ?_
              have e47 : a.tmps.getD 47 undef = .pointer (some ⟨bf, of + q, none⟩) := (hin 9 47 rfl (hp ⟨9, .data⟩ (by simp) rfl)).trans (hF 9 (hp ⟨9, .data⟩ (by simp) rfl))
              have CC := SOF.out w hG; obtain ⟨C0, C1, C2, C3⟩ := CC
              refine Does.val (.slice (some ⟨bm, om, none⟩) ll cm) (w' := w) ?_ ⟨Below.refl _ _, rfl, hG⟩
              go_simp
            · intro listed σ w a hin hout hl hc hp hG hF
              refine Guarded.none rfl ?_
              have e6 : a.tmps.getD 6 undef = .int .i64 (k : Int) := hout 6 (outB_spec (by kernel_rfl))
              refine Does.val (.int .i64 (k : Int)) (w' := w) ?_ ⟨Below.refl _ _, rfl, hG⟩
              simp only [Array.getD_eq_getD_getElem?] at e6
              go_simp
            · intro listed σ w a hin hout hl hc hp hG hF
              refine Guarded.none rfl ?_
              have e48 : a.tmps.getD 48 undef = .slice (some ⟨bm, om, none⟩) ll cm := (hin 10 48 rfl (hp ⟨10, .data⟩ (by simp) rfl)).trans (hF 10 (hp ⟨10, .data⟩ (by simp) rfl))
              have e49 : a.tmps.getD 49 undef = .int .i64 (k : Int) := (hin 11 49 rfl (hp ⟨11, .data⟩ (by simp) rfl)).trans (hF 11 (hp ⟨11, .data⟩ (by simp) rfl))
              refine Does.val (.pointer (some ⟨bm, om + k, none⟩)) (w' := w) ?_ ⟨Below.refl _ _, rfl, hG⟩
              simp only [Array.getD_eq_getD_getElem?] at e48 e49
              go_simp
              (try (intro hh; exfalso; omega))
            · intro listed σ w a hin hout hl hc hp hG hF
              refine Guarded.none rfl ?_
              have e50 : a.tmps.getD 50 undef = .pointer (some ⟨bm, om + k, none⟩) := (hin 12 50 rfl (hp ⟨12, .data⟩ (by simp) rfl)).trans (hF 12 (hp ⟨12, .data⟩ (by simp) rfl))
              have CC := SOF.out w hG; obtain ⟨C0, C1, C2, C3⟩ := CC
              refine Does.val (.bool vm) (w' := w) ?_ ⟨Below.refl _ _, rfl, hG⟩
              go_simp
            · intro listed σ w a hin hout hl hc hp hG hF
              refine Guarded.none rfl ?_
              have e44 : a.tmps.getD 44 undef = .bool vl := (hin 6 44 rfl (hp ⟨6, .data⟩ (by simp) rfl)).trans (hF 6 (hp ⟨6, .data⟩ (by simp) rfl))
              have e51 : a.tmps.getD 51 undef = .bool vm := (hin 13 51 rfl (hp ⟨13, .data⟩ (by simp) rfl)).trans (hF 13 (hp ⟨13, .data⟩ (by simp) rfl))
              refine Does.val (.bool true) (w' := w) ?_ ⟨Below.refl _ _, rfl, hG⟩
              simp only [Array.getD_eq_getD_getElem?] at e44 e51
              go_simp
              (first | done | exact HBV.out | exact HV2.out)
          · intro listed σ W9 hall hG hF
            rw [show mid _ σ listed _ = (Act.put (Act.put (Act.put (Act.put (Act.put (Act.put (Act.put (Act.put (Act.put (Act.put (Act.put (Act.put (Act.put (Act.put (Act.put _ (some 38) (σ 0)) (some 39) (σ 1)) (some 40) (σ 2)) (some 41) (σ 3)) (some 42) (σ 4)) (some 43) (σ 5)) (some 44) (σ 6)) (some 45) (σ 7)) (some 46) (σ 8)) (some 47) (σ 9)) (some 48) (σ 10)) (some 49) (σ 11)) (some 50) (σ 12)) (some 51) (σ 13)) (some 52) (σ 14)) from (mid_all hall).trans rfl]
            generalize σ 0 = tt0
            generalize σ 1 = tt1
            generalize σ 2 = tt2
            generalize σ 3 = tt3
            generalize σ 4 = tt4
            generalize σ 5 = tt5
            generalize σ 6 = tt6
            generalize σ 7 = tt7
            generalize σ 8 = tt8
            generalize σ 9 = tt9
            generalize σ 10 = tt10
            generalize σ 11 = tt11
            generalize σ 12 = tt12
            generalize σ 13 = tt13
            rw [show σ 14 = .bool true from hF 14 (by decide)]
            simp only [Act.put, List.setIfInBounds_toArray, List.set_cons_zero, List.set_cons_succ]
            have TG := hG
            clear hF hG hall
            clear σ
            have HB8 := hide ((HB9.out.next HRK.out).next TG)
            clear TG SOF
            go_wp2_with fail
            go_ret
            exact HP.out _ HB8.out
end Go.Proofs.Ytljocjjdfgpbaaa
