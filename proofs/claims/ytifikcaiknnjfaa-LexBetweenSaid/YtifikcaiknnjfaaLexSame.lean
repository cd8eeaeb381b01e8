/- plumblinelaw10.same of the same tokens, with their places. -/
import Derived.Test.YtifikcaiknnjfaaLexKIn
import Derived.Test.YtifikcaiknnjfaaLexReg2
import Derived.Deep.DeepCutAuto
namespace Go.Proofs.Ytifikcaiknnjfaa
open Go.RowKit
open Lx

/-- The answer is true, and nothing that was there has turned. -/
def LexYes (w : World) (e : Ending) (w' : World) : Prop := e = .returned (.bool true) ∧ Below w.heap.size w w'
theorem below_cell {w w' : World} {b o : Nat} (h : Below w.heap.size w w') (hlt : b < w.heap.size) : w'.cell? ⟨b, o, none⟩ = w.cell? ⟨b, o, none⟩ :=
  World.cell?_of_block (w := w) (a := ⟨b, o, none⟩) (h.block b hlt)
set_option maxRecDepth 100000 in
set_option maxHeartbeats 4000000 in
theorem lexsame_yes (A B : Option Addr) (n c d : Nat) (ts : List TK) (w0 : World) (ha : KIn w0 A n ts) (hb : KIn w0 B n ts) (hn : n ≤ 1099511627) : Calls Try.prog 20 #[.slice A n c, .slice B n d, .bool true] w0 (LexYes w0) := by
  have HA := hide ha
  have HB := hide hb
  have HS := hide (Below.refl w0.heap.size w0)
  have hnn : (((n : Int)) != (n : Int)) = false := by simp
  clear ha hb
  go_enter Try.func20, Try.ntmps20
  go_wp2_with fail
  go_loopw [15] (fun i wr => ∃ q : Nat, q ≤ n ∧ i = .int .i64 q ∧ Hid (Below w0.heap.size w0 wr)) (fun i _ => n - (intOf i).toNat)
  case atStart => exact ⟨0, Nat.zero_le _, rfl, HS⟩
  case round =>
    obtain ⟨q, hq, rfl, HR⟩ := hrel
    by_cases hqn : q < n
    · obtain ⟨ba, oa, t, rfl, hlt, ht, c0, c1, c2, c3⟩ := (HA.out.below HR.out).at_ hqn
      obtain ⟨bb, ob, t2, rfl, hlt2, ht2, d0, d1, d2, d3⟩ := (HB.out.below HR.out).at_ hqn
      obtain rfl : t = t2 := by rw [ht] at ht2; injection ht2
      have SOF := hide (show ∀ W, Below wr.heap.size wr W → (W.cell? ⟨ba, oa + q * 4, none⟩ = some (.int .i64 (t.kind : Nat)) ∧ W.cell? ⟨ba, oa + q * 4 + 1, none⟩ = some (.string t.text) ∧ W.cell? ⟨ba, oa + q * 4 + 2, none⟩ = some (.int .i64 (t.line : Nat)) ∧ W.cell? ⟨ba, oa + q * 4 + 3, none⟩ = some (.int .i64 (t.col : Nat)) ∧ W.cell? ⟨bb, ob + q * 4, none⟩ = some (.int .i64 (t.kind : Nat)) ∧ W.cell? ⟨bb, ob + q * 4 + 1, none⟩ = some (.string t.text) ∧ W.cell? ⟨bb, ob + q * 4 + 2, none⟩ = some (.int .i64 (t.line : Nat)) ∧ W.cell? ⟨bb, ob + q * 4 + 3, none⟩ = some (.int .i64 (t.col : Nat))) from fun W h => ⟨(below_cell h hlt).trans c0, (below_cell h hlt).trans c1, (below_cell h hlt).trans c2, (below_cell h hlt).trans c3, (below_cell h hlt2).trans d0, (below_cell h hlt2).trans d1, (below_cell h hlt2).trans d2, (below_cell h hlt2).trans d3⟩)
      clear ht ht2 c0 c1 c2 c3 d0 d1 d2 d3
      go_upto_region 6 with fail
      refine wp_drawn (by kernel_rfl) (by kernel_rfl) (by kernel_rfl) (fun w w' => Below w.heap.size w w') (fun j v w => match j with | 0 => v = .slice (some ⟨ba, oa, none⟩) n c | 1 => v = .int .i64 (q : Int) | 2 => v = .pointer (some ⟨ba, oa + q * 4, none⟩) | 3 => v = .pointer (some ⟨ba, oa + q * 4, none⟩) | 4 => v = .int .i64 (t.kind : Nat) | 5 => v = .slice (some ⟨bb, ob, none⟩) n d | 6 => v = .int .i64 (q : Int) | 7 => v = .pointer (some ⟨bb, ob + q * 4, none⟩) | 8 => v = .pointer (some ⟨bb, ob + q * 4, none⟩) | 9 => v = .int .i64 (t.kind : Nat) | 10 => v = .bool false | 11 => v = .bool false | 12 => v = .slice (some ⟨ba, oa, none⟩) n c | 13 => v = .int .i64 (q : Int) | 14 => v = .pointer (some ⟨ba, oa + q * 4, none⟩) | 15 => v = .pointer (some ⟨ba, oa + q * 4 + 1, none⟩) | 16 => v = .string t.text | 17 => v = .slice (some ⟨bb, ob, none⟩) n d | 18 => v = .int .i64 (q : Int) | 19 => v = .pointer (some ⟨bb, ob + q * 4, none⟩) | 20 => v = .pointer (some ⟨bb, ob + q * 4 + 1, none⟩) | 21 => v = .string t.text | 22 => v = .bool false | 23 => v = .bool false | 24 => v = .bool false | 25 => v = .bool true | 26 => v = .bool true | 27 => v = .slice (some ⟨ba, oa, none⟩) n c | 28 => v = .int .i64 (q : Int) | 29 => v = .pointer (some ⟨ba, oa + q * 4, none⟩) | 30 => v = .pointer (some ⟨ba, oa + q * 4 + 2, none⟩) | 31 => v = .agg #[.int .i64 (t.line : Nat), .int .i64 (t.col : Nat)] | 32 => v = .slice (some ⟨bb, ob, none⟩) n d | 33 => v = .int .i64 (q : Int) | 34 => v = .pointer (some ⟨bb, ob + q * 4, none⟩) | 35 => v = .pointer (some ⟨bb, ob + q * 4 + 2, none⟩) | 36 => v = .agg #[.int .i64 (t.line : Nat), .int .i64 (t.col : Nat)] | 37 => v = .bool false | 38 => v = .bool false | 39 => v = .bool false | _ => True) (fun _ _ w => Below wr.heap.size wr w) ?_ (fun _ => bl_drewN wr 1) ?_ ?_
      · intro j v w w' hT h
        match j, h with
        | 0, h => exact h
        | 1, h => exact h
        | 2, h => exact h
        | 3, h => exact h
        | 4, h => exact h
        | 5, h => exact h
        | 6, h => exact h
        | 7, h => exact h
        | 8, h => exact h
        | 9, h => exact h
        | 10, h => exact h
        | 11, h => exact h
        | 12, h => exact h
        | 13, h => exact h
        | 14, h => exact h
        | 15, h => exact h
        | 16, h => exact h
        | 17, h => exact h
        | 18, h => exact h
        | 19, h => exact h
        | 20, h => exact h
        | 21, h => exact h
        | 22, h => exact h
        | 23, h => exact h
        | 24, h => exact h
        | 25, h => exact h
        | 26, h => exact h
        | 27, h => exact h
        | 28, h => exact h
        | 29, h => exact h
        | 30, h => exact h
        | 31, h => exact h
        | 32, h => exact h
        | 33, h => exact h
        | 34, h => exact h
        | 35, h => exact h
        | 36, h => exact h
        | 37, h => exact h
        | 38, h => exact h
        | 39, h => exact h
        | j + 40, h => trivial
      · refine ⟨?_, ?_, ?_, ?_, ?_, ?_, ?_, ?_, ?_, ?_, ?_, ?_, ?_, ?_, ?_, ?_, ?_, ?_, ?_, ?_, ?_, ?_, ?_, ?_, ?_, ?_, ?_, ?_, ?_, ?_, ?_, ?_, ?_, ?_, ?_, ?_, ?_, ?_, ?_, ?_, trivial⟩
        · intro listed σ w a hin hout hl hc hp hG hF
          refine Guarded.none rfl ?_
          have e0 : a.tmps.getD 0 undef = .slice (some ⟨ba, oa, none⟩) n c := hout 0 (outB_spec (by kernel_rfl))
          refine Does.val (.slice (some ⟨ba, oa, none⟩) n c) (w' := w) ?_ ⟨Below.refl _ _, rfl, hG⟩
          simp only [Array.getD_eq_getD_getElem?] at e0
          go_simp
        · intro listed σ w a hin hout hl hc hp hG hF
          refine Guarded.none rfl ?_
          have e7 : a.tmps.getD 7 undef = .int .i64 (q : Int) := hout 7 (outB_spec (by kernel_rfl))
          refine Does.val (.int .i64 (q : Int)) (w' := w) ?_ ⟨Below.refl _ _, rfl, hG⟩
          simp only [Array.getD_eq_getD_getElem?] at e7
          go_simp
        · intro listed σ w a hin hout hl hc hp hG hF
          refine Guarded.none rfl ?_
          have e18 : a.tmps.getD 18 undef = .slice (some ⟨ba, oa, none⟩) n c := (hin 0 18 rfl (hp ⟨0, .data⟩ (by simp) rfl)).trans (hF 0 (hp ⟨0, .data⟩ (by simp) rfl))
          have e19 : a.tmps.getD 19 undef = .int .i64 (q : Int) := (hin 1 19 rfl (hp ⟨1, .data⟩ (by simp) rfl)).trans (hF 1 (hp ⟨1, .data⟩ (by simp) rfl))
          refine Does.val (.pointer (some ⟨ba, oa + q * 4, none⟩)) (w' := w) ?_ ⟨Below.refl _ _, rfl, hG⟩
          simp only [Array.getD_eq_getD_getElem?] at e18 e19
          go_simp
          (try (intro hh; exfalso; omega))
        · intro listed σ w a hin hout hl hc hp hG hF
          refine Guarded.none rfl ?_
          have e20 : a.tmps.getD 20 undef = .pointer (some ⟨ba, oa + q * 4, none⟩) := (hin 2 20 rfl (hp ⟨2, .data⟩ (by simp) rfl)).trans (hF 2 (hp ⟨2, .data⟩ (by simp) rfl))
          refine Does.val (.pointer (some ⟨ba, oa + q * 4, none⟩)) (w' := w) ?_ ⟨Below.refl _ _, rfl, hG⟩
          simp only [Array.getD_eq_getD_getElem?] at e20
          go_simp
        · intro listed σ w a hin hout hl hc hp hG hF
          refine Guarded.none rfl ?_
          have e21 : a.tmps.getD 21 undef = .pointer (some ⟨ba, oa + q * 4, none⟩) := (hin 3 21 rfl (hp ⟨3, .data⟩ (by simp) rfl)).trans (hF 3 (hp ⟨3, .data⟩ (by simp) rfl))
          have CC := SOF.out w hG; obtain ⟨C0, C1, C2, C3, D0, D1, D2, D3⟩ := CC
          refine Does.val (.int .i64 (t.kind : Nat)) (w' := w) ?_ ⟨Below.refl _ _, rfl, hG⟩
          go_simp
        · intro listed σ w a hin hout hl hc hp hG hF
          refine Guarded.none rfl ?_
          have e1 : a.tmps.getD 1 undef = .slice (some ⟨bb, ob, none⟩) n d := hout 1 (outB_spec (by kernel_rfl))
          refine Does.val (.slice (some ⟨bb, ob, none⟩) n d) (w' := w) ?_ ⟨Below.refl _ _, rfl, hG⟩
          simp only [Array.getD_eq_getD_getElem?] at e1
          go_simp
        · intro listed σ w a hin hout hl hc hp hG hF
          refine Guarded.none rfl ?_
          have e7 : a.tmps.getD 7 undef = .int .i64 (q : Int) := hout 7 (outB_spec (by kernel_rfl))
          refine Does.val (.int .i64 (q : Int)) (w' := w) ?_ ⟨Below.refl _ _, rfl, hG⟩
          simp only [Array.getD_eq_getD_getElem?] at e7
          go_simp
        · intro listed σ w a hin hout hl hc hp hG hF
          refine Guarded.none rfl ?_
          have e23 : a.tmps.getD 23 undef = .slice (some ⟨bb, ob, none⟩) n d := (hin 5 23 rfl (hp ⟨5, .data⟩ (by simp) rfl)).trans (hF 5 (hp ⟨5, .data⟩ (by simp) rfl))
          have e24 : a.tmps.getD 24 undef = .int .i64 (q : Int) := (hin 6 24 rfl (hp ⟨6, .data⟩ (by simp) rfl)).trans (hF 6 (hp ⟨6, .data⟩ (by simp) rfl))
          refine Does.val (.pointer (some ⟨bb, ob + q * 4, none⟩)) (w' := w) ?_ ⟨Below.refl _ _, rfl, hG⟩
          simp only [Array.getD_eq_getD_getElem?] at e23 e24
          go_simp
          (try (intro hh; exfalso; omega))
        · intro listed σ w a hin hout hl hc hp hG hF
          refine Guarded.none rfl ?_
          have e25 : a.tmps.getD 25 undef = .pointer (some ⟨bb, ob + q * 4, none⟩) := (hin 7 25 rfl (hp ⟨7, .data⟩ (by simp) rfl)).trans (hF 7 (hp ⟨7, .data⟩ (by simp) rfl))
          refine Does.val (.pointer (some ⟨bb, ob + q * 4, none⟩)) (w' := w) ?_ ⟨Below.refl _ _, rfl, hG⟩
          simp only [Array.getD_eq_getD_getElem?] at e25
          go_simp
        · intro listed σ w a hin hout hl hc hp hG hF
          refine Guarded.none rfl ?_
          have e26 : a.tmps.getD 26 undef = .pointer (some ⟨bb, ob + q * 4, none⟩) := (hin 8 26 rfl (hp ⟨8, .data⟩ (by simp) rfl)).trans (hF 8 (hp ⟨8, .data⟩ (by simp) rfl))
          have CC := SOF.out w hG; obtain ⟨C0, C1, C2, C3, D0, D1, D2, D3⟩ := CC
          refine Does.val (.int .i64 (t.kind : Nat)) (w' := w) ?_ ⟨Below.refl _ _, rfl, hG⟩
          go_simp
        · intro listed σ w a hin hout hl hc hp hG hF
          refine Guarded.none rfl ?_
          have e22 : a.tmps.getD 22 undef = .int .i64 (t.kind : Nat) := (hin 4 22 rfl (hp ⟨4, .data⟩ (by simp) rfl)).trans (hF 4 (hp ⟨4, .data⟩ (by simp) rfl))
          have e27 : a.tmps.getD 27 undef = .int .i64 (t.kind : Nat) := (hin 9 27 rfl (hp ⟨9, .data⟩ (by simp) rfl)).trans (hF 9 (hp ⟨9, .data⟩ (by simp) rfl))
          refine Does.val (.bool false) (w' := w) ?_ ⟨Below.refl _ _, rfl, hG⟩
          simp only [Array.getD_eq_getD_getElem?] at e22 e27
          go_simp
        · intro listed σ w a hin hout hl hc hp hG hF
          refine Guarded.none rfl ?_
          have e28 : a.tmps.getD 28 undef = .bool false := (hin 10 28 rfl (hp ⟨10, .data⟩ (by simp) rfl)).trans (hF 10 (hp ⟨10, .data⟩ (by simp) rfl))
          refine Does.val (.bool false) (w' := w) ?_ ⟨Below.refl _ _, rfl, hG⟩
          simp only [Array.getD_eq_getD_getElem?] at e28
          go_simp
        · intro listed σ w a hin hout hl hc hp hG hF
          refine Guarded.some (d := 29) (b := false) rfl rfl ((hin 11 29 rfl (hp ⟨11, .guard⟩ (by simp) rfl)).trans (hF 11 (hp ⟨11, .guard⟩ (by simp) rfl))) ?_
          refine Or.inl ⟨rfl, ?_⟩
          have e0 : a.tmps.getD 0 undef = .slice (some ⟨ba, oa, none⟩) n c := hout 0 (outB_spec (by kernel_rfl))
          refine Does.val (.slice (some ⟨ba, oa, none⟩) n c) (w' := w) ?_ ⟨Below.refl _ _, rfl, hG⟩
          simp only [Array.getD_eq_getD_getElem?] at e0
          go_simp
        · intro listed σ w a hin hout hl hc hp hG hF
          refine Guarded.some (d := 29) (b := false) rfl rfl ((hin 11 29 rfl (hp ⟨11, .guard⟩ (by simp) rfl)).trans (hF 11 (hp ⟨11, .guard⟩ (by simp) rfl))) ?_
          refine Or.inl ⟨rfl, ?_⟩
          have e7 : a.tmps.getD 7 undef = .int .i64 (q : Int) := hout 7 (outB_spec (by kernel_rfl))
          refine Does.val (.int .i64 (q : Int)) (w' := w) ?_ ⟨Below.refl _ _, rfl, hG⟩
          simp only [Array.getD_eq_getD_getElem?] at e7
          go_simp
        · intro listed σ w a hin hout hl hc hp hG hF
          refine Guarded.some (d := 29) (b := false) rfl rfl ((hin 11 29 rfl (hp ⟨11, .guard⟩ (by simp) rfl)).trans (hF 11 (hp ⟨11, .guard⟩ (by simp) rfl))) ?_
          refine Or.inl ⟨rfl, ?_⟩
          have e30 : a.tmps.getD 30 undef = .slice (some ⟨ba, oa, none⟩) n c := (hin 12 30 rfl (hp ⟨12, .data⟩ (by simp) rfl)).trans (hF 12 (hp ⟨12, .data⟩ (by simp) rfl))
          have e31 : a.tmps.getD 31 undef = .int .i64 (q : Int) := (hin 13 31 rfl (hp ⟨13, .data⟩ (by simp) rfl)).trans (hF 13 (hp ⟨13, .data⟩ (by simp) rfl))
          refine Does.val (.pointer (some ⟨ba, oa + q * 4, none⟩)) (w' := w) ?_ ⟨Below.refl _ _, rfl, hG⟩
          simp only [Array.getD_eq_getD_getElem?] at e30 e31
          go_simp
          (try (intro hh; exfalso; omega))
        · intro listed σ w a hin hout hl hc hp hG hF
          refine Guarded.some (d := 29) (b := false) rfl rfl ((hin 11 29 rfl (hp ⟨11, .guard⟩ (by simp) rfl)).trans (hF 11 (hp ⟨11, .guard⟩ (by simp) rfl))) ?_
          refine Or.inl ⟨rfl, ?_⟩
          have e32 : a.tmps.getD 32 undef = .pointer (some ⟨ba, oa + q * 4, none⟩) := (hin 14 32 rfl (hp ⟨14, .data⟩ (by simp) rfl)).trans (hF 14 (hp ⟨14, .data⟩ (by simp) rfl))
          refine Does.val (.pointer (some ⟨ba, oa + q * 4 + 1, none⟩)) (w' := w) ?_ ⟨Below.refl _ _, rfl, hG⟩
          simp only [Array.getD_eq_getD_getElem?] at e32
          go_simp
        · intro listed σ w a hin hout hl hc hp hG hF
          refine Guarded.some (d := 29) (b := false) rfl rfl ((hin 11 29 rfl (hp ⟨11, .guard⟩ (by simp) rfl)).trans (hF 11 (hp ⟨11, .guard⟩ (by simp) rfl))) ?_
          refine Or.inl ⟨rfl, ?_⟩
          have e33 : a.tmps.getD 33 undef = .pointer (some ⟨ba, oa + q * 4 + 1, none⟩) := (hin 15 33 rfl (hp ⟨15, .data⟩ (by simp) rfl)).trans (hF 15 (hp ⟨15, .data⟩ (by simp) rfl))
          have CC := SOF.out w hG; obtain ⟨C0, C1, C2, C3, D0, D1, D2, D3⟩ := CC
          refine Does.val (.string t.text) (w' := w) ?_ ⟨Below.refl _ _, rfl, hG⟩
          go_simp
        · intro listed σ w a hin hout hl hc hp hG hF
          refine Guarded.some (d := 29) (b := false) rfl rfl ((hin 11 29 rfl (hp ⟨11, .guard⟩ (by simp) rfl)).trans (hF 11 (hp ⟨11, .guard⟩ (by simp) rfl))) ?_
          refine Or.inl ⟨rfl, ?_⟩
          have e1 : a.tmps.getD 1 undef = .slice (some ⟨bb, ob, none⟩) n d := hout 1 (outB_spec (by kernel_rfl))
          refine Does.val (.slice (some ⟨bb, ob, none⟩) n d) (w' := w) ?_ ⟨Below.refl _ _, rfl, hG⟩
          simp only [Array.getD_eq_getD_getElem?] at e1
          go_simp
        · intro listed σ w a hin hout hl hc hp hG hF
          refine Guarded.some (d := 29) (b := false) rfl rfl ((hin 11 29 rfl (hp ⟨11, .guard⟩ (by simp) rfl)).trans (hF 11 (hp ⟨11, .guard⟩ (by simp) rfl))) ?_
          refine Or.inl ⟨rfl, ?_⟩
          have e7 : a.tmps.getD 7 undef = .int .i64 (q : Int) := hout 7 (outB_spec (by kernel_rfl))
          refine Does.val (.int .i64 (q : Int)) (w' := w) ?_ ⟨Below.refl _ _, rfl, hG⟩
          simp only [Array.getD_eq_getD_getElem?] at e7
          go_simp
        · intro listed σ w a hin hout hl hc hp hG hF
          refine Guarded.some (d := 29) (b := false) rfl rfl ((hin 11 29 rfl (hp ⟨11, .guard⟩ (by simp) rfl)).trans (hF 11 (hp ⟨11, .guard⟩ (by simp) rfl))) ?_
          refine Or.inl ⟨rfl, ?_⟩
          have e35 : a.tmps.getD 35 undef = .slice (some ⟨bb, ob, none⟩) n d := (hin 17 35 rfl (hp ⟨17, .data⟩ (by simp) rfl)).trans (hF 17 (hp ⟨17, .data⟩ (by simp) rfl))
          have e36 : a.tmps.getD 36 undef = .int .i64 (q : Int) := (hin 18 36 rfl (hp ⟨18, .data⟩ (by simp) rfl)).trans (hF 18 (hp ⟨18, .data⟩ (by simp) rfl))
          refine Does.val (.pointer (some ⟨bb, ob + q * 4, none⟩)) (w' := w) ?_ ⟨Below.refl _ _, rfl, hG⟩
          simp only [Array.getD_eq_getD_getElem?] at e35 e36
          go_simp
          (try (intro hh; exfalso; omega))
        · intro listed σ w a hin hout hl hc hp hG hF
          refine Guarded.some (d := 29) (b := false) rfl rfl ((hin 11 29 rfl (hp ⟨11, .guard⟩ (by simp) rfl)).trans (hF 11 (hp ⟨11, .guard⟩ (by simp) rfl))) ?_
          refine Or.inl ⟨rfl, ?_⟩
          have e37 : a.tmps.getD 37 undef = .pointer (some ⟨bb, ob + q * 4, none⟩) := (hin 19 37 rfl (hp ⟨19, .data⟩ (by simp) rfl)).trans (hF 19 (hp ⟨19, .data⟩ (by simp) rfl))
          refine Does.val (.pointer (some ⟨bb, ob + q * 4 + 1, none⟩)) (w' := w) ?_ ⟨Below.refl _ _, rfl, hG⟩
          simp only [Array.getD_eq_getD_getElem?] at e37
          go_simp
        · intro listed σ w a hin hout hl hc hp hG hF
          refine Guarded.some (d := 29) (b := false) rfl rfl ((hin 11 29 rfl (hp ⟨11, .guard⟩ (by simp) rfl)).trans (hF 11 (hp ⟨11, .guard⟩ (by simp) rfl))) ?_
          refine Or.inl ⟨rfl, ?_⟩
          have e38 : a.tmps.getD 38 undef = .pointer (some ⟨bb, ob + q * 4 + 1, none⟩) := (hin 20 38 rfl (hp ⟨20, .data⟩ (by simp) rfl)).trans (hF 20 (hp ⟨20, .data⟩ (by simp) rfl))
          have CC := SOF.out w hG; obtain ⟨C0, C1, C2, C3, D0, D1, D2, D3⟩ := CC
          refine Does.val (.string t.text) (w' := w) ?_ ⟨Below.refl _ _, rfl, hG⟩
          go_simp
        · intro listed σ w a hin hout hl hc hp hG hF
          refine Guarded.some (d := 29) (b := false) rfl rfl ((hin 11 29 rfl (hp ⟨11, .guard⟩ (by simp) rfl)).trans (hF 11 (hp ⟨11, .guard⟩ (by simp) rfl))) ?_
          refine Or.inl ⟨rfl, ?_⟩
          have e34 : a.tmps.getD 34 undef = .string t.text := (hin 16 34 rfl (hp ⟨16, .data⟩ (by simp) rfl)).trans (hF 16 (hp ⟨16, .data⟩ (by simp) rfl))
          have e39 : a.tmps.getD 39 undef = .string t.text := (hin 21 39 rfl (hp ⟨21, .data⟩ (by simp) rfl)).trans (hF 21 (hp ⟨21, .data⟩ (by simp) rfl))
          refine Does.val (.bool false) (w' := w) ?_ ⟨Below.refl _ _, rfl, hG⟩
          simp only [Array.getD_eq_getD_getElem?] at e34 e39
          go_simp
        · intro listed σ w a hin hout hl hc hp hG hF
          refine Guarded.none rfl ?_
          have e29 : a.tmps.getD 29 undef = .bool false := (hin 11 29 rfl (hp ⟨11, .data⟩ (by simp) rfl)).trans (hF 11 (hp ⟨11, .data⟩ (by simp) rfl))
          have e40 : a.tmps.getD 40 undef = .bool false := (hin 22 40 rfl (hp ⟨22, .data⟩ (by simp) rfl)).trans (hF 22 (hp ⟨22, .data⟩ (by simp) rfl))
          refine Does.val (.bool false) (w' := w) ?_ ⟨Below.refl _ _, rfl, hG⟩
          simp only [Array.getD_eq_getD_getElem?] at e29 e40
          go_simp
        · intro listed σ w a hin hout hl hc hp hG hF
          refine Guarded.none rfl ?_
          have e41 : a.tmps.getD 41 undef = .bool false := (hin 23 41 rfl (hp ⟨23, .data⟩ (by simp) rfl)).trans (hF 23 (hp ⟨23, .data⟩ (by simp) rfl))
          refine Does.val (.bool false) (w' := w) ?_ ⟨Below.refl _ _, rfl, hG⟩
          simp only [Array.getD_eq_getD_getElem?] at e41
          go_simp
        · intro listed σ w a hin hout hl hc hp hG hF
          refine Guarded.some (d := 42) (b := false) rfl rfl ((hin 24 42 rfl (hp ⟨24, .guard⟩ (by simp) rfl)).trans (hF 24 (hp ⟨24, .guard⟩ (by simp) rfl))) ?_
          refine Or.inl ⟨rfl, ?_⟩
          have e2 : a.tmps.getD 2 undef = .bool true := hout 2 (outB_spec (by kernel_rfl))
          refine Does.val (.bool true) (w' := w) ?_ ⟨Below.refl _ _, rfl, hG⟩
          simp only [Array.getD_eq_getD_getElem?] at e2
          go_simp
        · intro listed σ w a hin hout hl hc hp hG hF
          refine Guarded.some (d := 42) (b := false) rfl rfl ((hin 24 42 rfl (hp ⟨24, .guard⟩ (by simp) rfl)).trans (hF 24 (hp ⟨24, .guard⟩ (by simp) rfl))) ?_
          refine Or.inl ⟨rfl, ?_⟩
          have e43 : a.tmps.getD 43 undef = .bool true := (hin 25 43 rfl (hp ⟨25, .data⟩ (by simp) rfl)).trans (hF 25 (hp ⟨25, .data⟩ (by simp) rfl))
          refine Does.val (.bool true) (w' := w) ?_ ⟨Below.refl _ _, rfl, hG⟩
          simp only [Array.getD_eq_getD_getElem?] at e43
          go_simp
        · intro listed σ w a hin hout hl hc hp hG hF
          refine Guarded.some (d := 44) (b := true) rfl rfl ((hin 26 44 rfl (hp ⟨26, .guard⟩ (by simp) rfl)).trans (hF 26 (hp ⟨26, .guard⟩ (by simp) rfl))) ?_
          refine Or.inl ⟨rfl, ?_⟩
          have e0 : a.tmps.getD 0 undef = .slice (some ⟨ba, oa, none⟩) n c := hout 0 (outB_spec (by kernel_rfl))
          refine Does.val (.slice (some ⟨ba, oa, none⟩) n c) (w' := w) ?_ ⟨Below.refl _ _, rfl, hG⟩
          simp only [Array.getD_eq_getD_getElem?] at e0
          go_simp
        · intro listed σ w a hin hout hl hc hp hG hF
          refine Guarded.some (d := 44) (b := true) rfl rfl ((hin 26 44 rfl (hp ⟨26, .guard⟩ (by simp) rfl)).trans (hF 26 (hp ⟨26, .guard⟩ (by simp) rfl))) ?_
          refine Or.inl ⟨rfl, ?_⟩
          have e7 : a.tmps.getD 7 undef = .int .i64 (q : Int) := hout 7 (outB_spec (by kernel_rfl))
          refine Does.val (.int .i64 (q : Int)) (w' := w) ?_ ⟨Below.refl _ _, rfl, hG⟩
          simp only [Array.getD_eq_getD_getElem?] at e7
          go_simp
        · intro listed σ w a hin hout hl hc hp hG hF
          refine Guarded.some (d := 44) (b := true) rfl rfl ((hin 26 44 rfl (hp ⟨26, .guard⟩ (by simp) rfl)).trans (hF 26 (hp ⟨26, .guard⟩ (by simp) rfl))) ?_
          refine Or.inl ⟨rfl, ?_⟩
          have e45 : a.tmps.getD 45 undef = .slice (some ⟨ba, oa, none⟩) n c := (hin 27 45 rfl (hp ⟨27, .data⟩ (by simp) rfl)).trans (hF 27 (hp ⟨27, .data⟩ (by simp) rfl))
          have e46 : a.tmps.getD 46 undef = .int .i64 (q : Int) := (hin 28 46 rfl (hp ⟨28, .data⟩ (by simp) rfl)).trans (hF 28 (hp ⟨28, .data⟩ (by simp) rfl))
          refine Does.val (.pointer (some ⟨ba, oa + q * 4, none⟩)) (w' := w) ?_ ⟨Below.refl _ _, rfl, hG⟩
          simp only [Array.getD_eq_getD_getElem?] at e45 e46
          go_simp
          (try (intro hh; exfalso; omega))
        · intro listed σ w a hin hout hl hc hp hG hF
          refine Guarded.some (d := 44) (b := true) rfl rfl ((hin 26 44 rfl (hp ⟨26, .guard⟩ (by simp) rfl)).trans (hF 26 (hp ⟨26, .guard⟩ (by simp) rfl))) ?_
          refine Or.inl ⟨rfl, ?_⟩
          have e47 : a.tmps.getD 47 undef = .pointer (some ⟨ba, oa + q * 4, none⟩) := (hin 29 47 rfl (hp ⟨29, .data⟩ (by simp) rfl)).trans (hF 29 (hp ⟨29, .data⟩ (by simp) rfl))
          refine Does.val (.pointer (some ⟨ba, oa + q * 4 + 2, none⟩)) (w' := w) ?_ ⟨Below.refl _ _, rfl, hG⟩
          simp only [Array.getD_eq_getD_getElem?] at e47
          go_simp
        · intro listed σ w a hin hout hl hc hp hG hF
          refine Guarded.some (d := 44) (b := true) rfl rfl ((hin 26 44 rfl (hp ⟨26, .guard⟩ (by simp) rfl)).trans (hF 26 (hp ⟨26, .guard⟩ (by simp) rfl))) ?_
          refine Or.inl ⟨rfl, ?_⟩
          have e48 : a.tmps.getD 48 undef = .pointer (some ⟨ba, oa + q * 4 + 2, none⟩) := (hin 30 48 rfl (hp ⟨30, .data⟩ (by simp) rfl)).trans (hF 30 (hp ⟨30, .data⟩ (by simp) rfl))
          have CC := SOF.out w hG; obtain ⟨C0, C1, C2, C3, D0, D1, D2, D3⟩ := CC
          refine Does.val (.agg #[.int .i64 (t.line : Nat), .int .i64 (t.col : Nat)]) (w' := w) ?_ ⟨Below.refl _ _, rfl, hG⟩
          go_simp
        · intro listed σ w a hin hout hl hc hp hG hF
          refine Guarded.some (d := 44) (b := true) rfl rfl ((hin 26 44 rfl (hp ⟨26, .guard⟩ (by simp) rfl)).trans (hF 26 (hp ⟨26, .guard⟩ (by simp) rfl))) ?_
          refine Or.inl ⟨rfl, ?_⟩
          have e1 : a.tmps.getD 1 undef = .slice (some ⟨bb, ob, none⟩) n d := hout 1 (outB_spec (by kernel_rfl))
          refine Does.val (.slice (some ⟨bb, ob, none⟩) n d) (w' := w) ?_ ⟨Below.refl _ _, rfl, hG⟩
          simp only [Array.getD_eq_getD_getElem?] at e1
          go_simp
        · intro listed σ w a hin hout hl hc hp hG hF
          refine Guarded.some (d := 44) (b := true) rfl rfl ((hin 26 44 rfl (hp ⟨26, .guard⟩ (by simp) rfl)).trans (hF 26 (hp ⟨26, .guard⟩ (by simp) rfl))) ?_
          refine Or.inl ⟨rfl, ?_⟩
          have e7 : a.tmps.getD 7 undef = .int .i64 (q : Int) := hout 7 (outB_spec (by kernel_rfl))
          refine Does.val (.int .i64 (q : Int)) (w' := w) ?_ ⟨Below.refl _ _, rfl, hG⟩
          simp only [Array.getD_eq_getD_getElem?] at e7
          go_simp
        · intro listed σ w a hin hout hl hc hp hG hF
          refine Guarded.some (d := 44) (b := true) rfl rfl ((hin 26 44 rfl (hp ⟨26, .guard⟩ (by simp) rfl)).trans (hF 26 (hp ⟨26, .guard⟩ (by simp) rfl))) ?_
          refine Or.inl ⟨rfl, ?_⟩
          have e50 : a.tmps.getD 50 undef = .slice (some ⟨bb, ob, none⟩) n d := (hin 32 50 rfl (hp ⟨32, .data⟩ (by simp) rfl)).trans (hF 32 (hp ⟨32, .data⟩ (by simp) rfl))
          have e51 : a.tmps.getD 51 undef = .int .i64 (q : Int) := (hin 33 51 rfl (hp ⟨33, .data⟩ (by simp) rfl)).trans (hF 33 (hp ⟨33, .data⟩ (by simp) rfl))
          refine Does.val (.pointer (some ⟨bb, ob + q * 4, none⟩)) (w' := w) ?_ ⟨Below.refl _ _, rfl, hG⟩
          simp only [Array.getD_eq_getD_getElem?] at e50 e51
          go_simp
          (try (intro hh; exfalso; omega))
        · intro listed σ w a hin hout hl hc hp hG hF
          refine Guarded.some (d := 44) (b := true) rfl rfl ((hin 26 44 rfl (hp ⟨26, .guard⟩ (by simp) rfl)).trans (hF 26 (hp ⟨26, .guard⟩ (by simp) rfl))) ?_
          refine Or.inl ⟨rfl, ?_⟩
          have e52 : a.tmps.getD 52 undef = .pointer (some ⟨bb, ob + q * 4, none⟩) := (hin 34 52 rfl (hp ⟨34, .data⟩ (by simp) rfl)).trans (hF 34 (hp ⟨34, .data⟩ (by simp) rfl))
          refine Does.val (.pointer (some ⟨bb, ob + q * 4 + 2, none⟩)) (w' := w) ?_ ⟨Below.refl _ _, rfl, hG⟩
          simp only [Array.getD_eq_getD_getElem?] at e52
          go_simp
        · intro listed σ w a hin hout hl hc hp hG hF
          refine Guarded.some (d := 44) (b := true) rfl rfl ((hin 26 44 rfl (hp ⟨26, .guard⟩ (by simp) rfl)).trans (hF 26 (hp ⟨26, .guard⟩ (by simp) rfl))) ?_
          refine Or.inl ⟨rfl, ?_⟩
          have e53 : a.tmps.getD 53 undef = .pointer (some ⟨bb, ob + q * 4 + 2, none⟩) := (hin 35 53 rfl (hp ⟨35, .data⟩ (by simp) rfl)).trans (hF 35 (hp ⟨35, .data⟩ (by simp) rfl))
          have CC := SOF.out w hG; obtain ⟨C0, C1, C2, C3, D0, D1, D2, D3⟩ := CC
          refine Does.val (.agg #[.int .i64 (t.line : Nat), .int .i64 (t.col : Nat)]) (w' := w) ?_ ⟨Below.refl _ _, rfl, hG⟩
          go_simp
        · intro listed σ w a hin hout hl hc hp hG hF
          refine Guarded.some (d := 44) (b := true) rfl rfl ((hin 26 44 rfl (hp ⟨26, .guard⟩ (by simp) rfl)).trans (hF 26 (hp ⟨26, .guard⟩ (by simp) rfl))) ?_
          refine Or.inl ⟨rfl, ?_⟩
          have e49 : a.tmps.getD 49 undef = .agg #[.int .i64 (t.line : Nat), .int .i64 (t.col : Nat)] := (hin 31 49 rfl (hp ⟨31, .data⟩ (by simp) rfl)).trans (hF 31 (hp ⟨31, .data⟩ (by simp) rfl))
          have e54 : a.tmps.getD 54 undef = .agg #[.int .i64 (t.line : Nat), .int .i64 (t.col : Nat)] := (hin 36 54 rfl (hp ⟨36, .data⟩ (by simp) rfl)).trans (hF 36 (hp ⟨36, .data⟩ (by simp) rfl))
          refine Does.val (.bool false) (w' := w) ?_ ⟨Below.refl _ _, rfl, hG⟩
          simp only [Array.getD_eq_getD_getElem?] at e49 e54
          go_simp
        · intro listed σ w a hin hout hl hc hp hG hF
          refine Guarded.some (d := 42) (b := false) rfl rfl ((hin 24 42 rfl (hp ⟨24, .guard⟩ (by simp) rfl)).trans (hF 24 (hp ⟨24, .guard⟩ (by simp) rfl))) ?_
          refine Or.inl ⟨rfl, ?_⟩
          have e44 : a.tmps.getD 44 undef = .bool true := (hin 26 44 rfl (hp ⟨26, .data⟩ (by simp) rfl)).trans (hF 26 (hp ⟨26, .data⟩ (by simp) rfl))
          have e55 : a.tmps.getD 55 undef = .bool false := (hin 37 55 rfl (hp ⟨37, .data⟩ (by simp) rfl)).trans (hF 37 (hp ⟨37, .data⟩ (by simp) rfl))
          refine Does.val (.bool false) (w' := w) ?_ ⟨Below.refl _ _, rfl, hG⟩
          simp only [Array.getD_eq_getD_getElem?] at e44 e55
          go_simp
        · intro listed σ w a hin hout hl hc hp hG hF
          refine Guarded.none rfl ?_
          have e42 : a.tmps.getD 42 undef = .bool false := (hin 24 42 rfl (hp ⟨24, .data⟩ (by simp) rfl)).trans (hF 24 (hp ⟨24, .data⟩ (by simp) rfl))
          have e56 : a.tmps.getD 56 undef = .bool false := (hin 38 56 rfl (hp ⟨38, .data⟩ (by simp) rfl)).trans (hF 38 (hp ⟨38, .data⟩ (by simp) rfl))
          refine Does.val (.bool false) (w' := w) ?_ ⟨Below.refl _ _, rfl, hG⟩
          simp only [Array.getD_eq_getD_getElem?] at e42 e56
          go_simp
      · intro listed σ W9 hall hG hF
        rw [show mid _ σ listed _ = (Act.put (Act.put (Act.put (Act.put (Act.put (Act.put (Act.put (Act.put (Act.put (Act.put (Act.put (Act.put (Act.put (Act.put (Act.put (Act.put (Act.put (Act.put (Act.put (Act.put (Act.put (Act.put (Act.put (Act.put (Act.put (Act.put (Act.put (Act.put (Act.put (Act.put (Act.put (Act.put (Act.put (Act.put (Act.put (Act.put (Act.put (Act.put (Act.put (Act.put _ (some 18) (σ 0)) (some 19) (σ 1)) (some 20) (σ 2)) (some 21) (σ 3)) (some 22) (σ 4)) (some 23) (σ 5)) (some 24) (σ 6)) (some 25) (σ 7)) (some 26) (σ 8)) (some 27) (σ 9)) (some 28) (σ 10)) (some 29) (σ 11)) (some 30) (σ 12)) (some 31) (σ 13)) (some 32) (σ 14)) (some 33) (σ 15)) (some 34) (σ 16)) (some 35) (σ 17)) (some 36) (σ 18)) (some 37) (σ 19)) (some 38) (σ 20)) (some 39) (σ 21)) (some 40) (σ 22)) (some 41) (σ 23)) (some 42) (σ 24)) (some 43) (σ 25)) (some 44) (σ 26)) (some 45) (σ 27)) (some 46) (σ 28)) (some 47) (σ 29)) (some 48) (σ 30)) (some 49) (σ 31)) (some 50) (σ 32)) (some 51) (σ 33)) (some 52) (σ 34)) (some 53) (σ 35)) (some 54) (σ 36)) (some 55) (σ 37)) (some 56) (σ 38)) (some 57) (σ 39)) from (mid_all hall).trans rfl]
        generalize σ 0 = tt0
        generalize σ 1 = tt1
        generalize σ 2 = tt2
        generalize σ 3 = tt3
        generalize σ 4 = tt4
        generalize σ 5 = tt5
        generalize σ 6 = tt6
        generalize σ 7 = tt7
        generalize σ 8 = tt8
        generalize σ 9 = tt9
        generalize σ 10 = tt10
        generalize σ 11 = tt11
        generalize σ 12 = tt12
        generalize σ 13 = tt13
        generalize σ 14 = tt14
        generalize σ 15 = tt15
        generalize σ 16 = tt16
        generalize σ 17 = tt17
        generalize σ 18 = tt18
        generalize σ 19 = tt19
        generalize σ 20 = tt20
        generalize σ 21 = tt21
        generalize σ 22 = tt22
        generalize σ 23 = tt23
        generalize σ 24 = tt24
        generalize σ 25 = tt25
        generalize σ 26 = tt26
        generalize σ 27 = tt27
        generalize σ 28 = tt28
        generalize σ 29 = tt29
        generalize σ 30 = tt30
        generalize σ 31 = tt31
        generalize σ 32 = tt32
        generalize σ 33 = tt33
        generalize σ 34 = tt34
        generalize σ 35 = tt35
        generalize σ 36 = tt36
        generalize σ 37 = tt37
        generalize σ 38 = tt38
        rw [show σ 39 = .bool false from hF 39 (by decide)]
        simp only [Act.put, List.setIfInBounds_toArray, List.set_cons_zero, List.set_cons_succ]
        have TG := hG
        clear hF hG hall
        clear σ
        have HR2 := hide (HR.out.next TG)
        clear SOF TG
        go_wp2_with fail
        go_roundw
        case rel => exact ⟨q + 1, by omega, by go_num, HR2⟩
        case measure => simp [intOf]; omega
    · go_wp2_with fail
      go_ret
      exact ⟨rfl, HR.out⟩
end Go.Proofs.Ytifikcaiknnjfaa
