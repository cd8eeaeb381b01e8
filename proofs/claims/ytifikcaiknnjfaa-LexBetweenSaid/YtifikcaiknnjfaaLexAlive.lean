/- lex.All and plumblineref10.All of any text; plumblinelaw10.alive. -/
import Derived.Test.YtifikcaiknnjfaaLexX
import Derived.Test.YtifikcaiknnjfaaLexSpellA
import Derived.Test.YtifikcaiknnjfaaLexSpellB
import Derived.Test.YtifikcaiknnjfaaLexK
namespace Go.Proofs.Ytifikcaiknnjfaa
open Go.RowKit
open Lx

theorem all_any (s : ByteArray) (w : World) (hs : s.size ≤ 9223372036854775807) : Calls Try.prog 10 #[.string s] w (AllPost s w) := by
  by_cases h : s.size ≤ 16384
  · exact all_short s w h
  · exact all_long s w hs (by omega)
theorem rall_any (s : ByteArray) (w : World) (hs : s.size ≤ 9223372036854775807) : Calls Try.prog 19 #[.string s] w (RAllPost s w) := by
  by_cases h : s.size ≤ 16384
  · exact rall_short s w h
  · exact rall_long s w hs (by omega)
/-- The tokens of the first example. -/
def ex1 : List TK := [⟨1, ⟨#[120, 49]⟩, 1, 1⟩, ⟨2, ⟨#[58, 61]⟩, 1, 3⟩, ⟨2, ⟨#[45]⟩, 1, 5⟩, ⟨3, ⟨#[50]⟩, 1, 6⟩, ⟨5, ⟨#[]⟩, 1, 7⟩]
theorem ex1_toks : lexAll (byteAt ⟨#[120, 49, 58, 61, 45, 50]⟩) 6 = ⟨[(1, 0, 2), (2, 2, 4), (2, 4, 5), (3, 5, 6), (5, 6, 6)], 0, 0⟩ := by kernel_rfl
theorem all_ex1 (w : World) : Calls Try.prog 10 #[.string ⟨#[120, 49, 58, 61, 45, 50]⟩] w (fun e w' => ∃ g c, e = .returned (.tuple #[.slice (some ⟨g, 0, none⟩) 5 c, .agg #[.int .i64 0, .int .i64 0], .int .i64 0]) ∧ Below w.heap.size w w' ∧ LRow 33 4 w' w.heap.size (.slice (some ⟨g, 0, none⟩) 5 c) 5 (flatK ex1)) := by
  refine (all_any ⟨#[120, 49, 58, 61, 45, 50]⟩ w (by decide)).mono ?_
  rintro e w' ⟨v, rfl, hb, hl⟩
  have e1 : lexAll (byteAt ⟨#[120, 49, 58, 61, 45, 50]⟩) (⟨#[120, 49, 58, 61, 45, 50]⟩ : ByteArray).size = ⟨[(1, 0, 2), (2, 2, 4), (2, 4, 5), (3, 5, 6), (5, 6, 6)], 0, 0⟩ := ex1_toks
  rw [e1] at hl ⊢
  have e2 : (([(1, 0, 2), (2, 2, 4), (2, 4, 5), (3, 5, 6), (5, 6, 6)] : List Tok).map (tk ⟨#[120, 49, 58, 61, 45, 50]⟩)) = ex1 := by kernel_rfl
  have hl2 : LRow 33 4 w' w.heap.size v 5 (flatK ex1) := by rw [← e2]; exact hl
  obtain ⟨A, c, rfl, h1, h2, h3⟩ := hl2.len
  obtain ⟨g, rfl⟩ := h3 (by decide)
  exact ⟨g, c, rfl, hb, hl2⟩
theorem all_ex2 (w : World) : Calls Try.prog 10 #[.string ⟨#[97, 10, 32, 32, 63]⟩] w (fun e w' => ∃ v, e = .returned (.tuple #[v, .agg #[.int .i64 2, .int .i64 3], .int .i64 100]) ∧ Below w.heap.size w w') := by
  refine (all_any ⟨#[97, 10, 32, 32, 63]⟩ w (by decide)).mono ?_
  rintro e w' ⟨v, rfl, hb, hl⟩
  have e1 : lexAll (byteAt ⟨#[97, 10, 32, 32, 63]⟩) (⟨#[97, 10, 32, 32, 63]⟩ : ByteArray).size = ⟨[], 100, 4⟩ := by kernel_rfl
  rw [e1]
  have e2 : resPos ⟨#[97, 10, 32, 32, 63]⟩ ⟨[], 100, 4⟩ = (2, 3) := by kernel_rfl
  rw [e2]
  exact ⟨v, rfl, hb⟩
theorem all_ex3 (w : World) : Calls Try.prog 10 #[.string ⟨#[48, 48, 55]⟩] w (fun e w' => ∃ v, e = .returned (.tuple #[v, .agg #[.int .i64 1, .int .i64 1], .int .i64 20]) ∧ Below w.heap.size w w') := by
  refine (all_any ⟨#[48, 48, 55]⟩ w (by decide)).mono ?_
  rintro e w' ⟨v, rfl, hb, hl⟩
  have e1 : lexAll (byteAt ⟨#[48, 48, 55]⟩) (⟨#[48, 48, 55]⟩ : ByteArray).size = ⟨[], 20, 0⟩ := by kernel_rfl
  rw [e1]
  have e2 : resPos ⟨#[48, 48, 55]⟩ ⟨[], 20, 0⟩ = (1, 1) := by kernel_rfl
  rw [e2]
  exact ⟨v, rfl, hb⟩
theorem bool_is {f : Nat} {args : Array Value} {w : World} {x : Bool} (y : Bool) (h : Calls Try.prog f args w (BoolB x w)) (e : x = y) : Calls Try.prog f args w (fun e w' => e = .returned (.bool y) ∧ Below w.heap.size w w') := e ▸ h
set_option maxRecDepth 100000 in
set_option maxHeartbeats 8000000 in
theorem lexalive_yes (w0 : World) : Calls Try.prog 9 #[] w0 (LexYes w0) := by
  have HRE := hide (fun W => (reserved_any ⟨#[105, 110, 105, 116]⟩ W).mono (R' := fun e w' => e = .returned (.bool true) ∧ Below W.heap.size W w') (fun e w' ⟨h1, k, h2⟩ => ⟨h1.trans (by kernel_rfl), h2 ▸ bl_drewN _ _⟩))
  have HN1 := hide (fun W => bool_is true (name_any ⟨#[97, 95, 49]⟩ W (by decide)) (by kernel_rfl))
  have HN2 := hide (fun W => bool_is false (name_any ⟨#[101, 110, 100]⟩ W (by decide)) (by kernel_rfl))
  have HD1 := hide (fun W => bool_is true (number_any ⟨#[49, 48]⟩ W (by decide)) (by kernel_rfl))
  have HD2 := hide (fun W => bool_is false (number_any ⟨#[]⟩ W (by decide)) (by kernel_rfl))
  have h1 := all_ex1 w0
  go_enter Try.func9, Try.ntmps9
  go_wp2_with fail
  refine h1.mono ?_
  rintro e w1 ⟨gT, cT, rfl, b1, l1⟩
  have hsz1 := b1.size
  have A1 := bl_alloc w1 (.cells #[.int .i64 0, .int .i64 0] 25)
  have B1 := hide (b1.next A1)
  have L1 := hide (l1.below A1)
  have X1 := hide (show PBox (w1.alloc (.cells #[.int .i64 0, .int .i64 0] 25)) w1.heap.size (.int .i64 0) (.int .i64 0) from heap_alloc_new w1 _)
  have h2 := all_ex2 (w1.alloc (.cells #[.int .i64 0, .int .i64 0] 25))
  clear h1 l1 b1 A1
  go_wp2_with fail
  refine h2.mono ?_
  rintro e w2 ⟨v2, rfl, b2⟩
  have hsz2 := b2.size
  have A2 := bl_alloc w2 (.cells #[.int .i64 2, .int .i64 3] 25)
  have B2 := hide ((B1.out.next b2).next A2)
  have L2 := hide ((L1.out.below b2).below A2)
  have X2 := hide ((X1.out.next b2).next A2)
  have Y2 := hide (show PBox (w2.alloc (.cells #[.int .i64 2, .int .i64 3] 25)) w2.heap.size (.int .i64 2) (.int .i64 3) from heap_alloc_new w2 _)
  have h3 := all_ex3 (w2.alloc (.cells #[.int .i64 2, .int .i64 3] 25))
  clear h2 b2 A2 B1 L1 X1 hsz1 hsz2
  go_wp2_with fail
  refine h3.mono ?_
  rintro e w3 ⟨v3, rfl, b3⟩
  have A3 := bl_alloc w3 (.cells #[.int .i64 1, .int .i64 1] 25)
  have B3 := hide ((B2.out.next b3).next A3)
  have L3 := hide ((L2.out.below b3).below A3)
  have X3 := hide ((X2.out.next b3).next A3)
  have Y3 := hide ((Y2.out.next b3).next A3)
  clear h3 b3 A3 B2 L2 X2 Y2
  go_upto_region 4 with fail
  generalize w3.alloc (.cells #[.int .i64 1, .int .i64 1] 25) = W0 at *
  generalize w1.heap.size = g1 at *
  generalize w2.heap.size = g2 at *
  have hK := hide (show KIn W0 (some ⟨gT, 0, none⟩) 5 ex1 from ⟨rfl, fun _ => by
    obtain ⟨g, hg, hb, hlt, hc⟩ := L3.out.cell (by decide)
    injection hg with hg
    injection hg with hg
    subst hg
    exact ⟨gT, 0, rfl, hlt, fun j u hu => by rw [Nat.zero_add]; exact (hc j u hu).1⟩⟩)
  have HSP := hide (fun W (h : Below W0.heap.size W0 W) => (spell_any (some ⟨gT, 0, none⟩) 5 cT ex1 W (hK.out.below h) (by decide) (by decide)).mono (R' := fun e w' => e = .returned (.string ⟨#[120, 49, 32, 58, 61, 32, 45, 32, 50, 32]⟩) ∧ Below W.heap.size W w') (fun e w' ⟨h1, h2⟩ => ⟨h1.trans (by kernel_rfl), h2⟩))
  have SOF := hide (show ∀ W, Below W0.heap.size W0 W → (W.cell? ⟨gT, 5, none⟩ = some (.string ⟨#[58, 61]⟩) ∧ W.cell? ⟨gT, 4, none⟩ = some (.int .i64 2) ∧ W.cell? ⟨gT, 12, none⟩ = some (.int .i64 3) ∧ W.cell? ⟨gT, 16, none⟩ = some (.int .i64 5) ∧ W.cell? ⟨g1, 0, none⟩ = some (.int .i64 0) ∧ W.cell? ⟨g1, 1, none⟩ = some (.int .i64 0) ∧ W.cell? ⟨g2, 0, none⟩ = some (.int .i64 2) ∧ W.cell? ⟨g2, 1, none⟩ = some (.int .i64 3)) from fun W h => by
    obtain ⟨b, o, hA, hlt, hc⟩ := (hK.out.below h).2 (by decide)
    injection hA with hA
    injection hA with hb ho
    subst hb; subst ho
    have hc' : ∀ j u, (flatK ex1)[j]? = some u → W.cell? ⟨gT, j, none⟩ = some u := fun j u hu => by have := hc j u hu; rwa [Nat.zero_add] at this
    exact ⟨hc' 5 _ rfl, hc' 4 _ rfl, hc' 12 _ rfl, hc' 16 _ rfl, (X3.out.next h).cells.1, (X3.out.next h).cells.2, (Y3.out.next h).cells.1, (Y3.out.next h).cells.2⟩)
  clear hK L3 X3 Y3
  refine wp_kept (by kernel_rfl) (by kernel_rfl) (fun w w' => Below w.heap.size w w') (fun j v w => match j with | 0 => v = .int .i64 0 | 1 => v = .bool true | 2 => v = .bool true | 3 => v = .slice (some ⟨gT, 0, none⟩) 5 cT | 4 => v = .int .i64 5 | 5 => v = .bool true | 6 => v = .bool true | 7 => v = .bool true | 8 => v = .slice (some ⟨gT, 0, none⟩) 5 cT | 9 => v = .pointer (some ⟨gT, 4, none⟩) | 10 => v = .pointer (some ⟨gT, 5, none⟩) | 11 => v = .string ⟨#[58, 61]⟩ | 12 => v = .bool true | 13 => v = .bool true | 14 => v = .bool true | 15 => v = .slice (some ⟨gT, 0, none⟩) 5 cT | 16 => v = .pointer (some ⟨gT, 4, none⟩) | 17 => v = .pointer (some ⟨gT, 4, none⟩) | 18 => v = .int .i64 2 | 19 => v = .bool true | 20 => v = .bool true | 21 => v = .bool true | 22 => v = .slice (some ⟨gT, 0, none⟩) 5 cT | 23 => v = .pointer (some ⟨gT, 12, none⟩) | 24 => v = .pointer (some ⟨gT, 12, none⟩) | 25 => v = .int .i64 3 | 26 => v = .bool true | 27 => v = .bool true | 28 => v = .bool true | 29 => v = .slice (some ⟨gT, 0, none⟩) 5 cT | 30 => v = .pointer (some ⟨gT, 16, none⟩) | 31 => v = .pointer (some ⟨gT, 16, none⟩) | 32 => v = .int .i64 5 | 33 => v = .bool true | 34 => v = .bool true | 35 => v = .bool true | 36 => v = .agg #[.int .i64 0, .int .i64 0] | 37 => v = .agg #[.int .i64 0, .int .i64 0] | 38 => v = .bool true | 39 => v = .bool true | 40 => v = .bool true | 41 => v = .int .i64 100 | 42 => v = .bool true | 43 => v = .bool true | 44 => v = .bool true | 45 => v = .agg #[.int .i64 2, .int .i64 3] | 46 => v = .agg #[.int .i64 2, .int .i64 3] | 47 => v = .bool true | 48 => v = .bool true | 49 => v = .bool true | 50 => v = .int .i64 20 | 51 => v = .bool true | 52 => v = .bool true | 53 => v = .bool true | 54 => v = .slice (some ⟨gT, 0, none⟩) 5 cT | 55 => v = .string ⟨#[120, 49, 32, 58, 61, 32, 45, 32, 50, 32]⟩ | 56 => v = .bool true | 57 => v = .bool true | 58 => v = .bool true | 59 => v = .bool true | 60 => v = .bool true | 61 => v = .bool true | 62 => v = .bool true | 63 => v = .bool true | 64 => v = .bool true | 65 => v = .bool false | 66 => v = .bool true | 67 => v = .bool true | 68 => v = .bool true | 69 => v = .bool true | 70 => v = .bool true | 71 => v = .bool true | 72 => v = .bool false | 73 => v = .bool true | 74 => v = .bool true | 75 => v = .bool true | _ => True) (fun _ _ w => Below W0.heap.size W0 w) ?_ (fun _ => Below.refl _ _) ?_ ?_
  · intro j v w w' hT h
    match j, h with
    | 0, h => exact h
    | 1, h => exact h
    | 2, h => exact h
    | 3, h => exact h
    | 4, h => exact h
    | 5, h => exact h
    | 6, h => exact h
    | 7, h => exact h
    | 8, h => exact h
    | 9, h => exact h
    | 10, h => exact h
    | 11, h => exact h
    | 12, h => exact h
    | 13, h => exact h
    | 14, h => exact h
    | 15, h => exact h
    | 16, h => exact h
    | 17, h => exact h
    | 18, h => exact h
    | 19, h => exact h
    | 20, h => exact h
    | 21, h => exact h
    | 22, h => exact h
    | 23, h => exact h
    | 24, h => exact h
    | 25, h => exact h
    | 26, h => exact h
    | 27, h => exact h
    | 28, h => exact h
    | 29, h => exact h
    | 30, h => exact h
    | 31, h => exact h
    | 32, h => exact h
    | 33, h => exact h
    | 34, h => exact h
    | 35, h => exact h
    | 36, h => exact h
    | 37, h => exact h
    | 38, h => exact h
    | 39, h => exact h
    | 40, h => exact h
    | 41, h => exact h
    | 42, h => exact h
    | 43, h => exact h
    | 44, h => exact h
    | 45, h => exact h
    | 46, h => exact h
    | 47, h => exact h
    | 48, h => exact h
    | 49, h => exact h
    | 50, h => exact h
    | 51, h => exact h
    | 52, h => exact h
    | 53, h => exact h
    | 54, h => exact h
    | 55, h => exact h
    | 56, h => exact h
    | 57, h => exact h
    | 58, h => exact h
    | 59, h => exact h
    | 60, h => exact h
    | 61, h => exact h
    | 62, h => exact h
    | 63, h => exact h
    | 64, h => exact h
    | 65, h => exact h
    | 66, h => exact h
    | 67, h => exact h
    | 68, h => exact h
    | 69, h => exact h
    | 70, h => exact h
    | 71, h => exact h
    | 72, h => exact h
    | 73, h => exact h
    | 74, h => exact h
    | 75, h => exact h
    | j + 76, h => trivial
  · refine ⟨?_, ?_, ?_, ?_, ?_, ?_, ?_, ?_, ?_, ?_, ?_, ?_, ?_, ?_, ?_, ?_, ?_, ?_, ?_, ?_, ?_, ?_, ?_, ?_, ?_, ?_, ?_, ?_, ?_, ?_, ?_, ?_, ?_, ?_, ?_, ?_, ?_, ?_, ?_, ?_, ?_, ?_, ?_, ?_, ?_, ?_, ?_, ?_, ?_, ?_, ?_, ?_, ?_, ?_, ?_, ?_, ?_, ?_, ?_, ?_, ?_, ?_, ?_, ?_, ?_, ?_, ?_, ?_, ?_, ?_, ?_, ?_, ?_, ?_, ?_, ?_, trivial⟩
    · intro listed σ w a hin hout hl hc hp hG hF
      refine Guarded.none rfl ?_
      have e3 : a.tmps.getD 3 undef = .int .i64 0 := hout 3 (outB_spec (by kernel_rfl))
      refine Does.val (.int .i64 0) (w' := w) ?_ ⟨Below.refl _ _, rfl, hG⟩
      simp only [Array.getD_eq_getD_getElem?] at e3
      go_simp
    · intro listed σ w a hin hout hl hc hp hG hF
      refine Guarded.none rfl ?_
      have e25 : a.tmps.getD 25 undef = .int .i64 0 := (hin 0 25 rfl (hp ⟨0, .data⟩ (by simp) rfl)).trans (hF 0 (hp ⟨0, .data⟩ (by simp) rfl))
      refine Does.val (.bool true) (w' := w) ?_ ⟨Below.refl _ _, rfl, hG⟩
      simp only [Array.getD_eq_getD_getElem?] at e25
      go_simp
    · intro listed σ w a hin hout hl hc hp hG hF
      refine Guarded.none rfl ?_
      have e26 : a.tmps.getD 26 undef = .bool true := (hin 1 26 rfl (hp ⟨1, .data⟩ (by simp) rfl)).trans (hF 1 (hp ⟨1, .data⟩ (by simp) rfl))
      refine Does.val (.bool true) (w' := w) ?_ ⟨Below.refl _ _, rfl, hG⟩
      simp only [Array.getD_eq_getD_getElem?] at e26
      go_simp
    · intro listed σ w a hin hout hl hc hp hG hF
      refine Guarded.some (d := 27) (b := true) rfl rfl ((hin 2 27 rfl (hp ⟨2, .guard⟩ (by simp) rfl)).trans (hF 2 (hp ⟨2, .guard⟩ (by simp) rfl))) ?_
      refine Or.inl ⟨rfl, ?_⟩
      have e1 : a.tmps.getD 1 undef = .slice (some ⟨gT, 0, none⟩) 5 cT := hout 1 (outB_spec (by kernel_rfl))
      refine Does.val (.slice (some ⟨gT, 0, none⟩) 5 cT) (w' := w) ?_ ⟨Below.refl _ _, rfl, hG⟩
      simp only [Array.getD_eq_getD_getElem?] at e1
      go_simp
    · intro listed σ w a hin hout hl hc hp hG hF
      refine Guarded.some (d := 27) (b := true) rfl rfl ((hin 2 27 rfl (hp ⟨2, .guard⟩ (by simp) rfl)).trans (hF 2 (hp ⟨2, .guard⟩ (by simp) rfl))) ?_
      refine Or.inl ⟨rfl, ?_⟩
      have e28 : a.tmps.getD 28 undef = .slice (some ⟨gT, 0, none⟩) 5 cT := (hin 3 28 rfl (hp ⟨3, .data⟩ (by simp) rfl)).trans (hF 3 (hp ⟨3, .data⟩ (by simp) rfl))
      refine Does.val (.int .i64 5) (w' := w) ?_ ⟨Below.refl _ _, rfl, hG⟩
      simp only [Array.getD_eq_getD_getElem?] at e28
      go_simp
    · intro listed σ w a hin hout hl hc hp hG hF
      refine Guarded.some (d := 27) (b := true) rfl rfl ((hin 2 27 rfl (hp ⟨2, .guard⟩ (by simp) rfl)).trans (hF 2 (hp ⟨2, .guard⟩ (by simp) rfl))) ?_
      refine Or.inl ⟨rfl, ?_⟩
      have e29 : a.tmps.getD 29 undef = .int .i64 5 := (hin 4 29 rfl (hp ⟨4, .data⟩ (by simp) rfl)).trans (hF 4 (hp ⟨4, .data⟩ (by simp) rfl))
      refine Does.val (.bool true) (w' := w) ?_ ⟨Below.refl _ _, rfl, hG⟩
      simp only [Array.getD_eq_getD_getElem?] at e29
      go_simp
    · intro listed σ w a hin hout hl hc hp hG hF
      refine Guarded.none rfl ?_
      have e27 : a.tmps.getD 27 undef = .bool true := (hin 2 27 rfl (hp ⟨2, .data⟩ (by simp) rfl)).trans (hF 2 (hp ⟨2, .data⟩ (by simp) rfl))
      have e30 : a.tmps.getD 30 undef = .bool true := (hin 5 30 rfl (hp ⟨5, .data⟩ (by simp) rfl)).trans (hF 5 (hp ⟨5, .data⟩ (by simp) rfl))
      refine Does.val (.bool true) (w' := w) ?_ ⟨Below.refl _ _, rfl, hG⟩
      simp only [Array.getD_eq_getD_getElem?] at e27 e30
      go_simp
    · intro listed σ w a hin hout hl hc hp hG hF
      refine Guarded.none rfl ?_
      have e31 : a.tmps.getD 31 undef = .bool true := (hin 6 31 rfl (hp ⟨6, .data⟩ (by simp) rfl)).trans (hF 6 (hp ⟨6, .data⟩ (by simp) rfl))
      refine Does.val (.bool true) (w' := w) ?_ ⟨Below.refl _ _, rfl, hG⟩
      simp only [Array.getD_eq_getD_getElem?] at e31
      go_simp
    · intro listed σ w a hin hout hl hc hp hG hF
      refine Guarded.some (d := 32) (b := true) rfl rfl ((hin 7 32 rfl (hp ⟨7, .guard⟩ (by simp) rfl)).trans (hF 7 (hp ⟨7, .guard⟩ (by simp) rfl))) ?_
      refine Or.inl ⟨rfl, ?_⟩
      have e1 : a.tmps.getD 1 undef = .slice (some ⟨gT, 0, none⟩) 5 cT := hout 1 (outB_spec (by kernel_rfl))
      refine Does.val (.slice (some ⟨gT, 0, none⟩) 5 cT) (w' := w) ?_ ⟨Below.refl _ _, rfl, hG⟩
      simp only [Array.getD_eq_getD_getElem?] at e1
      go_simp
    · intro listed σ w a hin hout hl hc hp hG hF
      refine Guarded.some (d := 32) (b := true) rfl rfl ((hin 7 32 rfl (hp ⟨7, .guard⟩ (by simp) rfl)).trans (hF 7 (hp ⟨7, .guard⟩ (by simp) rfl))) ?_
      refine Or.inl ⟨rfl, ?_⟩
      have e33 : a.tmps.getD 33 undef = .slice (some ⟨gT, 0, none⟩) 5 cT := (hin 8 33 rfl (hp ⟨8, .data⟩ (by simp) rfl)).trans (hF 8 (hp ⟨8, .data⟩ (by simp) rfl))
      refine Does.val (.pointer (some ⟨gT, 4, none⟩)) (w' := w) ?_ ⟨Below.refl _ _, rfl, hG⟩
      simp only [Array.getD_eq_getD_getElem?] at e33
      go_simp
      (try (intro hh; exfalso; omega))
    · intro listed σ w a hin hout hl hc hp hG hF
      refine Guarded.some (d := 32) (b := true) rfl rfl ((hin 7 32 rfl (hp ⟨7, .guard⟩ (by simp) rfl)).trans (hF 7 (hp ⟨7, .guard⟩ (by simp) rfl))) ?_
      refine Or.inl ⟨rfl, ?_⟩
      have e34 : a.tmps.getD 34 undef = .pointer (some ⟨gT, 4, none⟩) := (hin 9 34 rfl (hp ⟨9, .data⟩ (by simp) rfl)).trans (hF 9 (hp ⟨9, .data⟩ (by simp) rfl))
      refine Does.val (.pointer (some ⟨gT, 5, none⟩)) (w' := w) ?_ ⟨Below.refl _ _, rfl, hG⟩
      simp only [Array.getD_eq_getD_getElem?] at e34
      go_simp
    · intro listed σ w a hin hout hl hc hp hG hF
      refine Guarded.some (d := 32) (b := true) rfl rfl ((hin 7 32 rfl (hp ⟨7, .guard⟩ (by simp) rfl)).trans (hF 7 (hp ⟨7, .guard⟩ (by simp) rfl))) ?_
      refine Or.inl ⟨rfl, ?_⟩
      have e35 : a.tmps.getD 35 undef = .pointer (some ⟨gT, 5, none⟩) := (hin 10 35 rfl (hp ⟨10, .data⟩ (by simp) rfl)).trans (hF 10 (hp ⟨10, .data⟩ (by simp) rfl))
      have CC := SOF.out w hG; obtain ⟨C0, C1, C2, C3, C4, C5, C6, C7⟩ := CC
      refine Does.val (.string ⟨#[58, 61]⟩) (w' := w) ?_ ⟨Below.refl _ _, rfl, hG⟩
      go_simp
    · intro listed σ w a hin hout hl hc hp hG hF
      refine Guarded.some (d := 32) (b := true) rfl rfl ((hin 7 32 rfl (hp ⟨7, .guard⟩ (by simp) rfl)).trans (hF 7 (hp ⟨7, .guard⟩ (by simp) rfl))) ?_
      refine Or.inl ⟨rfl, ?_⟩
      have e36 : a.tmps.getD 36 undef = .string ⟨#[58, 61]⟩ := (hin 11 36 rfl (hp ⟨11, .data⟩ (by simp) rfl)).trans (hF 11 (hp ⟨11, .data⟩ (by simp) rfl))
      refine Does.val (.bool true) (w' := w) ?_ ⟨Below.refl _ _, rfl, hG⟩
      simp only [Array.getD_eq_getD_getElem?] at e36
      go_simp
    · intro listed σ w a hin hout hl hc hp hG hF
      refine Guarded.none rfl ?_
      have e32 : a.tmps.getD 32 undef = .bool true := (hin 7 32 rfl (hp ⟨7, .data⟩ (by simp) rfl)).trans (hF 7 (hp ⟨7, .data⟩ (by simp) rfl))
      have e37 : a.tmps.getD 37 undef = .bool true := (hin 12 37 rfl (hp ⟨12, .data⟩ (by simp) rfl)).trans (hF 12 (hp ⟨12, .data⟩ (by simp) rfl))
      refine Does.val (.bool true) (w' := w) ?_ ⟨Below.refl _ _, rfl, hG⟩
      simp only [Array.getD_eq_getD_getElem?] at e32 e37
      go_simp
    · intro listed σ w a hin hout hl hc hp hG hF
      refine Guarded.none rfl ?_
      have e38 : a.tmps.getD 38 undef = .bool true := (hin 13 38 rfl (hp ⟨13, .data⟩ (by simp) rfl)).trans (hF 13 (hp ⟨13, .data⟩ (by simp) rfl))
      refine Does.val (.bool true) (w' := w) ?_ ⟨Below.refl _ _, rfl, hG⟩
      simp only [Array.getD_eq_getD_getElem?] at e38
      go_simp
    · intro listed σ w a hin hout hl hc hp hG hF
      refine Guarded.some (d := 39) (b := true) rfl rfl ((hin 14 39 rfl (hp ⟨14, .guard⟩ (by simp) rfl)).trans (hF 14 (hp ⟨14, .guard⟩ (by simp) rfl))) ?_
      refine Or.inl ⟨rfl, ?_⟩
      have e1 : a.tmps.getD 1 undef = .slice (some ⟨gT, 0, none⟩) 5 cT := hout 1 (outB_spec (by kernel_rfl))
      refine Does.val (.slice (some ⟨gT, 0, none⟩) 5 cT) (w' := w) ?_ ⟨Below.refl _ _, rfl, hG⟩
      simp only [Array.getD_eq_getD_getElem?] at e1
      go_simp
    · intro listed σ w a hin hout hl hc hp hG hF
      refine Guarded.some (d := 39) (b := true) rfl rfl ((hin 14 39 rfl (hp ⟨14, .guard⟩ (by simp) rfl)).trans (hF 14 (hp ⟨14, .guard⟩ (by simp) rfl))) ?_
      refine Or.inl ⟨rfl, ?_⟩
      have e40 : a.tmps.getD 40 undef = .slice (some ⟨gT, 0, none⟩) 5 cT := (hin 15 40 rfl (hp ⟨15, .data⟩ (by simp) rfl)).trans (hF 15 (hp ⟨15, .data⟩ (by simp) rfl))
      refine Does.val (.pointer (some ⟨gT, 4, none⟩)) (w' := w) ?_ ⟨Below.refl _ _, rfl, hG⟩
      simp only [Array.getD_eq_getD_getElem?] at e40
      go_simp
      (try (intro hh; exfalso; omega))
    · intro listed σ w a hin hout hl hc hp hG hF
      refine Guarded.some (d := 39) (b := true) rfl rfl ((hin 14 39 rfl (hp ⟨14, .guard⟩ (by simp) rfl)).trans (hF 14 (hp ⟨14, .guard⟩ (by simp) rfl))) ?_
      refine Or.inl ⟨rfl, ?_⟩
      have e41 : a.tmps.getD 41 undef = .pointer (some ⟨gT, 4, none⟩) := (hin 16 41 rfl (hp ⟨16, .data⟩ (by simp) rfl)).trans (hF 16 (hp ⟨16, .data⟩ (by simp) rfl))
      refine Does.val (.pointer (some ⟨gT, 4, none⟩)) (w' := w) ?_ ⟨Below.refl _ _, rfl, hG⟩
      simp only [Array.getD_eq_getD_getElem?] at e41
      go_simp
    · intro listed σ w a hin hout hl hc hp hG hF
      refine Guarded.some (d := 39) (b := true) rfl rfl ((hin 14 39 rfl (hp ⟨14, .guard⟩ (by simp) rfl)).trans (hF 14 (hp ⟨14, .guard⟩ (by simp) rfl))) ?_
      refine Or.inl ⟨rfl, ?_⟩
      have e42 : a.tmps.getD 42 undef = .pointer (some ⟨gT, 4, none⟩) := (hin 17 42 rfl (hp ⟨17, .data⟩ (by simp) rfl)).trans (hF 17 (hp ⟨17, .data⟩ (by simp) rfl))
      have CC := SOF.out w hG; obtain ⟨C0, C1, C2, C3, C4, C5, C6, C7⟩ := CC
      refine Does.val (.int .i64 2) (w' := w) ?_ ⟨Below.refl _ _, rfl, hG⟩
      go_simp
    · intro listed σ w a hin hout hl hc hp hG hF
      refine Guarded.some (d := 39) (b := true) rfl rfl ((hin 14 39 rfl (hp ⟨14, .guard⟩ (by simp) rfl)).trans (hF 14 (hp ⟨14, .guard⟩ (by simp) rfl))) ?_
      refine Or.inl ⟨rfl, ?_⟩
      have e43 : a.tmps.getD 43 undef = .int .i64 2 := (hin 18 43 rfl (hp ⟨18, .data⟩ (by simp) rfl)).trans (hF 18 (hp ⟨18, .data⟩ (by simp) rfl))
      refine Does.val (.bool true) (w' := w) ?_ ⟨Below.refl _ _, rfl, hG⟩
      simp only [Array.getD_eq_getD_getElem?] at e43
      go_simp
    · intro listed σ w a hin hout hl hc hp hG hF
      refine Guarded.none rfl ?_
      have e39 : a.tmps.getD 39 undef = .bool true := (hin 14 39 rfl (hp ⟨14, .data⟩ (by simp) rfl)).trans (hF 14 (hp ⟨14, .data⟩ (by simp) rfl))
      have e44 : a.tmps.getD 44 undef = .bool true := (hin 19 44 rfl (hp ⟨19, .data⟩ (by simp) rfl)).trans (hF 19 (hp ⟨19, .data⟩ (by simp) rfl))
      refine Does.val (.bool true) (w' := w) ?_ ⟨Below.refl _ _, rfl, hG⟩
      simp only [Array.getD_eq_getD_getElem?] at e39 e44
      go_simp
    · intro listed σ w a hin hout hl hc hp hG hF
      refine Guarded.none rfl ?_
      have e45 : a.tmps.getD 45 undef = .bool true := (hin 20 45 rfl (hp ⟨20, .data⟩ (by simp) rfl)).trans (hF 20 (hp ⟨20, .data⟩ (by simp) rfl))
      refine Does.val (.bool true) (w' := w) ?_ ⟨Below.refl _ _, rfl, hG⟩
      simp only [Array.getD_eq_getD_getElem?] at e45
      go_simp
    · intro listed σ w a hin hout hl hc hp hG hF
      refine Guarded.some (d := 46) (b := true) rfl rfl ((hin 21 46 rfl (hp ⟨21, .guard⟩ (by simp) rfl)).trans (hF 21 (hp ⟨21, .guard⟩ (by simp) rfl))) ?_
      refine Or.inl ⟨rfl, ?_⟩
      have e1 : a.tmps.getD 1 undef = .slice (some ⟨gT, 0, none⟩) 5 cT := hout 1 (outB_spec (by kernel_rfl))
      refine Does.val (.slice (some ⟨gT, 0, none⟩) 5 cT) (w' := w) ?_ ⟨Below.refl _ _, rfl, hG⟩
      simp only [Array.getD_eq_getD_getElem?] at e1
      go_simp
    · intro listed σ w a hin hout hl hc hp hG hF
      refine Guarded.some (d := 46) (b := true) rfl rfl ((hin 21 46 rfl (hp ⟨21, .guard⟩ (by simp) rfl)).trans (hF 21 (hp ⟨21, .guard⟩ (by simp) rfl))) ?_
      refine Or.inl ⟨rfl, ?_⟩
      have e47 : a.tmps.getD 47 undef = .slice (some ⟨gT, 0, none⟩) 5 cT := (hin 22 47 rfl (hp ⟨22, .data⟩ (by simp) rfl)).trans (hF 22 (hp ⟨22, .data⟩ (by simp) rfl))
      refine Does.val (.pointer (some ⟨gT, 12, none⟩)) (w' := w) ?_ ⟨Below.refl _ _, rfl, hG⟩
      simp only [Array.getD_eq_getD_getElem?] at e47
      go_simp
      (try (intro hh; exfalso; omega))
    · intro listed σ w a hin hout hl hc hp hG hF
      refine Guarded.some (d := 46) (b := true) rfl rfl ((hin 21 46 rfl (hp ⟨21, .guard⟩ (by simp) rfl)).trans (hF 21 (hp ⟨21, .guard⟩ (by simp) rfl))) ?_
      refine Or.inl ⟨rfl, ?_⟩
      have e48 : a.tmps.getD 48 undef = .pointer (some ⟨gT, 12, none⟩) := (hin 23 48 rfl (hp ⟨23, .data⟩ (by simp) rfl)).trans (hF 23 (hp ⟨23, .data⟩ (by simp) rfl))
      refine Does.val (.pointer (some ⟨gT, 12, none⟩)) (w' := w) ?_ ⟨Below.refl _ _, rfl, hG⟩
      simp only [Array.getD_eq_getD_getElem?] at e48
      go_simp
    · intro listed σ w a hin hout hl hc hp hG hF
      refine Guarded.some (d := 46) (b := true) rfl rfl ((hin 21 46 rfl (hp ⟨21, .guard⟩ (by simp) rfl)).trans (hF 21 (hp ⟨21, .guard⟩ (by simp) rfl))) ?_
      refine Or.inl ⟨rfl, ?_⟩
      have e49 : a.tmps.getD 49 undef = .pointer (some ⟨gT, 12, none⟩) := (hin 24 49 rfl (hp ⟨24, .data⟩ (by simp) rfl)).trans (hF 24 (hp ⟨24, .data⟩ (by simp) rfl))
      have CC := SOF.out w hG; obtain ⟨C0, C1, C2, C3, C4, C5, C6, C7⟩ := CC
      refine Does.val (.int .i64 3) (w' := w) ?_ ⟨Below.refl _ _, rfl, hG⟩
      go_simp
    · intro listed σ w a hin hout hl hc hp hG hF
      refine Guarded.some (d := 46) (b := true) rfl rfl ((hin 21 46 rfl (hp ⟨21, .guard⟩ (by simp) rfl)).trans (hF 21 (hp ⟨21, .guard⟩ (by simp) rfl))) ?_
      refine Or.inl ⟨rfl, ?_⟩
      have e50 : a.tmps.getD 50 undef = .int .i64 3 := (hin 25 50 rfl (hp ⟨25, .data⟩ (by simp) rfl)).trans (hF 25 (hp ⟨25, .data⟩ (by simp) rfl))
      refine Does.val (.bool true) (w' := w) ?_ ⟨Below.refl _ _, rfl, hG⟩
      simp only [Array.getD_eq_getD_getElem?] at e50
      go_simp
    · intro listed σ w a hin hout hl hc hp hG hF
      refine Guarded.none rfl ?_
      have e46 : a.tmps.getD 46 undef = .bool true := (hin 21 46 rfl (hp ⟨21, .data⟩ (by simp) rfl)).trans (hF 21 (hp ⟨21, .data⟩ (by simp) rfl))
      have e51 : a.tmps.getD 51 undef = .bool true := (hin 26 51 rfl (hp ⟨26, .data⟩ (by simp) rfl)).trans (hF 26 (hp ⟨26, .data⟩ (by simp) rfl))
      refine Does.val (.bool true) (w' := w) ?_ ⟨Below.refl _ _, rfl, hG⟩
      simp only [Array.getD_eq_getD_getElem?] at e46 e51
      go_simp
    · intro listed σ w a hin hout hl hc hp hG hF
      refine Guarded.none rfl ?_
      have e52 : a.tmps.getD 52 undef = .bool true := (hin 27 52 rfl (hp ⟨27, .data⟩ (by simp) rfl)).trans (hF 27 (hp ⟨27, .data⟩ (by simp) rfl))
      refine Does.val (.bool true) (w' := w) ?_ ⟨Below.refl _ _, rfl, hG⟩
      simp only [Array.getD_eq_getD_getElem?] at e52
      go_simp
    · intro listed σ w a hin hout hl hc hp hG hF
      refine Guarded.some (d := 53) (b := true) rfl rfl ((hin 28 53 rfl (hp ⟨28, .guard⟩ (by simp) rfl)).trans (hF 28 (hp ⟨28, .guard⟩ (by simp) rfl))) ?_
      refine Or.inl ⟨rfl, ?_⟩
      have e1 : a.tmps.getD 1 undef = .slice (some ⟨gT, 0, none⟩) 5 cT := hout 1 (outB_spec (by kernel_rfl))
      refine Does.val (.slice (some ⟨gT, 0, none⟩) 5 cT) (w' := w) ?_ ⟨Below.refl _ _, rfl, hG⟩
      simp only [Array.getD_eq_getD_getElem?] at e1
      go_simp
    · intro listed σ w a hin hout hl hc hp hG hF
      refine Guarded.some (d := 53) (b := true) rfl rfl ((hin 28 53 rfl (hp ⟨28, .guard⟩ (by simp) rfl)).trans (hF 28 (hp ⟨28, .guard⟩ (by simp) rfl))) ?_
      refine Or.inl ⟨rfl, ?_⟩
      have e54 : a.tmps.getD 54 undef = .slice (some ⟨gT, 0, none⟩) 5 cT := (hin 29 54 rfl (hp ⟨29, .data⟩ (by simp) rfl)).trans (hF 29 (hp ⟨29, .data⟩ (by simp) rfl))
      refine Does.val (.pointer (some ⟨gT, 16, none⟩)) (w' := w) ?_ ⟨Below.refl _ _, rfl, hG⟩
      simp only [Array.getD_eq_getD_getElem?] at e54
      go_simp
      (try (intro hh; exfalso; omega))
    · intro listed σ w a hin hout hl hc hp hG hF
      refine Guarded.some (d := 53) (b := true) rfl rfl ((hin 28 53 rfl (hp ⟨28, .guard⟩ (by simp) rfl)).trans (hF 28 (hp ⟨28, .guard⟩ (by simp) rfl))) ?_
      refine Or.inl ⟨rfl, ?_⟩
      have e55 : a.tmps.getD 55 undef = .pointer (some ⟨gT, 16, none⟩) := (hin 30 55 rfl (hp ⟨30, .data⟩ (by simp) rfl)).trans (hF 30 (hp ⟨30, .data⟩ (by simp) rfl))
      refine Does.val (.pointer (some ⟨gT, 16, none⟩)) (w' := w) ?_ ⟨Below.refl _ _, rfl, hG⟩
      simp only [Array.getD_eq_getD_getElem?] at e55
      go_simp
    · intro listed σ w a hin hout hl hc hp hG hF
      refine Guarded.some (d := 53) (b := true) rfl rfl ((hin 28 53 rfl (hp ⟨28, .guard⟩ (by simp) rfl)).trans (hF 28 (hp ⟨28, .guard⟩ (by simp) rfl))) ?_
      refine Or.inl ⟨rfl, ?_⟩
      have e56 : a.tmps.getD 56 undef = .pointer (some ⟨gT, 16, none⟩) := (hin 31 56 rfl (hp ⟨31, .data⟩ (by simp) rfl)).trans (hF 31 (hp ⟨31, .data⟩ (by simp) rfl))
      have CC := SOF.out w hG; obtain ⟨C0, C1, C2, C3, C4, C5, C6, C7⟩ := CC
      refine Does.val (.int .i64 5) (w' := w) ?_ ⟨Below.refl _ _, rfl, hG⟩
      go_simp
    · intro listed σ w a hin hout hl hc hp hG hF
      refine Guarded.some (d := 53) (b := true) rfl rfl ((hin 28 53 rfl (hp ⟨28, .guard⟩ (by simp) rfl)).trans (hF 28 (hp ⟨28, .guard⟩ (by simp) rfl))) ?_
      refine Or.inl ⟨rfl, ?_⟩
      have e57 : a.tmps.getD 57 undef = .int .i64 5 := (hin 32 57 rfl (hp ⟨32, .data⟩ (by simp) rfl)).trans (hF 32 (hp ⟨32, .data⟩ (by simp) rfl))
      refine Does.val (.bool true) (w' := w) ?_ ⟨Below.refl _ _, rfl, hG⟩
      simp only [Array.getD_eq_getD_getElem?] at e57
      go_simp
    · intro listed σ w a hin hout hl hc hp hG hF
      refine Guarded.none rfl ?_
      have e53 : a.tmps.getD 53 undef = .bool true := (hin 28 53 rfl (hp ⟨28, .data⟩ (by simp) rfl)).trans (hF 28 (hp ⟨28, .data⟩ (by simp) rfl))
      have e58 : a.tmps.getD 58 undef = .bool true := (hin 33 58 rfl (hp ⟨33, .data⟩ (by simp) rfl)).trans (hF 33 (hp ⟨33, .data⟩ (by simp) rfl))
      refine Does.val (.bool true) (w' := w) ?_ ⟨Below.refl _ _, rfl, hG⟩
      simp only [Array.getD_eq_getD_getElem?] at e53 e58
      go_simp
    · intro listed σ w a hin hout hl hc hp hG hF
      refine Guarded.none rfl ?_
      have e59 : a.tmps.getD 59 undef = .bool true := (hin 34 59 rfl (hp ⟨34, .data⟩ (by simp) rfl)).trans (hF 34 (hp ⟨34, .data⟩ (by simp) rfl))
      refine Does.val (.bool true) (w' := w) ?_ ⟨Below.refl _ _, rfl, hG⟩
      simp only [Array.getD_eq_getD_getElem?] at e59
      go_simp
    · intro listed σ w a hin hout hl hc hp hG hF
      refine Guarded.some (d := 60) (b := true) rfl rfl ((hin 35 60 rfl (hp ⟨35, .guard⟩ (by simp) rfl)).trans (hF 35 (hp ⟨35, .guard⟩ (by simp) rfl))) ?_
      refine Or.inl ⟨rfl, ?_⟩
      have e2 : a.tmps.getD 2 undef = .pointer (some ⟨g1, 0, none⟩) := hout 2 (outB_spec (by kernel_rfl))
      have CC := SOF.out w hG; obtain ⟨C0, C1, C2, C3, C4, C5, C6, C7⟩ := CC
      refine Does.val (.agg #[.int .i64 0, .int .i64 0]) (w' := w) ?_ ⟨Below.refl _ _, rfl, hG⟩
      go_simp
    · intro listed σ w a hin hout hl hc hp hG hF
      refine Guarded.some (d := 60) (b := true) rfl rfl ((hin 35 60 rfl (hp ⟨35, .guard⟩ (by simp) rfl)).trans (hF 35 (hp ⟨35, .guard⟩ (by simp) rfl))) ?_
      refine Or.inl ⟨rfl, ?_⟩
      refine Does.val (.agg #[.int .i64 0, .int .i64 0]) (w' := w) ?_ ⟨Below.refl _ _, rfl, hG⟩
      go_simp
    · intro listed σ w a hin hout hl hc hp hG hF
      refine Guarded.some (d := 60) (b := true) rfl rfl ((hin 35 60 rfl (hp ⟨35, .guard⟩ (by simp) rfl)).trans (hF 35 (hp ⟨35, .guard⟩ (by simp) rfl))) ?_
      refine Or.inl ⟨rfl, ?_⟩
      have e61 : a.tmps.getD 61 undef = .agg #[.int .i64 0, .int .i64 0] := (hin 36 61 rfl (hp ⟨36, .data⟩ (by simp) rfl)).trans (hF 36 (hp ⟨36, .data⟩ (by simp) rfl))
      have e62 : a.tmps.getD 62 undef = .agg #[.int .i64 0, .int .i64 0] := (hin 37 62 rfl (hp ⟨37, .data⟩ (by simp) rfl)).trans (hF 37 (hp ⟨37, .data⟩ (by simp) rfl))
      refine Does.val (.bool true) (w' := w) ?_ ⟨Below.refl _ _, rfl, hG⟩
      simp only [Array.getD_eq_getD_getElem?] at e61 e62
      go_simp
    · intro listed σ w a hin hout hl hc hp hG hF
      refine Guarded.none rfl ?_
      have e60 : a.tmps.getD 60 undef = .bool true := (hin 35 60 rfl (hp ⟨35, .data⟩ (by simp) rfl)).trans (hF 35 (hp ⟨35, .data⟩ (by simp) rfl))
      have e63 : a.tmps.getD 63 undef = .bool true := (hin 38 63 rfl (hp ⟨38, .data⟩ (by simp) rfl)).trans (hF 38 (hp ⟨38, .data⟩ (by simp) rfl))
      refine Does.val (.bool true) (w' := w) ?_ ⟨Below.refl _ _, rfl, hG⟩
      simp only [Array.getD_eq_getD_getElem?] at e60 e63
      go_simp
    · intro listed σ w a hin hout hl hc hp hG hF
      refine Guarded.none rfl ?_
      have e64 : a.tmps.getD 64 undef = .bool true := (hin 39 64 rfl (hp ⟨39, .data⟩ (by simp) rfl)).trans (hF 39 (hp ⟨39, .data⟩ (by simp) rfl))
      refine Does.val (.bool true) (w' := w) ?_ ⟨Below.refl _ _, rfl, hG⟩
      simp only [Array.getD_eq_getD_getElem?] at e64
      go_simp
    · intro listed σ w a hin hout hl hc hp hG hF
      refine Guarded.some (d := 65) (b := true) rfl rfl ((hin 40 65 rfl (hp ⟨40, .guard⟩ (by simp) rfl)).trans (hF 40 (hp ⟨40, .guard⟩ (by simp) rfl))) ?_
      refine Or.inl ⟨rfl, ?_⟩
      have e6 : a.tmps.getD 6 undef = .int .i64 100 := hout 6 (outB_spec (by kernel_rfl))
      refine Does.val (.int .i64 100) (w' := w) ?_ ⟨Below.refl _ _, rfl, hG⟩
      simp only [Array.getD_eq_getD_getElem?] at e6
      go_simp
    · intro listed σ w a hin hout hl hc hp hG hF
      refine Guarded.some (d := 65) (b := true) rfl rfl ((hin 40 65 rfl (hp ⟨40, .guard⟩ (by simp) rfl)).trans (hF 40 (hp ⟨40, .guard⟩ (by simp) rfl))) ?_
      refine Or.inl ⟨rfl, ?_⟩
      have e66 : a.tmps.getD 66 undef = .int .i64 100 := (hin 41 66 rfl (hp ⟨41, .data⟩ (by simp) rfl)).trans (hF 41 (hp ⟨41, .data⟩ (by simp) rfl))
      refine Does.val (.bool true) (w' := w) ?_ ⟨Below.refl _ _, rfl, hG⟩
      simp only [Array.getD_eq_getD_getElem?] at e66
      go_simp
    · intro listed σ w a hin hout hl hc hp hG hF
      refine Guarded.none rfl ?_
      have e65 : a.tmps.getD 65 undef = .bool true := (hin 40 65 rfl (hp ⟨40, .data⟩ (by simp) rfl)).trans (hF 40 (hp ⟨40, .data⟩ (by simp) rfl))
      have e67 : a.tmps.getD 67 undef = .bool true := (hin 42 67 rfl (hp ⟨42, .data⟩ (by simp) rfl)).trans (hF 42 (hp ⟨42, .data⟩ (by simp) rfl))
      refine Does.val (.bool true) (w' := w) ?_ ⟨Below.refl _ _, rfl, hG⟩
      simp only [Array.getD_eq_getD_getElem?] at e65 e67
      go_simp
    · intro listed σ w a hin hout hl hc hp hG hF
      refine Guarded.none rfl ?_
      have e68 : a.tmps.getD 68 undef = .bool true := (hin 43 68 rfl (hp ⟨43, .data⟩ (by simp) rfl)).trans (hF 43 (hp ⟨43, .data⟩ (by simp) rfl))
      refine Does.val (.bool true) (w' := w) ?_ ⟨Below.refl _ _, rfl, hG⟩
      simp only [Array.getD_eq_getD_getElem?] at e68
      go_simp
    · intro listed σ w a hin hout hl hc hp hG hF
      refine Guarded.some (d := 69) (b := true) rfl rfl ((hin 44 69 rfl (hp ⟨44, .guard⟩ (by simp) rfl)).trans (hF 44 (hp ⟨44, .guard⟩ (by simp) rfl))) ?_
      refine Or.inl ⟨rfl, ?_⟩
      have e5 : a.tmps.getD 5 undef = .pointer (some ⟨g2, 0, none⟩) := hout 5 (outB_spec (by kernel_rfl))
      have CC := SOF.out w hG; obtain ⟨C0, C1, C2, C3, C4, C5, C6, C7⟩ := CC
      refine Does.val (.agg #[.int .i64 2, .int .i64 3]) (w' := w) ?_ ⟨Below.refl _ _, rfl, hG⟩
      go_simp
    · intro listed σ w a hin hout hl hc hp hG hF
      refine Guarded.some (d := 69) (b := true) rfl rfl ((hin 44 69 rfl (hp ⟨44, .guard⟩ (by simp) rfl)).trans (hF 44 (hp ⟨44, .guard⟩ (by simp) rfl))) ?_
      refine Or.inl ⟨rfl, ?_⟩
      refine Does.val (.agg #[.int .i64 2, .int .i64 3]) (w' := w) ?_ ⟨Below.refl _ _, rfl, hG⟩
      go_simp
    · intro listed σ w a hin hout hl hc hp hG hF
      refine Guarded.some (d := 69) (b := true) rfl rfl ((hin 44 69 rfl (hp ⟨44, .guard⟩ (by simp) rfl)).trans (hF 44 (hp ⟨44, .guard⟩ (by simp) rfl))) ?_
      refine Or.inl ⟨rfl, ?_⟩
      have e70 : a.tmps.getD 70 undef = .agg #[.int .i64 2, .int .i64 3] := (hin 45 70 rfl (hp ⟨45, .data⟩ (by simp) rfl)).trans (hF 45 (hp ⟨45, .data⟩ (by simp) rfl))
      have e71 : a.tmps.getD 71 undef = .agg #[.int .i64 2, .int .i64 3] := (hin 46 71 rfl (hp ⟨46, .data⟩ (by simp) rfl)).trans (hF 46 (hp ⟨46, .data⟩ (by simp) rfl))
      refine Does.val (.bool true) (w' := w) ?_ ⟨Below.refl _ _, rfl, hG⟩
      simp only [Array.getD_eq_getD_getElem?] at e70 e71
      go_simp
    · intro listed σ w a hin hout hl hc hp hG hF
      refine Guarded.none rfl ?_
      have e69 : a.tmps.getD 69 undef = .bool true := (hin 44 69 rfl (hp ⟨44, .data⟩ (by simp) rfl)).trans (hF 44 (hp ⟨44, .data⟩ (by simp) rfl))
      have e72 : a.tmps.getD 72 undef = .bool true := (hin 47 72 rfl (hp ⟨47, .data⟩ (by simp) rfl)).trans (hF 47 (hp ⟨47, .data⟩ (by simp) rfl))
      refine Does.val (.bool true) (w' := w) ?_ ⟨Below.refl _ _, rfl, hG⟩
      simp only [Array.getD_eq_getD_getElem?] at e69 e72
      go_simp
    · intro listed σ w a hin hout hl hc hp hG hF
      refine Guarded.none rfl ?_
      have e73 : a.tmps.getD 73 undef = .bool true := (hin 48 73 rfl (hp ⟨48, .data⟩ (by simp) rfl)).trans (hF 48 (hp ⟨48, .data⟩ (by simp) rfl))
      refine Does.val (.bool true) (w' := w) ?_ ⟨Below.refl _ _, rfl, hG⟩
      simp only [Array.getD_eq_getD_getElem?] at e73
      go_simp
    · intro listed σ w a hin hout hl hc hp hG hF
      refine Guarded.some (d := 74) (b := true) rfl rfl ((hin 49 74 rfl (hp ⟨49, .guard⟩ (by simp) rfl)).trans (hF 49 (hp ⟨49, .guard⟩ (by simp) rfl))) ?_
      refine Or.inl ⟨rfl, ?_⟩
      have e9 : a.tmps.getD 9 undef = .int .i64 20 := hout 9 (outB_spec (by kernel_rfl))
      refine Does.val (.int .i64 20) (w' := w) ?_ ⟨Below.refl _ _, rfl, hG⟩
      simp only [Array.getD_eq_getD_getElem?] at e9
      go_simp
    · intro listed σ w a hin hout hl hc hp hG hF
      refine Guarded.some (d := 74) (b := true) rfl rfl ((hin 49 74 rfl (hp ⟨49, .guard⟩ (by simp) rfl)).trans (hF 49 (hp ⟨49, .guard⟩ (by simp) rfl))) ?_
      refine Or.inl ⟨rfl, ?_⟩
      have e75 : a.tmps.getD 75 undef = .int .i64 20 := (hin 50 75 rfl (hp ⟨50, .data⟩ (by simp) rfl)).trans (hF 50 (hp ⟨50, .data⟩ (by simp) rfl))
      refine Does.val (.bool true) (w' := w) ?_ ⟨Below.refl _ _, rfl, hG⟩
      simp only [Array.getD_eq_getD_getElem?] at e75
      go_simp
    · intro listed σ w a hin hout hl hc hp hG hF
      refine Guarded.none rfl ?_
      have e74 : a.tmps.getD 74 undef = .bool true := (hin 49 74 rfl (hp ⟨49, .data⟩ (by simp) rfl)).trans (hF 49 (hp ⟨49, .data⟩ (by simp) rfl))
      have e76 : a.tmps.getD 76 undef = .bool true := (hin 51 76 rfl (hp ⟨51, .data⟩ (by simp) rfl)).trans (hF 51 (hp ⟨51, .data⟩ (by simp) rfl))
      refine Does.val (.bool true) (w' := w) ?_ ⟨Below.refl _ _, rfl, hG⟩
      simp only [Array.getD_eq_getD_getElem?] at e74 e76
      go_simp
    · intro listed σ w a hin hout hl hc hp hG hF
      refine Guarded.none rfl ?_
      have e77 : a.tmps.getD 77 undef = .bool true := (hin 52 77 rfl (hp ⟨52, .data⟩ (by simp) rfl)).trans (hF 52 (hp ⟨52, .data⟩ (by simp) rfl))
      refine Does.val (.bool true) (w' := w) ?_ ⟨Below.refl _ _, rfl, hG⟩
      simp only [Array.getD_eq_getD_getElem?] at e77
      go_simp
    · intro listed σ w a hin hout hl hc hp hG hF
      refine Guarded.some (d := 78) (b := true) rfl rfl ((hin 53 78 rfl (hp ⟨53, .guard⟩ (by simp) rfl)).trans (hF 53 (hp ⟨53, .guard⟩ (by simp) rfl))) ?_
      refine Or.inl ⟨rfl, ?_⟩
      have e1 : a.tmps.getD 1 undef = .slice (some ⟨gT, 0, none⟩) 5 cT := hout 1 (outB_spec (by kernel_rfl))
      refine Does.val (.slice (some ⟨gT, 0, none⟩) 5 cT) (w' := w) ?_ ⟨Below.refl _ _, rfl, hG⟩
      simp only [Array.getD_eq_getD_getElem?] at e1
      go_simp
    · intro listed σ w a hin hout hl hc hp hG hF
      refine Guarded.some (d := 78) (b := true) rfl rfl ((hin 53 78 rfl (hp ⟨53, .guard⟩ (by simp) rfl)).trans (hF 53 (hp ⟨53, .guard⟩ (by simp) rfl))) ?_
      refine Or.inl ⟨rfl, ?_⟩
      have e79 : a.tmps.getD 79 undef = .slice (some ⟨gT, 0, none⟩) 5 cT := (hin 54 79 rfl (hp ⟨54, .data⟩ (by simp) rfl)).trans (hF 54 (hp ⟨54, .data⟩ (by simp) rfl))
      refine Does.call ?_ (HSP.out w hG) ?_
      · go_simp
      · rintro e w' ⟨rfl, hb⟩
        exact ⟨_, rfl, hb, rfl, hG.next hb⟩
    · intro listed σ w a hin hout hl hc hp hG hF
      refine Guarded.some (d := 78) (b := true) rfl rfl ((hin 53 78 rfl (hp ⟨53, .guard⟩ (by simp) rfl)).trans (hF 53 (hp ⟨53, .guard⟩ (by simp) rfl))) ?_
      refine Or.inl ⟨rfl, ?_⟩
      have e80 : a.tmps.getD 80 undef = .string ⟨#[120, 49, 32, 58, 61, 32, 45, 32, 50, 32]⟩ := (hin 55 80 rfl (hp ⟨55, .data⟩ (by simp) rfl)).trans (hF 55 (hp ⟨55, .data⟩ (by simp) rfl))
      refine Does.val (.bool true) (w' := w) ?_ ⟨Below.refl _ _, rfl, hG⟩
      simp only [Array.getD_eq_getD_getElem?] at e80
      go_simp
    · intro listed σ w a hin hout hl hc hp hG hF
      refine Guarded.none rfl ?_
      have e78 : a.tmps.getD 78 undef = .bool true := (hin 53 78 rfl (hp ⟨53, .data⟩ (by simp) rfl)).trans (hF 53 (hp ⟨53, .data⟩ (by simp) rfl))
      have e81 : a.tmps.getD 81 undef = .bool true := (hin 56 81 rfl (hp ⟨56, .data⟩ (by simp) rfl)).trans (hF 56 (hp ⟨56, .data⟩ (by simp) rfl))
      refine Does.val (.bool true) (w' := w) ?_ ⟨Below.refl _ _, rfl, hG⟩
      simp only [Array.getD_eq_getD_getElem?] at e78 e81
      go_simp
    · intro listed σ w a hin hout hl hc hp hG hF
      refine Guarded.none rfl ?_
      have e82 : a.tmps.getD 82 undef = .bool true := (hin 57 82 rfl (hp ⟨57, .data⟩ (by simp) rfl)).trans (hF 57 (hp ⟨57, .data⟩ (by simp) rfl))
      refine Does.val (.bool true) (w' := w) ?_ ⟨Below.refl _ _, rfl, hG⟩
      simp only [Array.getD_eq_getD_getElem?] at e82
      go_simp
    · intro listed σ w a hin hout hl hc hp hG hF
      refine Guarded.some (d := 83) (b := true) rfl rfl ((hin 58 83 rfl (hp ⟨58, .guard⟩ (by simp) rfl)).trans (hF 58 (hp ⟨58, .guard⟩ (by simp) rfl))) ?_
      refine Or.inl ⟨rfl, ?_⟩
      refine Does.call ?_ (HRE.out w) ?_
      · go_simp
      · rintro e w' ⟨rfl, hb⟩
        exact ⟨_, rfl, hb, rfl, hG.next hb⟩
    · intro listed σ w a hin hout hl hc hp hG hF
      refine Guarded.none rfl ?_
      have e83 : a.tmps.getD 83 undef = .bool true := (hin 58 83 rfl (hp ⟨58, .data⟩ (by simp) rfl)).trans (hF 58 (hp ⟨58, .data⟩ (by simp) rfl))
      have e84 : a.tmps.getD 84 undef = .bool true := (hin 59 84 rfl (hp ⟨59, .data⟩ (by simp) rfl)).trans (hF 59 (hp ⟨59, .data⟩ (by simp) rfl))
      refine Does.val (.bool true) (w' := w) ?_ ⟨Below.refl _ _, rfl, hG⟩
      simp only [Array.getD_eq_getD_getElem?] at e83 e84
      go_simp
    · intro listed σ w a hin hout hl hc hp hG hF
      refine Guarded.none rfl ?_
      have e85 : a.tmps.getD 85 undef = .bool true := (hin 60 85 rfl (hp ⟨60, .data⟩ (by simp) rfl)).trans (hF 60 (hp ⟨60, .data⟩ (by simp) rfl))
      refine Does.val (.bool true) (w' := w) ?_ ⟨Below.refl _ _, rfl, hG⟩
      simp only [Array.getD_eq_getD_getElem?] at e85
      go_simp
    · intro listed σ w a hin hout hl hc hp hG hF
      refine Guarded.some (d := 86) (b := true) rfl rfl ((hin 61 86 rfl (hp ⟨61, .guard⟩ (by simp) rfl)).trans (hF 61 (hp ⟨61, .guard⟩ (by simp) rfl))) ?_
      refine Or.inl ⟨rfl, ?_⟩
      refine Does.call ?_ (HN1.out w) ?_
      · go_simp
      · rintro e w' ⟨rfl, hb⟩
        exact ⟨_, rfl, hb, rfl, hG.next hb⟩
    · intro listed σ w a hin hout hl hc hp hG hF
      refine Guarded.none rfl ?_
      have e86 : a.tmps.getD 86 undef = .bool true := (hin 61 86 rfl (hp ⟨61, .data⟩ (by simp) rfl)).trans (hF 61 (hp ⟨61, .data⟩ (by simp) rfl))
      have e87 : a.tmps.getD 87 undef = .bool true := (hin 62 87 rfl (hp ⟨62, .data⟩ (by simp) rfl)).trans (hF 62 (hp ⟨62, .data⟩ (by simp) rfl))
      refine Does.val (.bool true) (w' := w) ?_ ⟨Below.refl _ _, rfl, hG⟩
      simp only [Array.getD_eq_getD_getElem?] at e86 e87
      go_simp
    · intro listed σ w a hin hout hl hc hp hG hF
      refine Guarded.none rfl ?_
      have e88 : a.tmps.getD 88 undef = .bool true := (hin 63 88 rfl (hp ⟨63, .data⟩ (by simp) rfl)).trans (hF 63 (hp ⟨63, .data⟩ (by simp) rfl))
      refine Does.val (.bool true) (w' := w) ?_ ⟨Below.refl _ _, rfl, hG⟩
      simp only [Array.getD_eq_getD_getElem?] at e88
      go_simp
    · intro listed σ w a hin hout hl hc hp hG hF
      refine Guarded.some (d := 89) (b := true) rfl rfl ((hin 64 89 rfl (hp ⟨64, .guard⟩ (by simp) rfl)).trans (hF 64 (hp ⟨64, .guard⟩ (by simp) rfl))) ?_
      refine Or.inl ⟨rfl, ?_⟩
      refine Does.call ?_ (HN2.out w) ?_
      · go_simp
      · rintro e w' ⟨rfl, hb⟩
        exact ⟨_, rfl, hb, rfl, hG.next hb⟩
    · intro listed σ w a hin hout hl hc hp hG hF
      refine Guarded.some (d := 89) (b := true) rfl rfl ((hin 64 89 rfl (hp ⟨64, .guard⟩ (by simp) rfl)).trans (hF 64 (hp ⟨64, .guard⟩ (by simp) rfl))) ?_
      refine Or.inl ⟨rfl, ?_⟩
      have e90 : a.tmps.getD 90 undef = .bool false := (hin 65 90 rfl (hp ⟨65, .data⟩ (by simp) rfl)).trans (hF 65 (hp ⟨65, .data⟩ (by simp) rfl))
      refine Does.val (.bool true) (w' := w) ?_ ⟨Below.refl _ _, rfl, hG⟩
      simp only [Array.getD_eq_getD_getElem?] at e90
      go_simp
    · intro listed σ w a hin hout hl hc hp hG hF
      refine Guarded.none rfl ?_
      have e89 : a.tmps.getD 89 undef = .bool true := (hin 64 89 rfl (hp ⟨64, .data⟩ (by simp) rfl)).trans (hF 64 (hp ⟨64, .data⟩ (by simp) rfl))
      have e91 : a.tmps.getD 91 undef = .bool true := (hin 66 91 rfl (hp ⟨66, .data⟩ (by simp) rfl)).trans (hF 66 (hp ⟨66, .data⟩ (by simp) rfl))
      refine Does.val (.bool true) (w' := w) ?_ ⟨Below.refl _ _, rfl, hG⟩
      simp only [Array.getD_eq_getD_getElem?] at e89 e91
      go_simp
    · intro listed σ w a hin hout hl hc hp hG hF
      refine Guarded.none rfl ?_
      have e92 : a.tmps.getD 92 undef = .bool true := (hin 67 92 rfl (hp ⟨67, .data⟩ (by simp) rfl)).trans (hF 67 (hp ⟨67, .data⟩ (by simp) rfl))
      refine Does.val (.bool true) (w' := w) ?_ ⟨Below.refl _ _, rfl, hG⟩
      simp only [Array.getD_eq_getD_getElem?] at e92
      go_simp
    · intro listed σ w a hin hout hl hc hp hG hF
      refine Guarded.some (d := 93) (b := true) rfl rfl ((hin 68 93 rfl (hp ⟨68, .guard⟩ (by simp) rfl)).trans (hF 68 (hp ⟨68, .guard⟩ (by simp) rfl))) ?_
      refine Or.inl ⟨rfl, ?_⟩
      refine Does.call ?_ (HD1.out w) ?_
      · go_simp
      · rintro e w' ⟨rfl, hb⟩
        exact ⟨_, rfl, hb, rfl, hG.next hb⟩
    · intro listed σ w a hin hout hl hc hp hG hF
      refine Guarded.none rfl ?_
      have e93 : a.tmps.getD 93 undef = .bool true := (hin 68 93 rfl (hp ⟨68, .data⟩ (by simp) rfl)).trans (hF 68 (hp ⟨68, .data⟩ (by simp) rfl))
      have e94 : a.tmps.getD 94 undef = .bool true := (hin 69 94 rfl (hp ⟨69, .data⟩ (by simp) rfl)).trans (hF 69 (hp ⟨69, .data⟩ (by simp) rfl))
      refine Does.val (.bool true) (w' := w) ?_ ⟨Below.refl _ _, rfl, hG⟩
      simp only [Array.getD_eq_getD_getElem?] at e93 e94
      go_simp
    · intro listed σ w a hin hout hl hc hp hG hF
      refine Guarded.none rfl ?_
      have e95 : a.tmps.getD 95 undef = .bool true := (hin 70 95 rfl (hp ⟨70, .data⟩ (by simp) rfl)).trans (hF 70 (hp ⟨70, .data⟩ (by simp) rfl))
      refine Does.val (.bool true) (w' := w) ?_ ⟨Below.refl _ _, rfl, hG⟩
      simp only [Array.getD_eq_getD_getElem?] at e95
      go_simp
    · intro listed σ w a hin hout hl hc hp hG hF
      refine Guarded.some (d := 96) (b := true) rfl rfl ((hin 71 96 rfl (hp ⟨71, .guard⟩ (by simp) rfl)).trans (hF 71 (hp ⟨71, .guard⟩ (by simp) rfl))) ?_
      refine Or.inl ⟨rfl, ?_⟩
      refine Does.call ?_ (HD2.out w) ?_
      · go_simp
      · rintro e w' ⟨rfl, hb⟩
        exact ⟨_, rfl, hb, rfl, hG.next hb⟩
    · intro listed σ w a hin hout hl hc hp hG hF
      refine Guarded.some (d := 96) (b := true) rfl rfl ((hin 71 96 rfl (hp ⟨71, .guard⟩ (by simp) rfl)).trans (hF 71 (hp ⟨71, .guard⟩ (by simp) rfl))) ?_
      refine Or.inl ⟨rfl, ?_⟩
      have e97 : a.tmps.getD 97 undef = .bool false := (hin 72 97 rfl (hp ⟨72, .data⟩ (by simp) rfl)).trans (hF 72 (hp ⟨72, .data⟩ (by simp) rfl))
      refine Does.val (.bool true) (w' := w) ?_ ⟨Below.refl _ _, rfl, hG⟩
      simp only [Array.getD_eq_getD_getElem?] at e97
      go_simp
    · intro listed σ w a hin hout hl hc hp hG hF
      refine Guarded.none rfl ?_
      have e96 : a.tmps.getD 96 undef = .bool true := (hin 71 96 rfl (hp ⟨71, .data⟩ (by simp) rfl)).trans (hF 71 (hp ⟨71, .data⟩ (by simp) rfl))
      have e98 : a.tmps.getD 98 undef = .bool true := (hin 73 98 rfl (hp ⟨73, .data⟩ (by simp) rfl)).trans (hF 73 (hp ⟨73, .data⟩ (by simp) rfl))
      refine Does.val (.bool true) (w' := w) ?_ ⟨Below.refl _ _, rfl, hG⟩
      simp only [Array.getD_eq_getD_getElem?] at e96 e98
      go_simp
    · intro listed σ w a hin hout hl hc hp hG hF
      refine Guarded.none rfl ?_
      have e99 : a.tmps.getD 99 undef = .bool true := (hin 74 99 rfl (hp ⟨74, .data⟩ (by simp) rfl)).trans (hF 74 (hp ⟨74, .data⟩ (by simp) rfl))
      refine Does.val (.bool true) (w' := w) ?_ ⟨Below.refl _ _, rfl, hG⟩
      simp only [Array.getD_eq_getD_getElem?] at e99
      go_simp
  · intro listed σ W9 hall hG hF
    rw [show mid _ σ listed _ = (Act.put (Act.put (Act.put (Act.put (Act.put (Act.put (Act.put (Act.put (Act.put (Act.put (Act.put (Act.put (Act.put (Act.put (Act.put (Act.put (Act.put (Act.put (Act.put (Act.put (Act.put (Act.put (Act.put (Act.put (Act.put (Act.put (Act.put (Act.put (Act.put (Act.put (Act.put (Act.put (Act.put (Act.put (Act.put (Act.put (Act.put (Act.put (Act.put (Act.put (Act.put (Act.put (Act.put (Act.put (Act.put (Act.put (Act.put (Act.put (Act.put (Act.put (Act.put (Act.put (Act.put (Act.put (Act.put (Act.put (Act.put (Act.put (Act.put (Act.put (Act.put (Act.put (Act.put (Act.put (Act.put (Act.put (Act.put (Act.put (Act.put (Act.put (Act.put (Act.put (Act.put (Act.put (Act.put (Act.put _ (some 25) (σ 0)) (some 26) (σ 1)) (some 27) (σ 2)) (some 28) (σ 3)) (some 29) (σ 4)) (some 30) (σ 5)) (some 31) (σ 6)) (some 32) (σ 7)) (some 33) (σ 8)) (some 34) (σ 9)) (some 35) (σ 10)) (some 36) (σ 11)) (some 37) (σ 12)) (some 38) (σ 13)) (some 39) (σ 14)) (some 40) (σ 15)) (some 41) (σ 16)) (some 42) (σ 17)) (some 43) (σ 18)) (some 44) (σ 19)) (some 45) (σ 20)) (some 46) (σ 21)) (some 47) (σ 22)) (some 48) (σ 23)) (some 49) (σ 24)) (some 50) (σ 25)) (some 51) (σ 26)) (some 52) (σ 27)) (some 53) (σ 28)) (some 54) (σ 29)) (some 55) (σ 30)) (some 56) (σ 31)) (some 57) (σ 32)) (some 58) (σ 33)) (some 59) (σ 34)) (some 60) (σ 35)) (some 61) (σ 36)) (some 62) (σ 37)) (some 63) (σ 38)) (some 64) (σ 39)) (some 65) (σ 40)) (some 66) (σ 41)) (some 67) (σ 42)) (some 68) (σ 43)) (some 69) (σ 44)) (some 70) (σ 45)) (some 71) (σ 46)) (some 72) (σ 47)) (some 73) (σ 48)) (some 74) (σ 49)) (some 75) (σ 50)) (some 76) (σ 51)) (some 77) (σ 52)) (some 78) (σ 53)) (some 79) (σ 54)) (some 80) (σ 55)) (some 81) (σ 56)) (some 82) (σ 57)) (some 83) (σ 58)) (some 84) (σ 59)) (some 85) (σ 60)) (some 86) (σ 61)) (some 87) (σ 62)) (some 88) (σ 63)) (some 89) (σ 64)) (some 90) (σ 65)) (some 91) (σ 66)) (some 92) (σ 67)) (some 93) (σ 68)) (some 94) (σ 69)) (some 95) (σ 70)) (some 96) (σ 71)) (some 97) (σ 72)) (some 98) (σ 73)) (some 99) (σ 74)) (some 0) (σ 75)) from (mid_all hall).trans rfl]
    generalize σ 0 = tt0
    generalize σ 1 = tt1
    generalize σ 2 = tt2
    generalize σ 3 = tt3
    generalize σ 4 = tt4
    generalize σ 5 = tt5
    generalize σ 6 = tt6
    generalize σ 7 = tt7
    generalize σ 8 = tt8
    generalize σ 9 = tt9
    generalize σ 10 = tt10
    generalize σ 11 = tt11
    generalize σ 12 = tt12
    generalize σ 13 = tt13
    generalize σ 14 = tt14
    generalize σ 15 = tt15
    generalize σ 16 = tt16
    generalize σ 17 = tt17
    generalize σ 18 = tt18
    generalize σ 19 = tt19
    generalize σ 20 = tt20
    generalize σ 21 = tt21
    generalize σ 22 = tt22
    generalize σ 23 = tt23
    generalize σ 24 = tt24
    generalize σ 25 = tt25
    generalize σ 26 = tt26
    generalize σ 27 = tt27
    generalize σ 28 = tt28
    generalize σ 29 = tt29
    generalize σ 30 = tt30
    generalize σ 31 = tt31
    generalize σ 32 = tt32
    generalize σ 33 = tt33
    generalize σ 34 = tt34
    generalize σ 35 = tt35
    generalize σ 36 = tt36
    generalize σ 37 = tt37
    generalize σ 38 = tt38
    generalize σ 39 = tt39
    generalize σ 40 = tt40
    generalize σ 41 = tt41
    generalize σ 42 = tt42
    generalize σ 43 = tt43
    generalize σ 44 = tt44
    generalize σ 45 = tt45
    generalize σ 46 = tt46
    generalize σ 47 = tt47
    generalize σ 48 = tt48
    generalize σ 49 = tt49
    generalize σ 50 = tt50
    generalize σ 51 = tt51
    generalize σ 52 = tt52
    generalize σ 53 = tt53
    generalize σ 54 = tt54
    generalize σ 55 = tt55
    generalize σ 56 = tt56
    generalize σ 57 = tt57
    generalize σ 58 = tt58
    generalize σ 59 = tt59
    generalize σ 60 = tt60
    generalize σ 61 = tt61
    generalize σ 62 = tt62
    generalize σ 63 = tt63
    generalize σ 64 = tt64
    generalize σ 65 = tt65
    generalize σ 66 = tt66
    generalize σ 67 = tt67
    generalize σ 68 = tt68
    generalize σ 69 = tt69
    generalize σ 70 = tt70
    generalize σ 71 = tt71
    generalize σ 72 = tt72
    generalize σ 73 = tt73
    generalize σ 74 = tt74
    rw [show σ 75 = .bool true from hF 75 (by decide)]
    simp only [Act.put, List.setIfInBounds_toArray, List.set_cons_zero, List.set_cons_succ]
    have TG := hG
    clear hF hG hall
    clear σ
    have B4 := hide (B3.out.next TG)
    clear TG
    go_wp2_with fail
    go_ret
    exact ⟨rfl, B4.out⟩
end Go.Proofs.Ytifikcaiknnjfaa
