/- Texts of one seat, put together: OpenR. -/
import Derived.Test.YtdeakieenppmiaaGreatDoorC43
import Derived.Test.YtdeakieenppmiaaGreatDoorC36
set_option linter.unusedVariables false
set_option linter.unusedSimpArgs false
set_option maxRecDepth 100000
set_option maxHeartbeats 16000000
/- What a row's argument of type api.Rel, []api.Rel is opened to. -/
namespace Go.Proofs.YtdeakieenppmiaaGreatDoor
open Go.ChangeShapes Go.WideShapes Go.ChangeAt Go.RowKit Go.Deep

theorem cellsRel : Tryz.prog.cellsOf 30 = 4 := by kernel_rfl
section
variable {H : Type} {enc : TypeId × Value → H} {W : World} {f : Nat} {x : DataW H × List MemPlace} {cs : List Value}
theorem open_rel_cells (h : DataW.trod enc Tryz.prog W 0 (fun _ => true) true f 30 cs = some x) : ∃ r : RV, cs = r.cells ∧ TIn W r.trm r.L r.K big ∧ ∀ p ∈ r.L, -9223372036854775808 ≤ p.1 ∧ p.1 ≤ 9223372036854775807 := by
 obtain ⟨y0, y1, n, -, hl, h0, h1⟩ := trod_struct2 Tryz.underlying30 h
 rw [cellsRel] at hl
 match cs, hl with
 | [v0, v1, v2, v3], _ =>
  have g0 : DataW.trod enc Tryz.prog W 0 (fun _ => true) true n 28 (([v0, v1, v2, v3].drop 0).take (Tryz.prog.cellsOf 28)) = some y0 := h0
  have g1 : DataW.trod enc Tryz.prog W 0 (fun _ => true) true n 4 (([v0, v1, v2, v3].drop 3).take (Tryz.prog.cellsOf 4)) = some y1 := h1
  rw [cellsTerm] at g0
  rw [cellsBool] at g1
  obtain ⟨A, n, c, s, B, m, d, L, K, e, hz, hb⟩ := open_term_cells g0
  injection e with e1 e
  injection e with e2 e
  injection e with e3 e
  subst e1 e2 e3
  obtain ⟨s1, e0, -⟩ := DataW.trod_bool Tryz.underlying4 g1
  injection e0 with e0
  subst e0
  exact ⟨⟨A, n, c, s, B, m, d, s1, L, K⟩, rfl, hz, hb⟩
theorem open_rel {b : Nat} {v : Value} {d : DataW H} {p : List MemPlace} (hv : Value.okWide Tryz.prog W .any b 30 v)
  (h0 : DataW.Trod enc Tryz.prog W 0 (fun _ => true) true 30 v d p) : ∃ L K e, RIn W v L K e big ∧ ∀ p ∈ L, -9223372036854775808 ≤ p.1 ∧ p.1 ≤ 9223372036854775807 := by
 obtain ⟨cs, rfl, hsz⟩ := okWide_struct Tryz.underlying30 hv
 obtain ⟨fuel, hf⟩ := h0
 obtain ⟨r, e, h1, h2⟩ := open_rel_cells hf
 have e2 : cs = #[.slice r.A r.n r.c, .bool r.s, .slice r.B r.m r.d, .bool r.f] := by
  cases cs
  simp only [Value.cells] at e
  simpa [RV.cells] using e
 subst e2
 exact ⟨r.L, r.K, r.f, ⟨_, _, _, _, _, _, _, rfl, h1⟩, h2⟩
end
end Go.Proofs.YtdeakieenppmiaaGreatDoor
