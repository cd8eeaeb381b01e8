/- Texts of one seat, put together: OpenI OpenS. -/
import Derived.Test.YtdeakieenppmiaaGreatB32
import Derived.Test.YtdeakieenppmiaaGreatB24
import Derived.Test.YtdeakieenppmiaaGreatB28
set_option linter.unusedVariables false
/- What a row's argument of type []int is opened to. -/
namespace Go.Proofs.YtdeakieenppmiaaGreat
open Go.ChangeShapes Go.WideShapes Go.ChangeAt Go.RowKit Go.Deep

section
variable {H : Type} {enc : TypeId × Value → H} {W : World} {f : Nat} {x : DataW H × List MemPlace}
set_option maxRecDepth 100000 in
theorem open_ints1 {v : Value} (hf : DataW.trod enc Tryz.prog W 0 (fun _ => true) true f 29 [v] = some x) : ∃ a len cap xs, v = .slice a len cap ∧ IIn W a len xs ∧ (∀ z ∈ xs, -9223372036854775808 ≤ z ∧ z ≤ 9223372036854775807) ∧ len ≤ cap ∧ cap ≤ 9223372036854775807 := by
  rcases open_slice Tryz.underlying29 hf with ⟨hcs, _⟩ | ⟨a, len, cap, m, n, D, Pl, hcs, _, hl, hm, hmm, _, hx⟩
  · injection hcs with hcs
    subst hcs
    exact ⟨none, 0, 0, [], rfl, ⟨rfl, fun h => absurd h (by omega)⟩, (fun p hp => by cases hp), by omega, by omega⟩
  · injection hcs with hcs
    subst hcs
    unfold maxLen at hm
    have hlm : len ≤ m := by rw [hmm]; split <;> omega
    obtain ⟨p, hp⟩ := choose_lt (α := Int) (n := len) (p := fun i p => W.cell? (a.add i) = some (.int .i64 p) ∧ -9223372036854775808 ≤ p ∧ p ≤ 9223372036854775807) (fun i hi => by
      obtain ⟨cs, h1, h2⟩ := hx i (by omega)
      rw [cellsI] at h1
      obtain ⟨_, hlen, hcell⟩ := World.cells?_some h1
      match cs, hlen with
      | [u], _ =>
        obtain ⟨z, e0, -, hw⟩ := DataW.trod_int Tryz.underlying3 h2
        injection e0 with e0
        subst e0
        refine ⟨z, ?_, (bounds_i64 hw).1, (bounds_i64 hw).2⟩
        have h3 := hcell 0 (by omega)
        rw [add_add, Nat.mul_one, Nat.add_zero] at h3
        exact h3)
    refine ⟨some a, len, cap, (List.range len).map p, rfl, ⟨by simp, fun hn => ?_⟩, fun q hq => ?_, hl, hm⟩
    · have h0 := (hp 0 hn).1
      obtain ⟨b, o, spot⟩ := a
      have hspot : spot = none := by simpa [Addr.add] using World.cell?_spot h0
      subst hspot
      refine ⟨b, o, rfl, fun j u hu => ?_⟩
      unfold ints at hu
      rw [List.map_map, List.getElem?_map] at hu
      have hj : j < len := by
        rcases Nat.lt_or_ge j len with h | h
        · exact h
        · rw [List.getElem?_eq_none (by simpa using h)] at hu; cases hu
      rw [List.getElem?_range hj] at hu
      injection hu with hu
      subst hu
      have h5 := (hp j hj).1
      rw [add_plain] at h5
      exact h5
    · obtain ⟨i, hi, rfl⟩ := List.mem_map.1 hq
      exact (hp i (List.mem_range.1 hi)).2
set_option maxRecDepth 100000 in
theorem open_ints {b : Nat} {v : Value} {d : DataW H} {p : List MemPlace} (hv : Value.okWide Tryz.prog W .any b 29 v)
    (h0 : DataW.Trod enc Tryz.prog W 0 (fun _ => true) true 29 v d p) : ∃ a len cap xs, v = .slice a len cap ∧ IIn W a len xs ∧ (∀ z ∈ xs, -9223372036854775808 ≤ z ∧ z ≤ 9223372036854775807) ∧ len ≤ cap ∧ cap ≤ 9223372036854775807 := by
  obtain ⟨a, len, cap, rfl⟩ := okWide_slice Tryz.underlying29 hv
  obtain ⟨fuel, hf⟩ := h0
  exact open_ints1 hf
end
end Go.Proofs.YtdeakieenppmiaaGreat
/- What a row's argument of type []api.Term is opened to. -/
namespace Go.Proofs.YtdeakieenppmiaaGreat
open Go.ChangeShapes Go.WideShapes Go.ChangeAt Go.RowKit Go.Deep

theorem flatT_split (ps : List TV) (j : Nat) (u : Value) (h : (flatT ps)[j]? = some u) : ∃ i p r, ps[i]? = some p ∧ j = 3 * i + r ∧ p.cells[r]? = some u ∧ r < 3 := by
  induction ps generalizing j with
  | nil => simp [flatT] at h
  | cons p ps ih =>
    rw [show flatT (p :: ps) = p.cells ++ flatT ps from rfl] at h
    have hl : p.cells.length = 3 := rfl
    by_cases hj : j < 3
    · rw [List.getElem?_append_left (by omega)] at h
      exact ⟨0, p, j, rfl, by omega, h, hj⟩
    · rw [List.getElem?_append_right (by omega), hl] at h
      obtain ⟨i, q, r, h1, h2, h3, h4⟩ := ih _ h
      exact ⟨i + 1, q, r, by simpa using h1, by omega, h3, h4⟩
instance tvSome : Inhabited TV := ⟨⟨none, 0, 0, false, none, 0, 0, [], 0⟩⟩
section
variable {H : Type} {enc : TypeId × Value → H} {W : World} {f : Nat} {x : DataW H × List MemPlace}
set_option maxRecDepth 100000 in
theorem open_terms1 {v : Value} (hf : DataW.trod enc Tryz.prog W 0 (fun _ => true) true f 30 [v] = some x) : ∃ a len cap ts, v = .slice a len cap ∧ TermsIn W a len ts big ∧ (∀ t ∈ ts, ∀ p ∈ t.L, -9223372036854775808 ≤ p.1 ∧ p.1 ≤ 9223372036854775807) ∧ len ≤ cap ∧ cap ≤ 9223372036854775807 := by
  rcases open_slice Tryz.underlying30 hf with ⟨hcs, _⟩ | ⟨a, len, cap, m, n, D, Pl, hcs, _, hl, hm, hmm, _, hx⟩
  · injection hcs with hcs
    subst hcs
    exact ⟨none, 0, 0, [], rfl, ⟨rfl, fun h => absurd h (by omega), fun p hp => by cases hp⟩, (fun t ht => by cases ht), by omega, by omega⟩
  · injection hcs with hcs
    subst hcs
    unfold maxLen at hm
    have hlm : len ≤ m := by rw [hmm]; split <;> omega
    obtain ⟨p, hp⟩ := choose_lt (α := TV) (n := len) (p := fun i p => (∀ r u, p.cells[r]? = some u → W.cell? (a.add (i * 3 + r)) = some u) ∧ TIn W p.agg p.L p.K big ∧ ∀ q ∈ p.L, -9223372036854775808 ≤ q.1 ∧ q.1 ≤ 9223372036854775807) (fun i hi => by
      obtain ⟨cs, h1, h2⟩ := hx i (by omega)
      rw [cellsTerm] at h1
      obtain ⟨_, hlen, hcell⟩ := World.cells?_some h1
      obtain ⟨A', n', c', s', B', m', d', L', K', rfl, hz, hb⟩ := open_term_cells h2
      refine ⟨⟨A', n', c', s', B', m', d', L', K'⟩, fun r u hu => ?_, hz, hb⟩
      have hr : r < 3 := (List.getElem?_eq_some_iff.1 hu).1
      rw [← show ([Value.slice A' n' c', Value.bool s', Value.slice B' m' d'])[r]? = some u from hu, ← hcell r hr, add_add])
    have hall : ∀ q ∈ (List.range len).map p, ∃ i, i < len ∧ q = p i := fun q hq => by
      obtain ⟨i, hi, rfl⟩ := List.mem_map.1 hq
      exact ⟨i, List.mem_range.1 hi, rfl⟩
    refine ⟨some a, len, cap, (List.range len).map p, rfl, ⟨by simp, fun hn => ?_, fun q hq => ?_⟩, fun q hq => ?_, hl, hm⟩
    · have h0 := (hp 0 hn).1 0 _ rfl
      obtain ⟨b, o, spot⟩ := a
      have hspot : spot = none := by simpa [Addr.add] using World.cell?_spot h0
      subst hspot
      refine ⟨b, o, rfl, fun j u hu => ?_⟩
      obtain ⟨i, q, r, h1, rfl, h3, h4⟩ := flatT_split _ _ _ hu
      have hi : i < len := by
        have := (List.getElem?_eq_some_iff.1 h1).1
        simpa using this
      have hq : q = p i := by
        rw [List.getElem?_map, List.getElem?_range hi] at h1
        exact (Option.some.inj h1).symm
      subst hq
      have h5 := (hp i hi).1 r u h3
      rw [add_plain] at h5
      rw [show 3 * i + r = i * 3 + r by omega]
      exact h5
    · obtain ⟨i, hi, rfl⟩ := hall q hq
      exact (hp i hi).2.1
    · obtain ⟨i, hi, rfl⟩ := hall q hq
      exact (hp i hi).2.2
set_option maxRecDepth 100000 in
theorem open_terms {b : Nat} {v : Value} {d : DataW H} {p : List MemPlace} (hv : Value.okWide Tryz.prog W .any b 30 v)
    (h0 : DataW.Trod enc Tryz.prog W 0 (fun _ => true) true 30 v d p) : ∃ a len cap ts, v = .slice a len cap ∧ TermsIn W a len ts big ∧ (∀ t ∈ ts, ∀ p ∈ t.L, -9223372036854775808 ≤ p.1 ∧ p.1 ≤ 9223372036854775807) ∧ len ≤ cap ∧ cap ≤ 9223372036854775807 := by
  obtain ⟨a, len, cap, rfl⟩ := okWide_slice Tryz.underlying30 hv
  obtain ⟨fuel, hf⟩ := h0
  exact open_terms1 hf
end
end Go.Proofs.YtdeakieenppmiaaGreat
