/- A slice of tokens: what it reads as. -/
import Derived.Test.YtifikcaiknnjfaaLexTok
namespace Go.Proofs.Ytifikcaiknnjfaa
open Go.RowKit
open Lx

theorem flatK_cons (t : TK) (ts : List TK) : flatK (t :: ts) = t.cells ++ flatK ts := rfl
theorem flatK_get (ts : List TK) (i : Nat) (t : TK) (h : ts[i]? = some t) : (flatK ts)[4 * i]? = some (.int .i64 t.kind) ∧ (flatK ts)[4 * i + 1]? = some (.string t.text) ∧ (flatK ts)[4 * i + 2]? = some (.int .i64 t.line) ∧ (flatK ts)[4 * i + 3]? = some (.int .i64 t.col) := by
  induction ts generalizing i with
  | nil => simp at h
  | cons q ts ih =>
    rw [flatK_cons]
    cases i with
    | zero =>
      simp at h; subst h
      exact ⟨rfl, rfl, rfl, rfl⟩
    | succ i =>
      have h2 := ih i (by simpa using h)
      have hl : q.cells.length = 4 := rfl
      rw [show 4 * (i + 1) = q.cells.length + 4 * i by rw [hl]; omega, show q.cells.length + 4 * i + 1 = q.cells.length + (4 * i + 1) by omega, show q.cells.length + 4 * i + 2 = q.cells.length + (4 * i + 2) by omega, show q.cells.length + 4 * i + 3 = q.cells.length + (4 * i + 3) by omega,
        List.getElem?_append_right (by omega), List.getElem?_append_right (by omega), List.getElem?_append_right (by omega), List.getElem?_append_right (by omega)]
      simpa using h2
def KIn (w : World) (A : Option Addr) (n : Nat) (ts : List TK) : Prop :=
  ts.length = n ∧ (0 < n → ∃ b o, A = some ⟨b, o, none⟩ ∧ b < w.heap.size ∧ ∀ j u, (flatK ts)[j]? = some u → w.cell? ⟨b, o + j, none⟩ = some u)
theorem KIn.below {w w' : World} {A : Option Addr} {n : Nat} {ts : List TK} (h : KIn w A n ts) (hb : Below w.heap.size w w') : KIn w' A n ts := by
  refine ⟨h.1, fun hn => ?_⟩
  obtain ⟨b, o, e, hlt, hc⟩ := h.2 hn
  refine ⟨b, o, e, Nat.lt_of_lt_of_le hlt hb.size, fun j u hu => ?_⟩
  exact (World.cell?_of_block (w := w) (a := ⟨b, o + j, none⟩) (hb.block b hlt)).trans (hc j u hu)
theorem KIn.at_ {w : World} {A : Option Addr} {n i : Nat} {ts : List TK} (h : KIn w A n ts) (hi : i < n) : ∃ b o t, A = some ⟨b, o, none⟩ ∧ b < w.heap.size ∧ ts[i]? = some t ∧ w.cell? ⟨b, o + i * 4, none⟩ = some (.int .i64 t.kind) ∧ w.cell? ⟨b, o + i * 4 + 1, none⟩ = some (.string t.text) ∧ w.cell? ⟨b, o + i * 4 + 2, none⟩ = some (.int .i64 t.line) ∧ w.cell? ⟨b, o + i * 4 + 3, none⟩ = some (.int .i64 t.col) := by
  obtain ⟨b, o, e, hlt, hc⟩ := h.2 (by omega)
  have hl : i < ts.length := by rw [h.1]; exact hi
  obtain ⟨g0, g1, g2, g3⟩ := flatK_get ts i ts[i] (List.getElem?_eq_getElem hl)
  refine ⟨b, o, ts[i], e, hlt, List.getElem?_eq_getElem hl, ?_, ?_, ?_, ?_⟩
  · rw [show o + i * 4 = o + 4 * i by omega]; exact hc _ _ g0
  · rw [show o + i * 4 + 1 = o + (4 * i + 1) by omega]; exact hc _ _ g1
  · rw [show o + i * 4 + 2 = o + (4 * i + 2) by omega]; exact hc _ _ g2
  · rw [show o + i * 4 + 3 = o + (4 * i + 3) by omega]; exact hc _ _ g3
theorem LRow.kin {T : TypeId} {w : World} {base : Nat} {v : Value} {ts : List TK} (h : LRow T 4 w base v ts.length (flatK ts)) : ∃ A c, v = .slice A ts.length c ∧ ts.length ≤ c ∧ c ≤ 9223372036854775807 ∧ KIn w A ts.length ts := by
  obtain ⟨A, c, rfl, h1, h2, h3⟩ := h.len
  refine ⟨A, c, rfl, h1, h2, rfl, fun hn => ?_⟩
  obtain ⟨g, rfl, hb, hlt, hc⟩ := h.cell hn
  exact ⟨g, 0, rfl, hlt, fun j u hu => by rw [Nat.zero_add]; exact (hc j u hu).1⟩
end Go.Proofs.Ytifikcaiknnjfaa
