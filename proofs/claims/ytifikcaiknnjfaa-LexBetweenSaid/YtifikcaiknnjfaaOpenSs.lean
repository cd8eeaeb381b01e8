/- What a row's argument of type []string is opened to, and what its bulk says of the texts' sizes. -/
import Derived.Test.YtifikcaiknnjfaaRows
import Derived.Test.YtifikcaiknnjfaaOpen
import Derived.Test.YtifikcaiknnjfaaLexTok
import Derived.Deep.Strs
namespace Go.Proofs.Ytifikcaiknnjfaa
open Go.ChangeShapes Go.WideShapes Go.ChangeAt Go.RowKit Go.Deep

/-- A slice of texts. -/
def SIn (w : World) (A : Option Addr) (n : Nat) (xs : List ByteArray) : Prop :=
  xs.length = n ∧ (0 < n → ∃ b o, A = some ⟨b, o, none⟩ ∧ b < w.heap.size ∧ ∀ j s, xs[j]? = some s → w.cell? ⟨b, o + j, none⟩ = some (.string s))
theorem SIn.below {w w' : World} {A : Option Addr} {n : Nat} {xs : List ByteArray} (h : SIn w A n xs) (hb : Below w.heap.size w w') : SIn w' A n xs := by
  refine ⟨h.1, fun hn => ?_⟩
  obtain ⟨b, o, e, hlt, hc⟩ := h.2 hn
  refine ⟨b, o, e, Nat.lt_of_lt_of_le hlt hb.size, fun j u hu => ?_⟩
  exact (World.cell?_of_block (w := w) (a := ⟨b, o + j, none⟩) (hb.block b hlt)).trans (hc j u hu)
theorem SIn.at_ {w : World} {A : Option Addr} {n i : Nat} {xs : List ByteArray} (h : SIn w A n xs) (hi : i < n) : ∃ b o s, A = some ⟨b, o, none⟩ ∧ b < w.heap.size ∧ xs[i]? = some s ∧ w.cell? ⟨b, o + i, none⟩ = some (.string s) := by
  obtain ⟨b, o, e, hlt, hc⟩ := h.2 (by omega)
  have hl : i < xs.length := by rw [h.1]; exact hi
  exact ⟨b, o, xs[i], e, hlt, List.getElem?_eq_getElem hl, hc _ _ (List.getElem?_eq_getElem hl)⟩
/-- All that the texts take. -/
def sizes (xs : List ByteArray) : Nat := (xs.map (·.size)).sum
theorem bulk_strs {H : Type} (xs : List ByteArray) : Rows.uptoBulkAll (xs.map fun s => DataW.lit (H := H) (.string s.data.toList)) = sizes xs + xs.length := by
  induction xs with
  | nil => rfl
  | cons s xs ih =>
    have e : sizes (s :: xs) = s.size + sizes xs := by simp [sizes]
    rw [List.map_cons, List.length_cons, e]
    simp only [Rows.uptoBulkAll, Rows.uptoBulk]
    rw [ih]
    have : s.data.toList.length = s.size := by rw [Array.length_toList]; rfl
    omega
section
variable {H : Type} {enc : TypeId × Value → H} {W : World}
set_option maxRecDepth 100000 in
theorem open_texts {b : Nat} {v : Value} {d : DataW H} {p : List MemPlace} (hv : Value.okWide Try.prog W .any b 31 v)
    (h0 : DataW.Trod enc Try.prog W 0 (fun _ => true) true 31 v d p) : ∃ a len cap xs, v = .slice a len cap ∧ SIn W a len xs ∧ len ≤ cap ∧ cap ≤ 9223372036854775807 ∧ (∀ s ∈ xs, s.size ≤ maxLen) ∧ sizes xs + xs.length ≤ Rows.uptoBulk d := by
  obtain ⟨a, len, cap, rfl⟩ := okWide_slice Try.underlying31 hv
  obtain ⟨fuel, hf⟩ := h0
  rcases open_strs Try.underlying31 Try.underlying9 (by kernel_rfl) hf with ⟨hcs, _⟩ | ⟨x, l, c, m, Sx, hcs, _, hl, hm, hmm, hx, hcell⟩
  · simp [Value.cells] at hcs
    obtain ⟨rfl, rfl, rfl⟩ := hcs
    exact ⟨none, 0, 0, [], rfl, ⟨rfl, fun h => absurd h (by omega)⟩, by omega, by omega, (fun p hp => by cases hp), Nat.zero_le _⟩
  · simp [Value.cells] at hcs
    obtain ⟨rfl, rfl, rfl⟩ := hcs
    have hlm : len ≤ m := by rw [hmm]; split <;> omega
    have hd : d = .slice ((List.range len).map fun i => .lit (.string (Sx i).data.toList)) ((List.range (m - len)).map fun j => .lit (.string (Sx (len + j)).data.toList)) := congrArg Prod.fst hx
    unfold maxLen at hm
    refine ⟨some x, len, cap, (List.range len).map Sx, rfl, ⟨by simp, fun hn => ?_⟩, hl, hm, fun s hs => ?_, ?_⟩
    · have h1 := (hcell 0 (by omega)).1
      obtain ⟨b, o, spot⟩ := x
      have hspot : spot = none := by simpa [Addr.add] using World.cell?_spot h1
      subst hspot
      have hlt := World.block_lt_of_cell? W _ h1
      refine ⟨b, o, rfl, hlt, fun j s hs => ?_⟩
      have hj : j < len := by
        rcases Nat.lt_or_ge j len with h | h
        · exact h
        · rw [List.getElem?_eq_none (by simpa using h)] at hs; cases hs
      rw [List.getElem?_map, List.getElem?_range hj] at hs
      injection hs with hs
      subst hs
      have h5 := (hcell j (by omega)).1
      rw [addr_add] at h5
      exact h5
    · obtain ⟨i, hi, rfl⟩ := List.mem_map.1 hs
      exact (hcell i (by have := List.mem_range.1 hi; omega)).2
    · rw [hd]
      have h6 := bulk_strs (H := H) ((List.range len).map Sx)
      rw [List.map_map] at h6
      have h7 : (List.range len).map ((fun s : ByteArray => DataW.lit (H := H) (.string s.data.toList)) ∘ Sx) = (List.range len).map fun i => .lit (.string (Sx i).data.toList) := rfl
      rw [h7] at h6
      simp only [Rows.uptoBulk]
      omega
end
end Go.Proofs.Ytifikcaiknnjfaa
