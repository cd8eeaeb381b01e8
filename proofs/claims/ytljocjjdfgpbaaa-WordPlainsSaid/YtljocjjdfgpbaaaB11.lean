/- Texts of one seat, put together: LexReg4. -/
import Derived.Test.YtljocjjdfgpbaaaB04
set_option linter.unusedVariables false
/- XRegion4 over LexReg2: new boxes of structs, each made by one operation and filled by another. -/
namespace Go.Proofs.Ytljocjjdfgpbaaa
open Go.RowKit

structure BSpec where
  made : Nat
  filled : Nat
  T : TypeId
  zero : Array Value
  ok : Array Value → World → Prop
/-- What lay there stays; each box that has come up holds its zero until it is filled, and then what it should. -/
def GB (W0 : World) (N : Nat) (Bs : List BSpec) (listed : Array Bool) (σ : Nat → Value) (w : World) : Prop :=
  listed.size = N ∧ Below W0.heap.size W0 w ∧
  (∀ p ∈ Bs, listed.getD p.made false = true → ∃ g cs, σ p.made = .pointer (some ⟨g, 0, none⟩) ∧ W0.heap.size ≤ g ∧ Box p.T w g cs ∧ (listed.getD p.filled false = false → cs = p.zero) ∧ (listed.getD p.filled false = true → p.ok cs w)) ∧
  (∀ p ∈ Bs, ∀ q ∈ Bs, p.made ≠ q.made → listed.getD p.made false = true → listed.getD q.made false = true → σ p.made ≠ σ q.made)
def offS (Bs : List BSpec) (i : Nat) : Bool := Bs.all fun p => p.made != i && p.filled != i
def soleS (Bs : List BSpec) : Bool := Bs.all fun p => Bs.all fun q => (p.made != q.filled) && (p.made == q.made || p.filled != q.filled)
section
variable {W0 : World} {N : Nat} {Bs : List BSpec} {TR : World → World → Prop} {listed : Array Bool} {σ : Nat → Value} {w w' : World} {i : Nat} {v : Value}
theorem GB.start (hb : Below W0.heap.size W0 w) : GB W0 N Bs (Array.replicate N false) σ w :=
  ⟨by simp, hb, (fun p _ h => by rw [rep_false] at h; cases h), (fun p _ q _ _ h => by rw [rep_false] at h; cases h)⟩
theorem offS_spec (h : offS Bs i = true) {p : BSpec} (hp : p ∈ Bs) : p.made ≠ i ∧ p.filled ≠ i := by
  have := List.all_eq_true.1 h p hp
  simpa using this
theorem soleS_spec (h : soleS Bs = true) {p q : BSpec} (hp : p ∈ Bs) (hq : q ∈ Bs) : p.made ≠ q.filled ∧ (p.made = q.made ∨ p.filled ≠ q.filled) := by
  have h1 := List.all_eq_true.1 h p hp
  have h2 := List.all_eq_true.1 h1 q hq
  simpa using h2
theorem GB.keep (h : GB W0 N Bs listed σ w) (hok : ∀ p ∈ Bs, ∀ cs w w', TR w w' → p.ok cs w → p.ok cs w') (hi : offS Bs i = true) (hw : Below w.heap.size w w') (hT : TR w w') : GB W0 N Bs (listed.setIfInBounds i true) (upd σ i v) w' := by
  refine ⟨by simpa using h.1, h.2.1.next hw, fun p hp hl => ?_, fun p hp q hq hne hl1 hl2 => ?_⟩
  · obtain ⟨h1, h2⟩ := offS_spec hi hp
    rw [getD_set_ne false (Ne.symm h1)] at hl
    obtain ⟨g, cs, e, hg, hx, ha, hb⟩ := h.2.2.1 p hp hl
    rw [upd_ne σ v h1, getD_set_ne false (Ne.symm h2)]
    exact ⟨g, cs, e, hg, hx.next hw, ha, fun hh => hok p hp _ _ _ hT (hb hh)⟩
  · obtain ⟨h1, -⟩ := offS_spec hi hp
    obtain ⟨h2, -⟩ := offS_spec hi hq
    rw [getD_set_ne false (Ne.symm h1)] at hl1
    rw [getD_set_ne false (Ne.symm h2)] at hl2
    rw [upd_ne σ v h1, upd_ne σ v h2]
    exact h.2.2.2 p hp q hq hne hl1 hl2
theorem GB.at_ (h : GB W0 N Bs listed σ w) {p : BSpec} (hp : p ∈ Bs) (hl : listed.getD p.made false = true) : ∃ g cs, σ p.made = .pointer (some ⟨g, 0, none⟩) ∧ W0.heap.size ≤ g ∧ Box p.T w g cs ∧ (listed.getD p.filled false = false → cs = p.zero) ∧ (listed.getD p.filled false = true → p.ok cs w) := h.2.2.1 p hp hl
theorem GB.made (h : GB W0 N Bs listed σ w) (hok : ∀ p ∈ Bs, ∀ cs w w', TR w w' → p.ok cs w → p.ok cs w') (hs : soleS Bs = true) {p : BSpec} (hp : p ∈ Bs) (hi : i = p.made) (hun : listed.getD p.filled false = false) (hsame : ∀ q ∈ Bs, q.made = p.made → q = p) (hT : TR w (w.alloc (.cells p.zero p.T))) :
    GB W0 N Bs (listed.setIfInBounds i true) (upd σ i (.pointer (some ⟨w.heap.size, 0, none⟩))) (w.alloc (.cells p.zero p.T)) := by
  subst hi
  refine ⟨by simpa using h.1, h.2.1.next (bl_alloc w _), fun q hq hl => ?_, fun q hq r hr hne hl1 hl2 => ?_⟩
  · by_cases hqp : q.made = p.made
    · obtain rfl := hsame q hq hqp
      rw [upd_self, getD_set_ne false (soleS_spec hs hp hq).1, hun]
      exact ⟨_, _, rfl, h.2.1.size, Box.new _ _ _, fun _ => rfl, fun hh => by cases hh⟩
    · rw [getD_set_ne false (Ne.symm hqp)] at hl
      obtain ⟨g, cs, e, hg, hx, ha, hb⟩ := h.2.2.1 q hq hl
      rw [upd_ne σ _ hqp, getD_set_ne false (soleS_spec hs hp hq).1]
      exact ⟨g, cs, e, hg, hx.alloc _, ha, fun hh => hok q hq _ _ _ hT (hb hh)⟩
  · by_cases hqp : q.made = p.made
    · have hrp : r.made ≠ p.made := fun e => hne (hqp.trans e.symm)
      rw [getD_set_ne false (Ne.symm hrp)] at hl2
      obtain ⟨g, cs, e, -, hx, -⟩ := h.2.2.1 r hr hl2
      have hlt := hx.lt
      rw [hqp, upd_self, upd_ne σ _ hrp, e]
      intro hh
      injection hh with hh
      injection hh with hh
      injection hh with hh
      omega
    · rw [getD_set_ne false (Ne.symm hqp)] at hl1
      rw [upd_ne σ _ hqp]
      by_cases hrp : r.made = p.made
      · obtain ⟨g, cs, e, -, hx, -⟩ := h.2.2.1 q hq hl1
        have hlt := hx.lt
        rw [hrp, upd_self, e]
        intro hh
        injection hh with hh
        injection hh with hh
        injection hh with hh
        omega
      · rw [getD_set_ne false (Ne.symm hrp)] at hl2
        rw [upd_ne σ _ hrp]
        exact h.2.2.2 q hq r hr hne hl1 hl2
theorem GB.filled (h : GB W0 N Bs listed σ w) (hok : ∀ p ∈ Bs, ∀ cs w w', TR w w' → p.ok cs w → p.ok cs w') (hs : soleS Bs = true) {p : BSpec} (hp : p ∈ Bs) (hi : i = p.filled) (hiN : i < N) {g : Nat} {cs : Array Value}
    (hg : σ p.made = .pointer (some ⟨g, 0, none⟩)) (hgg : W0.heap.size ≤ g) (x : Box p.T w' g cs) (ho : Only g w w') (hc : p.ok cs w') (hT : TR w w') (hl0 : listed.getD p.made false = true) (hsame : ∀ q ∈ Bs, q.made = p.made → q = p) :
    GB W0 N Bs (listed.setIfInBounds i true) (upd σ i v) w' := by
  subst hi
  refine ⟨by simpa using h.1, h.2.1.trans (ho.below h.2.1.size hgg), fun q hq hl => ?_, fun q hq r hr hne hl1 hl2 => ?_⟩
  · have h1 := (soleS_spec hs hq hp).1
    rw [getD_set_ne false (Ne.symm h1)] at hl
    rw [upd_ne σ v h1]
    by_cases hqp : q.made = p.made
    · obtain rfl := hsame q hq hqp
      have hlt : q.filled < listed.size := by rw [h.1]; exact hiN
      exact ⟨g, cs, hg, hgg, x, fun hh => by simp [hlt] at hh, fun _ => hc⟩
    · obtain ⟨g2, cs2, e2, hg2, x2, ha2, hb2⟩ := h.2.2.1 q hq hl
      have hne2 : g2 ≠ g := by
        intro e
        have := h.2.2.2 q hq p hp hqp hl hl0
        rw [e2, hg, e] at this
        exact this rfl
      rw [getD_set_ne false (Ne.symm ((soleS_spec hs hq hp).2.resolve_left hqp))]
      exact ⟨g2, cs2, e2, hg2, x2.other ho hne2, ha2, fun hh => hok q hq _ _ _ hT (hb2 hh)⟩
  · have h1 := (soleS_spec hs hq hp).1
    have h2 := (soleS_spec hs hr hp).1
    rw [getD_set_ne false (Ne.symm h1)] at hl1
    rw [getD_set_ne false (Ne.symm h2)] at hl2
    rw [upd_ne σ v h1, upd_ne σ v h2]
    exact h.2.2.2 q hq r hr hne hl1 hl2
end
end Go.Proofs.Ytljocjjdfgpbaaa
