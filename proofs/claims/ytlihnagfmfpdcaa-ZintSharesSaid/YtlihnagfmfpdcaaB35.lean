/- Texts of one seat, put together: RegionZ. -/
import Derived.Test.YtlihnagfmfpdcaaB31
/- New boxes of api.Int in a region that draws its order. -/
namespace Go.Proofs.Ytlihnagfmfpdcaa
open Go.RowKit

/-- Block g is a box that holds the number Z. -/
def ZBox (w : World) (g : Nat) (Z : Int) (k : Nat) : Prop := ∃ s A n c, Blk w g #[.bool s, .slice A n c] ∧ ZRes w (.agg #[.bool s, .slice A n c]) Z k
theorem ZBox.lt {w : World} {g k : Nat} {Z : Int} (h : ZBox w g Z k) : g < w.heap.size := by
  obtain ⟨s, A, n, c, h1, -⟩ := h
  exact h1.lt
theorem ZBox.next {w w' : World} {g k : Nat} {Z : Int} (h : ZBox w g Z k) (hb : Below w.heap.size w w') : ZBox w' g Z k := by
  obtain ⟨s, A, n, c, h1, h2⟩ := h
  exact ⟨s, A, n, c, h1.next hb, h2.below hb⟩
theorem ZBox.other {w w' : World} {g g' k m d : Nat} {Z : Int} {s : Bool} {B : Option Addr} (h : ZBox w g Z k) (hb : Blk w g' #[.bool s, .slice B m d]) (ho : Only g' w w') (hne : g ≠ g') : ZBox w' g Z k := by
  obtain ⟨s, A, n, c, h1, h2⟩ := h
  exact ⟨s, A, n, c, h1.other ho hne, h2.only hb ho⟩
theorem ZBox.put {w : World} {g k m d n c : Nat} {Z : Int} {s t : Bool} {A B : Option Addr} (hb : Blk w g #[.bool s, .slice B m d]) (h : ZRes w (.agg #[.bool t, .slice A n c]) Z k) : ZBox (st2 w g (.bool t) (.slice A n c)) g Z k :=
  ⟨t, A, n, c, hb.set2 _ _, h.only hb (only_set2 w g _ _)⟩
theorem ZBox.new {w : World} {k n c : Nat} {Z : Int} {t : Bool} {A : Option Addr} (h : ZRes w (.agg #[.bool t, .slice A n c]) Z k) : ZBox (w.alloc (.cells #[.bool t, .slice A n c] 38)) w.heap.size Z k :=
  ⟨t, A, n, c, Blk.new _ _, h.alloc _⟩
structure BoxSpec where
  made : Nat
  filled : Nat
  num : Int
  lim : Nat
/-- New boxes, each made by an operation and filled by another; nothing that was there has turned. -/
def GZ (W0 : World) (Bs : List BoxSpec) (listed : Array Bool) (σ : Nat → Value) (w : World) : Prop :=
  Below W0.heap.size W0 w ∧ (∀ p ∈ Bs, listed.getD p.made false = true → ∃ g, σ p.made = .pointer (some ⟨g, 0, none⟩) ∧ W0.heap.size ≤ g ∧ (listed.getD p.filled false = false → Blk w g #[.bool false, .slice none 0 0]) ∧ (listed.getD p.filled false = true → ZBox w g p.num p.lim)) ∧
  (∀ p ∈ Bs, ∀ q ∈ Bs, p.made ≠ q.made → listed.getD p.made false = true → listed.getD q.made false = true → σ p.made ≠ σ q.made)
variable {W0 : World} {Bs : List BoxSpec} {listed : Array Bool} {σ : Nat → Value} {w w' : World} {i : Nat} {v : Value}
theorem GZ.old (h : GZ W0 Bs listed σ w) : Below W0.heap.size W0 w := h.1
theorem GZ.start {n : Nat} : GZ W0 Bs (Array.replicate n false) σ W0.drew :=
  ⟨bl_drewN W0 1, (fun p _ h => by rw [rep_false] at h; cases h), (fun p _ q _ _ h => by rw [rep_false] at h; cases h)⟩
def offB (Bs : List BoxSpec) (i : Nat) : Bool := Bs.all fun p => p.made != i && p.filled != i
theorem offB_spec (h : offB Bs i = true) {p : BoxSpec} (hp : p ∈ Bs) : p.made ≠ i ∧ p.filled ≠ i := by
  have := List.all_eq_true.1 h p hp
  simpa using this
theorem GZ.keep (h : GZ W0 Bs listed σ w) (hi : offB Bs i = true) (hw : Below w.heap.size w w') : GZ W0 Bs (listed.setIfInBounds i true) (upd σ i v) w' := by
  refine ⟨h.1.next hw, fun p hp hl => ?_, fun p hp q hq hne hl1 hl2 => ?_⟩
  · obtain ⟨h1, h2⟩ := offB_spec hi hp
    rw [getD_set_ne false (Ne.symm h1)] at hl
    obtain ⟨g, e, hg, ha, hb⟩ := h.2.1 p hp hl
    rw [upd_ne σ v h1, getD_set_ne false (Ne.symm h2)]
    exact ⟨g, e, hg, fun hh => (ha hh).next hw, fun hh => (hb hh).next hw⟩
  · obtain ⟨h1, -⟩ := offB_spec hi hp
    obtain ⟨h2, -⟩ := offB_spec hi hq
    rw [getD_set_ne false (Ne.symm h1)] at hl1
    rw [getD_set_ne false (Ne.symm h2)] at hl2
    rw [upd_ne σ v h1, upd_ne σ v h2]
    exact h.2.2 p hp q hq hne hl1 hl2
theorem GZ.same (h : GZ W0 Bs listed σ w) (hi : offB Bs i = true) : GZ W0 Bs (listed.setIfInBounds i true) (upd σ i v) w := h.keep hi (Below.refl _ _)
theorem GZ.at_ (h : GZ W0 Bs listed σ w) {p : BoxSpec} (hp : p ∈ Bs) (hl : listed.getD p.made false = true) : ∃ g, σ p.made = .pointer (some ⟨g, 0, none⟩) ∧ W0.heap.size ≤ g ∧ g < w.heap.size ∧ (listed.getD p.filled false = false → Blk w g #[.bool false, .slice none 0 0]) ∧ (listed.getD p.filled false = true → ZBox w g p.num p.lim) := by
  obtain ⟨g, e, hg, ha, hb⟩ := h.2.1 p hp hl
  refine ⟨g, e, hg, ?_, ha, hb⟩
  cases hf : listed.getD p.filled false with
  | false => exact (ha hf).lt
  | true => exact (hb hf).lt
/-- Each number names one box alone. -/
def soleB (Bs : List BoxSpec) : Bool := Bs.all fun p => Bs.all fun q => (p.made != q.filled) && (p.made == q.made || p.filled != q.filled)
theorem soleB_spec (h : soleB Bs = true) {p q : BoxSpec} (hp : p ∈ Bs) (hq : q ∈ Bs) : p.made ≠ q.filled ∧ (p.made = q.made ∨ p.filled ≠ q.filled) := by
  have h1 := List.all_eq_true.1 h p hp
  have h2 := List.all_eq_true.1 h1 q hq
  simpa using h2
theorem GZ.made (h : GZ W0 Bs listed σ w) (hs : soleB Bs = true) {p : BoxSpec} (hp : p ∈ Bs) (hi : i = p.made) (hun : ∀ q ∈ Bs, q.made = p.made → listed.getD q.filled false = false) :
    GZ W0 Bs (listed.setIfInBounds i true) (upd σ i (.pointer (some ⟨w.heap.size, 0, none⟩))) (w.alloc (.cells #[.bool false, .slice none 0 0] 38)) := by
  subst hi
  refine ⟨h.1.next (bl_alloc w _), fun q hq hl => ?_, fun q hq r hr hne hl1 hl2 => ?_⟩
  · by_cases hqp : q.made = p.made
    · rw [hqp, upd_self, getD_set_ne false (soleB_spec hs hp hq).1, hun q hq hqp]
      exact ⟨_, rfl, h.1.size, fun _ => Blk.new _ _, fun hh => by cases hh⟩
    · rw [getD_set_ne false (Ne.symm hqp)] at hl
      obtain ⟨g, e, hg, ha, hb⟩ := h.2.1 q hq hl
      rw [upd_ne σ _ hqp, getD_set_ne false (soleB_spec hs hp hq).1]
      exact ⟨g, e, hg, fun hh => (ha hh).alloc _, fun hh => (hb hh).next (bl_alloc w _)⟩
  · by_cases hqp : q.made = p.made
    · have hrp : r.made ≠ p.made := fun e => hne (hqp.trans e.symm)
      rw [getD_set_ne false (Ne.symm hrp)] at hl2
      obtain ⟨g, e, -, hlt, -⟩ := h.at_ hr hl2
      rw [hqp, upd_self, upd_ne σ _ hrp, e]
      intro hh
      injection hh with hh
      injection hh with hh
      injection hh with hh
      omega
    · rw [getD_set_ne false (Ne.symm hqp)] at hl1
      rw [upd_ne σ _ hqp]
      by_cases hrp : r.made = p.made
      · obtain ⟨g, e, -, hlt, -⟩ := h.at_ hq hl1
        rw [hrp, upd_self, e]
        intro hh
        injection hh with hh
        injection hh with hh
        injection hh with hh
        omega
      · rw [getD_set_ne false (Ne.symm hrp)] at hl2
        rw [upd_ne σ _ hrp]
        exact h.2.2 q hq r hr hne hl1 hl2
theorem GZ.filled (h : GZ W0 Bs listed σ w) (hs : soleB Bs = true) {p : BoxSpec} (hp : p ∈ Bs) (hi : i = p.filled) (hl0 : listed.getD p.made false = true) (hun : listed.getD i true = false) {g n c : Nat} {t : Bool} {A : Option Addr}
    (hg : σ p.made = .pointer (some ⟨g, 0, none⟩)) (hz : ZRes w (.agg #[.bool t, .slice A n c]) p.num p.lim) (hsame : ∀ q ∈ Bs, q.made = p.made → q = p) :
    Blk w g #[.bool false, .slice none 0 0] ∧ GZ W0 Bs (listed.setIfInBounds i true) (upd σ i v) (st2 w g (.bool t) (.slice A n c)) := by
  subst hi
  have hfalse : listed.getD p.filled false = false := unlisted hun
  obtain ⟨g', e', hg', ha', -⟩ := h.2.1 p hp hl0
  have hgg : g = g' := by rw [hg] at e'; injection e' with e'; injection e' with e'; injection e'
  subst hgg
  have hB := ha' hfalse
  refine ⟨hB, zback h.1 hg' (only_set2 _ _ _ _), fun q hq hl => ?_, fun q hq r hr hne hl1 hl2 => ?_⟩
  · have h1 := (soleB_spec hs hq hp).1
    rw [getD_set_ne false (Ne.symm h1)] at hl
    rw [upd_ne σ v h1]
    by_cases hqp : q.made = p.made
    · obtain rfl := hsame q hq hqp
      have hlt := lt_unlisted hun
      exact ⟨g, hg, hg', fun hh => by simp [hlt] at hh, fun _ => ZBox.put hB hz⟩
    · obtain ⟨g2, e2, hg2, ha2, hb2⟩ := h.2.1 q hq hl
      have hne2 : g2 ≠ g := by
        intro e
        have := h.2.2 q hq p hp hqp hl hl0
        rw [e2, hg, e] at this
        exact this rfl
      rw [getD_set_ne false (Ne.symm ((soleB_spec hs hq hp).2.resolve_left hqp))]
      exact ⟨g2, e2, hg2, fun hh => (ha2 hh).other (only_set2 _ _ _ _) hne2, fun hh => (hb2 hh).other hB (only_set2 _ _ _ _) hne2⟩
  · have h1 := (soleB_spec hs hq hp).1
    have h2 := (soleB_spec hs hr hp).1
    rw [getD_set_ne false (Ne.symm h1)] at hl1
    rw [getD_set_ne false (Ne.symm h2)] at hl2
    rw [upd_ne σ v h1, upd_ne σ v h2]
    exact h.2.2 q hq r hr hne hl1 hl2
end Go.Proofs.Ytlihnagfmfpdcaa
