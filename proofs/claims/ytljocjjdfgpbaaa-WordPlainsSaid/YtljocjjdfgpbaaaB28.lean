/- Texts of one seat, put together: WordTwo. -/
import Derived.Test.YtljocjjdfgpbaaaB19
import Derived.Test.YtljocjjdfgpbaaaB20
set_option linter.unusedVariables false
/- A region that draws its order, calls two functions and stores what they answer into two boxes that it makes. -/
namespace Go.Proofs.Ytljocjjdfgpbaaa
open Go.RowKit
open Wo

/-- The call, the box that is made, its type, what lies there first, what is stored. -/
structure PSp where
  c : Nat
  m : Nat
  T : TypeId
  z : Array Value
  P : (Nat → Prop) → World → Array Value → Prop
structure PSp.Ok (p : PSp) : Prop where
  keep : ∀ S w w' cs, Keep S w w' → p.P S w cs → p.P S w' cs
  sub : ∀ S S' w cs, (∀ b, b < w.heap.size → S b → S' b) → p.P S w cs → p.P S' w cs
def Rg (B lo hi b : Nat) : Prop := b < B ∨ (lo ≤ b ∧ b < hi)
def Nt (g h b : Nat) : Prop := b ≠ g ∧ b ≠ h
structure GQ (W0 : World) (p q : PSp) (listed : Array Bool) (σ : Nat → Value) (w : World) : Prop where
  below : Below W0.heap.size W0 w
  got : ∀ x, x = p ∨ x = q → listed.getD x.c false = true → ∃ cs lo hi, σ x.c = .agg cs ∧ W0.heap.size ≤ lo ∧ hi ≤ w.heap.size ∧ x.P (Rg W0.heap.size lo hi) w cs ∧ ∀ y, y = p ∨ y = q → listed.getD y.m false = true → ∀ g, σ y.m = .pointer (some ⟨g, 0, none⟩) → g < lo ∨ hi ≤ g
  box : ∀ x, x = p ∨ x = q → listed.getD x.m false = true → ∃ g, σ x.m = .pointer (some ⟨g, 0, none⟩) ∧ W0.heap.size ≤ g ∧ Box x.T w g x.z
  ne : listed.getD p.m false = true → listed.getD q.m false = true → σ p.m ≠ σ q.m
def GQ2 (W0 : World) (p q : PSp) (σ : Nat → Value) (cs0 : Array Value → Array Value) (w : World) : Prop :=
  Below W0.heap.size W0 w ∧ ∃ g1 g2 cs1 cs2, σ p.c = .agg cs1 ∧ σ q.c = .agg cs2 ∧ σ p.m = .pointer (some ⟨g1, 0, none⟩) ∧ σ q.m = .pointer (some ⟨g2, 0, none⟩) ∧ W0.heap.size ≤ g1 ∧ W0.heap.size ≤ g2 ∧ g1 ≠ g2 ∧ Box p.T w g1 (cs0 cs1) ∧ Box q.T w g2 q.z ∧ p.P (Nt g1 g2) w cs1 ∧ q.P (Nt g1 g2) w cs2
section
variable {W0 w w' : World} {p q : PSp} {listed : Array Bool} {σ : Nat → Value} {i : Nat} {v : Value}
theorem GQ.start {n : Nat} (hb : Below W0.heap.size W0 w) : GQ W0 p q (Array.replicate n false) σ w :=
  ⟨hb, (fun x _ h => by rw [rep_false] at h; cases h), (fun x _ h => by rw [rep_false] at h; cases h), (fun h => by rw [rep_false] at h; cases h)⟩
theorem GQ.next (h : GQ W0 p q listed σ w) (hp : p.Ok) (hq : q.Ok) (hb : Below w.heap.size w w') (h1 : i ≠ p.c ∧ i ≠ q.c ∧ i ≠ p.m ∧ i ≠ q.m) : GQ W0 p q (listed.setIfInBounds i true) (upd σ i v) w' := by
  have hc : ∀ x, x = p ∨ x = q → i ≠ x.c ∧ i ≠ x.m ∧ x.Ok := by rintro x (rfl | rfl) <;> simp [h1, hp, hq]
  refine ⟨h.below.next hb, fun x hx hl => ?_, fun x hx hl => ?_, fun hl1 hl2 => ?_⟩
  · obtain ⟨n1, -, ok⟩ := hc x hx
    rw [getD_set_ne false n1] at hl
    obtain ⟨cs, lo, hi, e, h0, h2, h3, h4⟩ := h.got x hx hl
    rw [upd_ne σ v (Ne.symm n1)]
    refine ⟨cs, lo, hi, e, h0, Nat.le_trans h2 hb.size, ok.keep _ _ _ _ (Keep.of_below hb) h3, fun y hy hm g hg => ?_⟩
    obtain ⟨-, n2, -⟩ := hc y hy
    rw [getD_set_ne false n2] at hm
    rw [upd_ne σ v (Ne.symm n2)] at hg
    exact h4 y hy hm g hg
  · obtain ⟨-, n2, -⟩ := hc x hx
    rw [getD_set_ne false n2] at hl
    obtain ⟨g, e, h2, h3⟩ := h.box x hx hl
    rw [upd_ne σ v (Ne.symm n2)]
    exact ⟨g, e, h2, h3.next hb⟩
  · rw [getD_set_ne false h1.2.2.1] at hl1
    rw [getD_set_ne false h1.2.2.2] at hl2
    rw [upd_ne σ v (Ne.symm h1.2.2.1), upd_ne σ v (Ne.symm h1.2.2.2)]
    exact h.ne hl1 hl2
/-- No two of the four are one. -/
def apartB (p q : PSp) : Bool := p.c != q.c && p.c != p.m && p.c != q.m && q.c != p.m && q.c != q.m && p.m != q.m
theorem apartB_spec (h : apartB p q = true) : p.c ≠ q.c ∧ p.c ≠ p.m ∧ p.c ≠ q.m ∧ q.c ≠ p.m ∧ q.c ≠ q.m ∧ p.m ≠ q.m := by
  unfold apartB at h
  simp only [Bool.and_eq_true, bne_iff_ne] at h
  obtain ⟨⟨⟨⟨⟨h1, h2⟩, h3⟩, h4⟩, h5⟩, h6⟩ := h
  exact ⟨h1, h2, h3, h4, h5, h6⟩
theorem GQ.call {x : PSp} {cs : Array Value} (h : GQ W0 p q listed σ w) (ha : apartB p q = true) (hp : p.Ok) (hq : q.Ok) (hx : x = p ∨ x = q) (hi : i = x.c) (hb : Below w.heap.size w w') (hP : x.P (Rg W0.heap.size w.heap.size w'.heap.size) w' cs) :
    GQ W0 p q (listed.setIfInBounds i true) (upd σ i (.agg cs)) w' := by
  subst hi
  obtain ⟨a1, a2, a3, a4, a5, a6⟩ := apartB_spec ha
  have hm : ∀ y, y = p ∨ y = q → x.c ≠ y.m := by rcases hx with rfl | rfl <;> rintro y (rfl | rfl) <;> assumption
  have hc : ∀ y, y = p ∨ y = q → y.Ok := by rintro y (rfl | rfl) <;> assumption
  have hbox : ∀ y, y = p ∨ y = q → ∀ g, (listed.setIfInBounds x.c true).getD y.m false = true → upd σ x.c (.agg cs) y.m = .pointer (some ⟨g, 0, none⟩) → listed.getD y.m false = true ∧ σ y.m = .pointer (some ⟨g, 0, none⟩) := fun y hy g hl hg => by
    rw [getD_set_ne false (hm y hy)] at hl
    rw [upd_ne σ _ (Ne.symm (hm y hy))] at hg
    exact ⟨hl, hg⟩
  refine ⟨h.below.next hb, fun y hy hl => ?_, fun y hy hl => ?_, fun hl1 hl2 => ?_⟩
  · by_cases hyx : y.c = x.c
    · have hyx : y = x := by rcases hx with rfl | rfl <;> rcases hy with rfl | rfl <;> first | rfl | exact absurd hyx a1 | exact absurd hyx.symm a1
      subst hyx
      rw [upd_self]
      refine ⟨cs, _, _, rfl, h.below.size, Nat.le_refl _, hP, fun z hz hl2 g hg => .inl ?_⟩
      obtain ⟨k1, k2⟩ := hbox z hz g hl2 hg
      obtain ⟨g', e', -, hb'⟩ := h.box z hz k1
      rw [k2] at e'
      injection e' with e'
      injection e' with e'
      injection e' with e'
      rw [e']; exact hb'.lt
    · rw [getD_set_ne false (Ne.symm hyx)] at hl
      obtain ⟨cs2, lo, hi, e, h0, h2, h3, h4⟩ := h.got y hy hl
      rw [upd_ne σ _ hyx]
      refine ⟨cs2, lo, hi, e, h0, Nat.le_trans h2 hb.size, (hc y hy).keep _ _ _ _ (Keep.of_below hb) h3, fun z hz hl2 g hg => ?_⟩
      obtain ⟨k1, k2⟩ := hbox z hz g hl2 hg
      exact h4 z hz k1 g k2
  · rw [getD_set_ne false (hm y hy)] at hl
    obtain ⟨g, e, h2, h3⟩ := h.box y hy hl
    rw [upd_ne σ _ (Ne.symm (hm y hy))]
    exact ⟨g, e, h2, h3.next hb⟩
  · have n1 := hm p (.inl rfl)
    have n2 := hm q (.inr rfl)
    rw [getD_set_ne false n1] at hl1
    rw [getD_set_ne false n2] at hl2
    rw [upd_ne σ _ (Ne.symm n1), upd_ne σ _ (Ne.symm n2)]
    exact h.ne hl1 hl2
theorem GQ.made {x : PSp} (h : GQ W0 p q listed σ w) (ha : apartB p q = true) (hp : p.Ok) (hq : q.Ok) (hx : x = p ∨ x = q) (hi : i = x.m) :
    GQ W0 p q (listed.setIfInBounds i true) (upd σ i (.pointer (some ⟨w.heap.size, 0, none⟩))) (w.alloc (.cells x.z x.T)) := by
  subst hi
  obtain ⟨a1, a2, a3, a4, a5, a6⟩ := apartB_spec ha
  have hb := bl_alloc w (.cells x.z x.T)
  have hm : ∀ y, y = p ∨ y = q → x.m ≠ y.c := by rcases hx with rfl | rfl <;> rintro y (rfl | rfl) <;> first | assumption | (apply Ne.symm; assumption)
  have hc : ∀ y, y = p ∨ y = q → y.Ok := by rintro y (rfl | rfl) <;> assumption
  have hone : ∀ y, y = p ∨ y = q → y.m = x.m → y = x := fun y hy e => by rcases hx with rfl | rfl <;> rcases hy with rfl | rfl <;> first | rfl | exact absurd e a6 | exact absurd e.symm a6
  refine ⟨h.below.next hb, fun y hy hl => ?_, fun y hy hl => ?_, fun hl1 hl2 => ?_⟩
  · rw [getD_set_ne false (hm y hy)] at hl
    obtain ⟨cs2, lo, hi, e, h0, h2, h3, h4⟩ := h.got y hy hl
    rw [upd_ne σ _ (Ne.symm (hm y hy))]
    refine ⟨cs2, lo, hi, e, h0, Nat.le_trans h2 hb.size, (hc y hy).keep _ _ _ _ (Keep.of_below hb) h3, fun z hz hl2 g hg => ?_⟩
    by_cases hzx : z.m = x.m
    · rw [hzx, upd_self] at hg
      injection hg with hg
      injection hg with hg
      injection hg with hg
      exact .inr (by omega)
    · rw [getD_set_ne false (Ne.symm hzx)] at hl2
      rw [upd_ne σ _ hzx] at hg
      exact h4 z hz hl2 g hg
  · by_cases hyx : y.m = x.m
    · obtain rfl := hone y hy hyx
      rw [upd_self]
      exact ⟨_, rfl, h.below.size, Box.new _ _ _⟩
    · rw [getD_set_ne false (Ne.symm hyx)] at hl
      obtain ⟨g, e, h2, h3⟩ := h.box y hy hl
      rw [upd_ne σ _ hyx]
      exact ⟨g, e, h2, h3.next hb⟩
  · have old : ∀ y, y = p ∨ y = q → y.m ≠ x.m → (listed.setIfInBounds x.m true).getD y.m false = true → upd σ x.m (.pointer (some ⟨w.heap.size, 0, none⟩)) y.m ≠ .pointer (some ⟨w.heap.size, 0, none⟩) := fun y hy n hl => by
      rw [getD_set_ne false (Ne.symm n)] at hl
      obtain ⟨g, e, -, h3⟩ := h.box y hy hl
      rw [upd_ne σ _ n, e]
      have := h3.lt
      intro hh
      injection hh with hh
      injection hh with hh
      injection hh with hh
      omega
    rcases hx with rfl | rfl
    · rw [upd_self]
      exact Ne.symm (old q (.inr rfl) (Ne.symm a6) hl2)
    · rw [upd_self]
      exact old p (.inl rfl) a6 hl1
/-- All four have come up. -/
theorem GQ.all (h : GQ W0 p q listed σ w) (hp : p.Ok) (hq : q.Ok) (l1 : listed.getD p.c false = true) (l2 : listed.getD q.c false = true) (l3 : listed.getD p.m false = true) (l4 : listed.getD q.m false = true) : GQ2 W0 p q σ (fun _ => p.z) w := by
  obtain ⟨cs1, lo1, hi1, e1, h01, h1, p1, f1⟩ := h.got p (.inl rfl) l1
  obtain ⟨cs2, lo2, hi2, e2, h02, h2, p2, f2⟩ := h.got q (.inr rfl) l2
  obtain ⟨g1, eg1, hg1, b1⟩ := h.box p (.inl rfl) l3
  obtain ⟨g2, eg2, hg2, b2⟩ := h.box q (.inr rfl) l4
  have hne : g1 ≠ g2 := fun e => h.ne l3 l4 (by rw [eg1, eg2, e])
  have k11 := f1 p (.inl rfl) l3 g1 eg1
  have k12 := f1 q (.inr rfl) l4 g2 eg2
  have k21 := f2 p (.inl rfl) l3 g1 eg1
  have k22 := f2 q (.inr rfl) l4 g2 eg2
  refine ⟨h.below, g1, g2, cs1, cs2, e1, e2, eg1, eg2, hg1, hg2, hne, b1, b2, hp.sub _ _ _ _ (fun b _ hb => ?_) p1, hq.sub _ _ _ _ (fun b _ hb => ?_) p2⟩
  · rcases hb with hb | hb <;> exact ⟨by omega, by omega⟩
  · rcases hb with hb | hb <;> exact ⟨by omega, by omega⟩
end
/-- A property of this kind and these kids, whatever lies where. -/
def PLtl (t : LT) (S : Nat → Prop) (w : World) (cs : Array Value) : Prop := ∃ k p A n c, cs = #[.int .i64 k, .int .i64 p, .slice A n c] ∧ DIn S w t (c3 k p A n c)
def PWord (L M : List (List Bool)) (S : Nat → Prop) (w : World) (cs : Array Value) : Prop := ∃ A c B d, cs = #[.slice A L.length c, .slice B M.length d] ∧ LsIn S w A L.length L ∧ LsIn S w B M.length M
def spL (c m : Nat) (t : LT) : PSp := ⟨c, m, 24, #[.int .i64 0, .int .i64 0, .slice none 0 0], PLtl t⟩
def spW (c m : Nat) (L M : List (List Bool)) : PSp := ⟨c, m, 27, #[.slice none 0 0, .slice none 0 0], PWord L M⟩
theorem spL_ok (c m : Nat) (t : LT) : (spL c m t).Ok :=
  ⟨fun S w w' cs hk h => by obtain ⟨k, p, A, n, c, e, h1⟩ := h; exact ⟨k, p, A, n, c, e, h1.keep hk⟩, fun S S' w cs hs h => by obtain ⟨k, p, A, n, c, e, h1⟩ := h; exact ⟨k, p, A, n, c, e, h1.sub hs⟩⟩
theorem spW_ok (c m : Nat) (L M : List (List Bool)) : (spW c m L M).Ok :=
  ⟨fun S w w' cs hk h => by obtain ⟨A, c, B, d, e, h1, h2⟩ := h; exact ⟨A, c, B, d, e, h1.keep hk, h2.keep hk⟩, fun S S' w cs hs h => by obtain ⟨A, c, B, d, e, h1, h2⟩ := h; exact ⟨A, c, B, d, e, h1.sub hs, h2.sub hs⟩⟩
end Go.Proofs.Ytljocjjdfgpbaaa
