/- Texts of one seat, put together: LexAny TwoL. -/
import Derived.Test.YtneiajkcikcnnaaDoorB22
import Derived.Test.YtneiajkcikcnnaaDoorB09
import Derived.Test.YtneiajkcikcnnaaDoorB07
set_option linter.unusedVariables false
/- lex.All and plumblineref10.All of any text. -/
namespace Go.Proofs.YtneiajkcikcnnaaDoor
open Go.RowKit
open Lx

theorem all_any (s : ByteArray) (w : World) (hs : s.size ≤ 9223372036854775807) : Calls Tryd.prog 5 #[.string s] w (AllPost s w) := by
  by_cases h : s.size ≤ 16384
  · exact all_short s w h
  · exact all_long s w hs (by omega)
theorem rall_any (s : ByteArray) (w : World) (hs : s.size ≤ 9223372036854775807) : Calls Tryd.prog 6 #[.string s] w (RAllPost s w) := by
  by_cases h : s.size ≤ 16384
  · exact rall_short s w h
  · exact rall_long s w hs (by omega)
end Go.Proofs.YtneiajkcikcnnaaDoor
/- A region that draws its order and ends in two stores of known structs into known variables. -/
namespace Go.Proofs.YtneiajkcikcnnaaDoor
open Go.RowKit

/-- All blocks but two are what they were. -/
structure K2 (r q : Nat) (w w' : World) : Prop where
  os : w'.os = w.os
  tape : w'.tape = w.tape
  output : w'.output = w.output
  size : w.heap.size ≤ w'.heap.size
  block : ∀ b, b < w.heap.size → b ≠ r → b ≠ q → w'.heap[b]? = w.heap[b]?
theorem K2.refl (r q : Nat) (w : World) : K2 r q w w := ⟨rfl, rfl, rfl, Nat.le_refl _, fun _ _ _ _ => rfl⟩
theorem K2.trans {r q : Nat} {a b c : World} (h : K2 r q a b) (k : K2 r q b c) : K2 r q a c :=
  ⟨k.os.trans h.os, k.tape.trans h.tape, k.output.trans h.output, Nat.le_trans h.size k.size, fun i hi h1 h2 => (k.block i (Nat.lt_of_lt_of_le hi h.size) h1 h2).trans (h.block i hi h1 h2)⟩
theorem K2.of_below {r q : Nat} {w w' : World} (h : Below w.heap.size w w') : K2 r q w w' := ⟨h.os, h.tape, h.output, h.size, fun i hi _ _ => h.block i hi⟩
theorem K2.fst {r q : Nat} {w w' : World} (ho : Only r w w') : K2 r q w w' := ⟨ho.os, ho.tape, ho.output, ho.size, fun i hi h1 _ => ho.block i hi (fun e => h1 (by injection e))⟩
theorem K2.snd {r q : Nat} {w w' : World} (ho : Only q w w') : K2 r q w w' := ⟨ho.os, ho.tape, ho.output, ho.size, fun i hi _ h2 => ho.block i hi (fun e => h2 (by injection e))⟩
theorem K2.below {r q B : Nat} {w w' : World} (h : K2 r q w w') (hB : B ≤ w.heap.size) (hr : B ≤ r) (hq : B ≤ q) : Below B w w' :=
  ⟨h.os, h.tape, h.output, h.size, fun b hb => h.block b (by omega) (by omega) (by omega)⟩
theorem K2.box {r q g : Nat} {T : TypeId} {cs : Array Value} {w w' : World} (h : K2 r q w w') (hb : Box T w g cs) (hr : g ≠ r) (hq : g ≠ q) : Box T w' g cs := (h.block g hb.lt hr hq).trans hb
theorem K2.keep {r q : Nat} {S : Nat → Prop} {w w' : World} (h : K2 r q w w') (hr : ¬ S r) (hq : ¬ S q) : Keep S w w' :=
  ⟨h.size, fun b hS hb => h.block b hb (fun e => hr (e ▸ hS)) (fun e => hq (e ▸ hS))⟩
theorem K2.cell {r q g o : Nat} {w w' : World} (h : K2 r q w w') (hg : g < w.heap.size) (hr : g ≠ r) (hq : g ≠ q) : w'.cell? ⟨g, o, none⟩ = w.cell? ⟨g, o, none⟩ :=
  World.cell?_of_block (w := w) (a := ⟨g, o, none⟩) (h.block g hg hr hq)
/-- What has come up of the two stores: operation s1 into r, s2 into q; sA alone makes memory. -/
structure G2 (W0 : World) (r s1 : Nat) (T1 : TypeId) (C1 : Array Value) (q s2 : Nat) (T2 : TypeId) (C2 : Array Value) (sA : Nat) (listed : Array Bool) (_σ : Nat → Value) (w : World) : Prop where
  k : K2 r q W0 w
  b1 : ∃ c, c.size = C1.size ∧ Box T1 w r c ∧ (listed.getD s1 false = true → c = C1)
  b2 : ∃ c, c.size = C2.size ∧ Box T2 w q c ∧ (listed.getD s2 false = true → c = C2)
  sz : listed.getD sA false = false → w.heap.size = W0.heap.size
  big : sA < listed.size
section
variable {W0 w w' : World} {r s1 q s2 sA : Nat} {T1 T2 : TypeId} {C1 C2 : Array Value} {listed : Array Bool} {σ τ : Nat → Value}
theorem G2.start {n : Nat} {c1 c2 : Array Value} (h1 : Box T1 w r c1) (z1 : c1.size = C1.size) (h2 : Box T2 w q c2) (z2 : c2.size = C2.size) (hb : Below W0.heap.size W0 w) (hz : w.heap.size = W0.heap.size) (hn : sA < n) : G2 W0 r s1 T1 C1 q s2 T2 C2 sA (Array.replicate n false) σ w :=
  ⟨K2.of_below hb, ⟨c1, z1, h1, fun h => by rw [rep_false] at h; cases h⟩, ⟨c2, z2, h2, fun h => by rw [rep_false] at h; cases h⟩, fun _ => hz, by simpa using hn⟩
theorem G2.next {i : Nat} (h : G2 W0 r s1 T1 C1 q s2 T2 C2 sA listed σ w) (hb : Below w.heap.size w w') (h1 : i ≠ s1) (h2 : i ≠ s2) (hz : i = sA ∨ w'.heap.size = w.heap.size) : G2 W0 r s1 T1 C1 q s2 T2 C2 sA (listed.setIfInBounds i true) τ w' := by
  refine ⟨h.k.trans (K2.of_below hb), ?_, ?_, fun hl => ?_, by simpa using h.big⟩
  · obtain ⟨c, z, b, e⟩ := h.b1
    exact ⟨c, z, b.next hb, fun hl => e (by rw [getD_set_ne false h1] at hl; exact hl)⟩
  · obtain ⟨c, z, b, e⟩ := h.b2
    exact ⟨c, z, b.next hb, fun hl => e (by rw [getD_set_ne false h2] at hl; exact hl)⟩
  · by_cases hi : i = sA
    · subst hi
      exfalso
      have := h.big
      simp [Array.getD, this] at hl
    · rcases hz with hz | hz
      · exact absurd hz hi
      · rw [hz]; exact h.sz (by rw [getD_set_ne false hi] at hl; exact hl)
theorem G2.st1 (h : G2 W0 r s1 T1 C1 q s2 T2 C2 sA listed σ w) (hrq : r ≠ q) (h12 : s1 ≠ s2) (h1A : s1 ≠ sA) (x : Box T1 w' r C1) (ho : Only r w w') (hz : w'.heap.size = w.heap.size) : K2 r q w w' ∧ G2 W0 r s1 T1 C1 q s2 T2 C2 sA (listed.setIfInBounds s1 true) τ w' := by
  refine ⟨K2.fst ho, h.k.trans (K2.fst ho), ⟨C1, rfl, x, fun _ => rfl⟩, ?_, fun hl => ?_, by simpa using h.big⟩
  · obtain ⟨c, z, b, e⟩ := h.b2
    exact ⟨c, z, b.other ho (Ne.symm hrq), fun hl => e (by rw [getD_set_ne false h12] at hl; exact hl)⟩
  · rw [hz]; exact h.sz (by rw [getD_set_ne false h1A] at hl; exact hl)
theorem G2.st2 (h : G2 W0 r s1 T1 C1 q s2 T2 C2 sA listed σ w) (hrq : r ≠ q) (h12 : s1 ≠ s2) (h2A : s2 ≠ sA) (x : Box T2 w' q C2) (ho : Only q w w') (hz : w'.heap.size = w.heap.size) : K2 r q w w' ∧ G2 W0 r s1 T1 C1 q s2 T2 C2 sA (listed.setIfInBounds s2 true) τ w' := by
  refine ⟨K2.snd ho, h.k.trans (K2.snd ho), ?_, ⟨C2, rfl, x, fun _ => rfl⟩, fun hl => ?_, by simpa using h.big⟩
  · obtain ⟨c, z, b, e⟩ := h.b1
    exact ⟨c, z, b.other ho hrq, fun hl => e (by rw [getD_set_ne false (Ne.symm h12)] at hl; exact hl)⟩
  · rw [hz]; exact h.sz (by rw [getD_set_ne false h2A] at hl; exact hl)
end
theorem Does.store_boxE {P : Program} {w : World} {o : Oper} {a : Act} {T : TypeId} {x y g : Nat} {cells old : Array Value} {R : Value → World → Prop} (ho : o.op = .store T (.tmp x) (.tmp y)) (hx : a.tmps.getD x undef = .pointer (some ⟨g, 0, none⟩)) (hy : a.tmps.getD y undef = .agg cells) (hb : Box T w g old)
    (hi : (P.info? T).map (·.size) = some cells.size) (hold : old.size = cells.size) (h1 : cells.all (·.oneCell') = true) (hR : ∀ w', Box T w' g cells → Only g w w' → w'.heap.size = w.heap.size → R undef w') : Does P a o w R := by
  refine Does.skip (w' := w.setRow g cells) ?_ (hR _ (setRow_heap w g old cells _ _ hb) (only_setRow2 w g _) (by simp [World.setRow]))
  unfold execOp
  have hx' : a.eval (.tmp x) = .pointer (some ⟨g, 0, none⟩) := hx
  have hy' : a.eval (.tmp y) = .agg cells := hy
  simp only [ho, hx', hy', Instr.storeAt, Instr.sureAddr, Sem.run_bind, Sem.run_pure, Result.andThen_ok, run_storeVar_row w g T T old cells hb hi hold h1]
end Go.Proofs.YtneiajkcikcnnaaDoor
