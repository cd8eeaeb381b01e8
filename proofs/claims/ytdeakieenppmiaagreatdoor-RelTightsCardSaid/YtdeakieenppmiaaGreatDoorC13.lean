/- Texts of one seat, put together: RegionZ RowL. -/
import Derived.Test.YtdeakieenppmiaaGreatDoorC12
set_option linter.unusedVariables false
set_option linter.unusedSimpArgs false
set_option maxRecDepth 100000
set_option maxHeartbeats 16000000
/- New boxes of api.Int in a region that draws its order. -/
namespace Go.Proofs.YtdeakieenppmiaaGreatDoor
open Go.RowKit

/-- Block g is a box that holds the number Z. -/
def ZBox (w : World) (g : Nat) (Z : Int) (k : Nat) : Prop := ∃ s A n c, Blk w g #[.bool s, .slice A n c] ∧ ZRes w (.agg #[.bool s, .slice A n c]) Z k
theorem ZBox.lt {w : World} {g k : Nat} {Z : Int} (h : ZBox w g Z k) : g < w.heap.size := by
 obtain ⟨s, A, n, c, h1, -⟩ := h
 exact h1.lt
theorem ZBox.next {w w' : World} {g k : Nat} {Z : Int} (h : ZBox w g Z k) (hb : Below w.heap.size w w') : ZBox w' g Z k := by
 obtain ⟨s, A, n, c, h1, h2⟩ := h
 exact ⟨s, A, n, c, h1.next hb, h2.below hb⟩
theorem ZBox.other {w w' : World} {g g' k m d : Nat} {Z : Int} {s : Bool} {B : Option Addr} (h : ZBox w g Z k) (hb : Blk w g' #[.bool s, .slice B m d]) (ho : Only g' w w') (hne : g ≠ g') : ZBox w' g Z k := by
 obtain ⟨s, A, n, c, h1, h2⟩ := h
 exact ⟨s, A, n, c, h1.other ho hne, h2.only hb ho⟩
theorem ZBox.put {w : World} {g k m d n c : Nat} {Z : Int} {s t : Bool} {A B : Option Addr} (hb : Blk w g #[.bool s, .slice B m d]) (h : ZRes w (.agg #[.bool t, .slice A n c]) Z k) : ZBox (st2 w g (.bool t) (.slice A n c)) g Z k :=
 ⟨t, A, n, c, hb.set2 _ _, h.only hb (only_set2 w g _ _)⟩
structure BoxSpec where
 made : Nat
 filled : Nat
 num : Int
 lim : Nat
/-- New boxes, each made by an operation and filled by another; nothing that was there has turned. -/
def GZ (W0 : World) (Bs : List BoxSpec) (listed : Array Bool) (σ : Nat → Value) (w : World) : Prop :=
 Below W0.heap.size W0 w ∧ (∀ p ∈ Bs, listed.getD p.made false = true → ∃ g, σ p.made = .pointer (some ⟨g, 0, none⟩) ∧ W0.heap.size ≤ g ∧ (listed.getD p.filled false = false → Blk w g #[.bool false, .slice none 0 0]) ∧ (listed.getD p.filled false = true → ZBox w g p.num p.lim)) ∧
 (∀ p ∈ Bs, ∀ q ∈ Bs, p.made ≠ q.made → listed.getD p.made false = true → listed.getD q.made false = true → σ p.made ≠ σ q.made)
variable {W0 : World} {Bs : List BoxSpec} {listed : Array Bool} {σ : Nat → Value} {w w' : World} {i : Nat} {v : Value}
theorem GZ.old (h : GZ W0 Bs listed σ w) : Below W0.heap.size W0 w := h.1
theorem GZ.start {n : Nat} : GZ W0 Bs (Array.replicate n false) σ W0.drew :=
 ⟨bl_drewN W0 1, (fun p _ h => by rw [rep_false] at h; cases h), (fun p _ q _ _ h => by rw [rep_false] at h; cases h)⟩
def offB (Bs : List BoxSpec) (i : Nat) : Bool := Bs.all fun p => p.made != i && p.filled != i
theorem offB_spec (h : offB Bs i = true) {p : BoxSpec} (hp : p ∈ Bs) : p.made ≠ i ∧ p.filled ≠ i := by
 have := List.all_eq_true.1 h p hp
 simpa using this
theorem GZ.keep (h : GZ W0 Bs listed σ w) (hi : offB Bs i = true) (hw : Below w.heap.size w w') : GZ W0 Bs (listed.setIfInBounds i true) (upd σ i v) w' := by
 refine ⟨h.1.next hw, fun p hp hl => ?_, fun p hp q hq hne hl1 hl2 => ?_⟩
 · obtain ⟨h1, h2⟩ := offB_spec hi hp
   rw [getD_set_ne false (Ne.symm h1)] at hl
   obtain ⟨g, e, hg, ha, hb⟩ := h.2.1 p hp hl
   rw [upd_ne σ v h1, getD_set_ne false (Ne.symm h2)]
   exact ⟨g, e, hg, fun hh => (ha hh).next hw, fun hh => (hb hh).next hw⟩
 · obtain ⟨h1, -⟩ := offB_spec hi hp
   obtain ⟨h2, -⟩ := offB_spec hi hq
   rw [getD_set_ne false (Ne.symm h1)] at hl1
   rw [getD_set_ne false (Ne.symm h2)] at hl2
   rw [upd_ne σ v h1, upd_ne σ v h2]
   exact h.2.2 p hp q hq hne hl1 hl2
theorem GZ.same (h : GZ W0 Bs listed σ w) (hi : offB Bs i = true) : GZ W0 Bs (listed.setIfInBounds i true) (upd σ i v) w := h.keep hi (Below.refl _ _)
theorem GZ.at_ (h : GZ W0 Bs listed σ w) {p : BoxSpec} (hp : p ∈ Bs) (hl : listed.getD p.made false = true) : ∃ g, σ p.made = .pointer (some ⟨g, 0, none⟩) ∧ W0.heap.size ≤ g ∧ g < w.heap.size ∧ (listed.getD p.filled false = false → Blk w g #[.bool false, .slice none 0 0]) ∧ (listed.getD p.filled false = true → ZBox w g p.num p.lim) := by
 obtain ⟨g, e, hg, ha, hb⟩ := h.2.1 p hp hl
 refine ⟨g, e, hg, ?_, ha, hb⟩
 cases hf : listed.getD p.filled false with
 | false => exact (ha hf).lt
 | true => exact (hb hf).lt
/-- Each number names one box alone. -/
def soleB (Bs : List BoxSpec) : Bool := Bs.all fun p => Bs.all fun q => (p.made != q.filled) && (p.made == q.made || p.filled != q.filled)
theorem soleB_spec (h : soleB Bs = true) {p q : BoxSpec} (hp : p ∈ Bs) (hq : q ∈ Bs) : p.made ≠ q.filled ∧ (p.made = q.made ∨ p.filled ≠ q.filled) := by
 have h1 := List.all_eq_true.1 h p hp
 have h2 := List.all_eq_true.1 h1 q hq
 simpa using h2
theorem GZ.made (h : GZ W0 Bs listed σ w) (hs : soleB Bs = true) {p : BoxSpec} (hp : p ∈ Bs) (hi : i = p.made) (hun : ∀ q ∈ Bs, q.made = p.made → listed.getD q.filled false = false) :
   GZ W0 Bs (listed.setIfInBounds i true) (upd σ i (.pointer (some ⟨w.heap.size, 0, none⟩))) (w.alloc (.cells #[.bool false, .slice none 0 0] 26)) := by
 subst hi
 refine ⟨h.1.next (bl_alloc w _), fun q hq hl => ?_, fun q hq r hr hne hl1 hl2 => ?_⟩
 · by_cases hqp : q.made = p.made
   · rw [hqp, upd_self, getD_set_ne false (soleB_spec hs hp hq).1, hun q hq hqp]
     exact ⟨_, rfl, h.1.size, fun _ => Blk.new _ _, fun hh => by cases hh⟩
   · rw [getD_set_ne false (Ne.symm hqp)] at hl
     obtain ⟨g, e, hg, ha, hb⟩ := h.2.1 q hq hl
     rw [upd_ne σ _ hqp, getD_set_ne false (soleB_spec hs hp hq).1]
     exact ⟨g, e, hg, fun hh => (ha hh).alloc _, fun hh => (hb hh).next (bl_alloc w _)⟩
 · by_cases hqp : q.made = p.made
   · have hrp : r.made ≠ p.made := fun e => hne (hqp.trans e.symm)
     rw [getD_set_ne false (Ne.symm hrp)] at hl2
     obtain ⟨g, e, -, hlt, -⟩ := h.at_ hr hl2
     rw [hqp, upd_self, upd_ne σ _ hrp, e]
     intro hh
     injection hh with hh
     injection hh with hh
     injection hh with hh
     omega
   · rw [getD_set_ne false (Ne.symm hqp)] at hl1
     rw [upd_ne σ _ hqp]
     by_cases hrp : r.made = p.made
     · obtain ⟨g, e, -, hlt, -⟩ := h.at_ hq hl1
       rw [hrp, upd_self, e]
       intro hh
       injection hh with hh
       injection hh with hh
       injection hh with hh
       omega
     · rw [getD_set_ne false (Ne.symm hrp)] at hl2
       rw [upd_ne σ _ hrp]
       exact h.2.2 q hq r hr hne hl1 hl2
theorem GZ.filled (h : GZ W0 Bs listed σ w) (hs : soleB Bs = true) {p : BoxSpec} (hp : p ∈ Bs) (hi : i = p.filled) (hl0 : listed.getD p.made false = true) (hun : listed.getD i true = false) {g n c : Nat} {t : Bool} {A : Option Addr}
   (hg : σ p.made = .pointer (some ⟨g, 0, none⟩)) (hz : ZRes w (.agg #[.bool t, .slice A n c]) p.num p.lim) (hsame : ∀ q ∈ Bs, q.made = p.made → q = p) :
   Blk w g #[.bool false, .slice none 0 0] ∧ GZ W0 Bs (listed.setIfInBounds i true) (upd σ i v) (st2 w g (.bool t) (.slice A n c)) := by
 subst hi
 have hfalse : listed.getD p.filled false = false := unlisted hun
 obtain ⟨g', e', hg', ha', -⟩ := h.2.1 p hp hl0
 have hgg : g = g' := by rw [hg] at e'; injection e' with e'; injection e' with e'; injection e'
 subst hgg
 have hB := ha' hfalse
 refine ⟨hB, zback h.1 hg' (only_set2 _ _ _ _), fun q hq hl => ?_, fun q hq r hr hne hl1 hl2 => ?_⟩
 · have h1 := (soleB_spec hs hq hp).1
   rw [getD_set_ne false (Ne.symm h1)] at hl
   rw [upd_ne σ v h1]
   by_cases hqp : q.made = p.made
   · obtain rfl := hsame q hq hqp
     have hlt := lt_unlisted hun
     exact ⟨g, hg, hg', fun hh => by simp [hlt] at hh, fun _ => ZBox.put hB hz⟩
   · obtain ⟨g2, e2, hg2, ha2, hb2⟩ := h.2.1 q hq hl
     have hne2 : g2 ≠ g := by
      intro e
      have := h.2.2 q hq p hp hqp hl hl0
      rw [e2, hg, e] at this
      exact this rfl
     rw [getD_set_ne false (Ne.symm ((soleB_spec hs hq hp).2.resolve_left hqp))]
     exact ⟨g2, e2, hg2, fun hh => (ha2 hh).other (only_set2 _ _ _ _) hne2, fun hh => (hb2 hh).other hB (only_set2 _ _ _ _) hne2⟩
 · have h1 := (soleB_spec hs hq hp).1
   have h2 := (soleB_spec hs hr hp).1
   rw [getD_set_ne false (Ne.symm h1)] at hl1
   rw [getD_set_ne false (Ne.symm h2)] at hl2
   rw [upd_ne σ v h1, upd_ne σ v h2]
   exact h.2.2 q hq r hr hne hl1 hl2
end Go.Proofs.YtdeakieenppmiaaGreatDoor
/- Lists of the call's own, of elements that hold no limbs in themselves: appended to, written into; what numbers read as goes on. -/
namespace Go.Proofs.YtdeakieenppmiaaGreatDoor
open Go.RowKit

/-- Numbers are what they were. -/
def Kp (w w' : World) : Prop := ∀ A n xs, Nums w A n xs → Nums w' A n xs
theorem Kp.refl (w : World) : Kp w w := fun _ _ _ h => h
theorem Kp.trans {a b c : World} (h : Kp a b) (k : Kp b c) : Kp a c := fun _ _ _ hx => k _ _ _ (h _ _ _ hx)
theorem Kp.of_below {w w' : World} (h : Below w.heap.size w w') : Kp w w' := fun _ _ _ hx => hx.below h
theorem ZRes.kp {w w' : World} {v : Value} {Z : Int} {k : Nat} (h : ZRes w v Z k) (hk : Kp w w') : ZRes w' v Z k := by
 obtain ⟨A, n, c, rfl, h1, h2, h3, h4⟩ := h
 exact ⟨A, n, c, rfl, hk _ _ _ h1, h2, h3, h4⟩
theorem ZIn.kp {w w' : World} {v : Value} {Z : Int} {k : Nat} (h : ZIn w v Z k) (hk : Kp w w') : ZIn w' v Z k := by
 obtain ⟨s, A, n, c, xs, rfl, h1, h2, h3, h4, h5⟩ := h
 exact ⟨s, A, n, c, xs, rfl, hk _ _ _ h1, h2, h3, h4, h5⟩
/-- No limb. -/
def NL (u : Value) : Prop := ∀ z, u ≠ .int .u32 z
def NLs (xs : List Value) : Prop := ∀ u ∈ xs, NL u
theorem NLs.append {xs ys : List Value} (h : NLs xs) (k : NLs ys) : NLs (xs ++ ys) := fun u hu => (List.mem_append.1 hu).elim (h u) (k u)
theorem NLs.take {xs : List Value} (h : NLs xs) (n : Nat) : NLs (xs.take n) := fun u hu => h u (List.mem_of_mem_take hu)
theorem NLs.drop {xs : List Value} (h : NLs xs) (n : Nat) : NLs (xs.drop n) := fun u hu => h u (List.mem_of_mem_drop hu)
theorem NL.bool (b : Bool) : NL (.bool b) := fun _ h => by cases h
theorem NL.slice (A : Option Addr) (n c : Nat) : NL (.slice A n c) := fun _ h => by cases h
theorem NL.i64 (z : Int) : NL (.int .i64 z) := fun _ h => by cases h
/-- A block without limbs turns: numbers are what they were. -/
theorem Kp.block {w w' : World} {g : Nat} {cur : Array Value} {T : TypeId} (hb : w.heap[g]? = some (.cells cur T (0, 0))) (hn : NLs cur.toList) (hg : w.grownBy w' (some g)) : Kp w w' := by
 intro A n xs hx
 refine hx.grown' hg (fun h0 ad had he => ?_)
 obtain ⟨b, o, e, hc⟩ := hx.2.2 h0
 have h1 := hc 0 h0
 rw [had] at e
 injection e with e
 subst e
 have he' : b = g := he
 subst he'
 rw [cell_of_row w b _ _ _ _ hb] at h1
 have h2 : (Value.int .u32 ((xs.getD 0 0 : Nat) : Int)) ∈ cur.toList := by
  have := Array.mem_of_getElem? h1
  simpa using this
 exact hn _ h2 _ rfl
theorem Kp.none {w w' : World} (hg : w.grownBy w' none) : Kp w w' := fun _ _ _ hx => hx.grownNone hg

/-- v is a list of n elements of type T, sz cells each, of the call's own: nil, or a block from base on; xs are its cells; no limb lies in it. -/
def LRow (T : TypeId) (sz : Nat) (w : World) (base : Nat) (v : Value) (n : Nat) (xs : List Value) : Prop :=
 xs.length = n * sz ∧ ((v = .slice none 0 0 ∧ n = 0) ∨
  ∃ g cap cur, v = .slice (some ⟨g, 0, none⟩) n cap ∧ base ≤ g ∧ w.heap[g]? = some (.cells cur T (0, 0)) ∧ n ≤ cap ∧ cap ≤ maxLen ∧ cur.size = cap * sz ∧ cur.toList.take (n * sz) = xs ∧ NLs cur.toList)
section
variable {T : TypeId} {sz : Nat} {w w' : World} {base : Nat} {v : Value} {n : Nat} {xs : List Value}
theorem LRow.nil (T : TypeId) (sz : Nat) (w : World) (base : Nat) : LRow T sz w base (.slice none 0 0) 0 [] := ⟨by simp, .inl ⟨rfl, rfl⟩⟩
theorem LRow.made (cur : Array Value) (cap : Nat) (hb : base ≤ w.heap.size) (hm : cap ≤ maxLen) (hs : cur.size = cap * sz) (hn : NLs cur.toList) :
  LRow T sz (w.alloc (.cells cur T)) base (.slice (some ⟨w.heap.size, 0, none⟩) 0 cap) 0 [] :=
 ⟨by simp, .inr ⟨w.heap.size, cap, cur, rfl, hb, heap_alloc_new w _, Nat.zero_le _, hm, hs, by simp, hn⟩⟩
theorem LRow.lt (h : LRow T sz w base v n xs) : ∀ k, v.ownBlock = some k → base ≤ k ∧ k < w.heap.size := by
 intro k hk
 rcases h.2 with ⟨rfl, _⟩ | ⟨g, cap, cur, rfl, hb, hg, _⟩
 · simp [Value.ownBlock] at hk
 · simp [Value.ownBlock] at hk
   subst hk
   exact ⟨hb, (Array.getElem?_eq_some_iff.1 hg).1⟩
theorem LRow.kept {row : Option Nat} (h : LRow T sz w base v n xs) (hg : w.grownBy w' row) (hne : v.ownBlock = none ∨ v.ownBlock ≠ row) : LRow T sz w' base v n xs := by
 refine ⟨h.1, ?_⟩
 rcases h.2 with hn | ⟨g, cap, cur, rfl, hb, hgg, rest⟩
 · exact .inl hn
 · refine .inr ⟨g, cap, cur, rfl, hb, ?_, rest⟩
   rw [hg.block g (Array.getElem?_eq_some_iff.1 hgg).1 (by simpa [Value.ownBlock] using hne)]
   exact hgg
theorem LRow.below (h : LRow T sz w base v n xs) (hb : Below w.heap.size w w') : LRow T sz w' base v n xs :=
 h.kept (row := none) ⟨hb.os, hb.tape, hb.output, hb.size, fun k hk _ => hb.block k hk⟩ (by
  by_cases h0 : v.ownBlock = none
  · exact .inl h0
  · exact .inr h0)
theorem LRow.len (h : LRow T sz w base v n xs) : ∃ A c, v = .slice A n c ∧ n ≤ c ∧ c ≤ 9223372036854775807 ∧ (0 < n → ∃ g, A = some ⟨g, 0, none⟩) := by
 rcases h.2 with ⟨rfl, rfl⟩ | ⟨g, cap, cur, rfl, _, _, h1, h2, _⟩
 · exact ⟨none, 0, rfl, by omega, by omega, fun h => absurd h (by omega)⟩
 · unfold maxLen at h2
   exact ⟨_, cap, rfl, h1, h2, fun _ => ⟨g, rfl⟩⟩
theorem LRow.cell {A : Option Addr} {c : Nat} (h : LRow T sz w base (.slice A n c) n xs) (hn : 0 < n) : ∃ g, A = some ⟨g, 0, none⟩ ∧ base ≤ g ∧ g < w.heap.size ∧ ∀ j u, xs[j]? = some u → w.cell? ⟨g, j, none⟩ = some u ∧ w.frozen? ⟨g, j, none⟩ = false := by
 rcases h.2 with ⟨hv, h0⟩ | ⟨g, cap, cur, hv, hb, hh, _, _, _, ht, _⟩
 · omega
 · injection hv with hv
   refine ⟨g, hv, hb, (Array.getElem?_eq_some_iff.1 hh).1, fun j u hu => ⟨?_, by simp [World.frozen?, hh]⟩⟩
   rw [cell_of_row w g j _ _ _ hh]
   rw [← ht, List.getElem?_take] at hu
   split at hu
   · simpa using hu
   · cases hu
theorem LRow.isNLs (h : LRow T sz w base v n xs) : NLs xs := by
 rcases h.2 with ⟨_, rfl⟩ | ⟨g, cap, cur, _, _, _, _, _, _, ht, hn⟩
 · have : xs = [] := List.eq_nil_of_length_eq_zero (by simpa using h.1)
   subst this
   intro u hu; cases hu
 · rw [← ht]; exact hn.take _
/-- The list's own block turns: numbers are what they were. -/
theorem LRow.kp (h : LRow T sz w base v n xs) (hg : w.grownBy w' v.ownBlock) : Kp w w' := by
 rcases h.2 with ⟨rfl, _⟩ | ⟨g, cap, cur, rfl, _, hh, _, _, _, _, hn⟩
 · exact Kp.none hg
 · exact Kp.block hh hn hg
theorem LRow.back {B : Nat} (h : LRow T sz w base v n xs) (hg : w.grownBy w' v.ownBlock) (hB : B ≤ base) (hw : B ≤ w.heap.size) : Below B w w' :=
 (Below.refl _ _).grown hg hw (fun k hk => by have := (h.lt k hk).1; omega)
theorem LRow.old {w0 : World} {B : Nat} (h : LRow T sz w base v n xs) (h0 : Below B w0 w) (hg : w.grownBy w' v.ownBlock) (hB : B ≤ base) (hw : B ≤ w0.heap.size) : Below B w0 w' :=
 h0.trans (h.back hg hB (Nat.le_trans hw h0.size))
/-- One cell of the list is written. -/
theorem LRow.set {g c j : Nat} {u : Value} (h : LRow T sz w base (.slice (some ⟨g, 0, none⟩) n c) n xs) (hu : NL u) : LRow T sz (w.setCell ⟨g, j, none⟩ u) base (.slice (some ⟨g, 0, none⟩) n c) n (xs.set j u) := by
 refine ⟨by simpa using h.1, ?_⟩
 rcases h.2 with ⟨hv, _⟩ | ⟨g', cap, cur, hv, hb, hh, h1, h2, h3, h4, h5⟩
 · cases hv
 · injection hv with e1 e2 e3
   injection e1 with e1
   injection e1 with e1
   subst e1 e3
   refine .inr ⟨g, c, cur.setIfInBounds j u, rfl, hb, ?_, h1, h2, by simpa using h3, ?_, ?_⟩
   · simp [World.setCell, Array.getElem?_modify, hh]
   · rw [Array.toList_setIfInBounds, List.take_set, h4]
   · intro x hx
     rw [Array.toList_setIfInBounds] at hx
     rcases List.mem_or_eq_of_mem_set hx with hx | rfl
     · exact h5 x hx
     · exact hu
end

section
variable {P : Program} (w : World)
/-- append to such a list: THE RUN. -/
theorem run_append_lrow (base : Nat) (t ty e : TypeId) (i : TypeInfo) (z : Value) (size bytes : Nat) (ht : P.underlying t = some (.slice e)) (hi : P.info? e = some i) (hz : i.zero = some z)
   (hsize : i.size = size) (hby : i.bytes = bytes) (hzs : z.cells.size = size) (hsz : 0 < size) (hzn : NLs z.cells.toList)
   (v : Value) (n : Nat) (xs : List Value) (hown : LRow e size w base v n xs)
   (a : Addr) (m c : Nat) (news : List Value) (hl : news.length = m * size) (hnews : ∀ j u, news[j]? = some u → w.cell? (a.add j) = some u) (h1 : ∀ u ∈ news, u.oneCell' = true) (hnn : NLs news)
   (h63 : n + m ≤ maxLen) (hbytes : (n + m) * bytes ≤ 140737488355328) (hbase : base ≤ w.heap.size) :
   ∃ v' w', (Builtin.append_ #[t, t] ty #[v, .slice (some a) m c]).run P w = .ok v' w' ∧ LRow e size w' base v' (n + m) (xs ++ news) ∧ w.grownBy w' v.ownBlock := by
 subst hsize
 subst hby
 have hsmall : n + m ≤ 9223372036854775807 := by simp only [maxLen] at h63; omega
 have hlen : (xs ++ news).length = (n + m) * i.size := by rw [List.length_append, hown.1, hl, Nat.add_mul]
 have hxn := hown.isNLs
 have hzz : ∀ k, NLs (Builtin.zeroCells z.cells k).toList := by
   intro k u hu
   have h2 : u ∈ (Builtin.zeroCells z.cells k) := by simpa using hu
   unfold Builtin.zeroCells at h2
   obtain ⟨q, -, hq⟩ := Array.mem_map.1 h2
   have hlt : q % z.cells.size < z.cells.size := Nat.mod_lt _ (by omega)
   rw [getElem!_pos z.cells _ hlt] at hq
   exact hzn u (by rw [← hq]; simp)
 have grown : ∀ (old : Nat), old < n + m → ∀ (row : Option Nat),
     LRow e i.size (w.drew.alloc (.cells (xs.toArray ++ news.toArray ++ Builtin.zeroCells z.cells (grownCap w (n + m) old e - (n + m))) e)) base
       (.slice (some ⟨w.heap.size, 0, none⟩) (n + m) (grownCap w (n + m) old e)) (n + m) (xs ++ news) ∧
     w.grownBy (w.drew.alloc (.cells (xs.toArray ++ news.toArray ++ Builtin.zeroCells z.cells (grownCap w (n + m) old e - (n + m))) e)) row := by
   intro old ho row
   have hge := grownCap_ge w (n + m) old e
   have hcm : grownCap w (n + m) old e ≤ maxLen := grownCap_le_maxLen w (n + m) old e h63
   refine ⟨⟨hlen, .inr ⟨w.heap.size, _, _, rfl, hbase, heap_alloc_new w.drew _, hge, hcm, ?_, ?_, ?_⟩⟩, ⟨rfl, rfl, rfl, by simp, fun k hk _ => Below.heap_alloc w.drew _ k hk⟩⟩
   · simp only [Array.size_append, List.size_toArray, size_zeroCells, hzs, hown.1, hl, ← Nat.add_mul]
     congr 1
     omega
   · simp only [Array.toList_append, List.append_assoc]
     rw [← List.append_assoc, ← hlen]
     exact List.take_left
   · simp only [Array.toList_append]
     exact (hxn.append hnn).append (hzz _)
 rcases hown.2 with ⟨rfl, rfl⟩ | ⟨g, cap, cur, rfl, hbg, hg, hnc, hcm, hcs, htake, hcn⟩
 · have hx : xs = [] := List.eq_nil_of_length_eq_zero (by simpa using hown.1)
   subst hx
   by_cases hm : m = 0
   · subst hm
     have hn : news = [] := List.eq_nil_of_length_eq_zero (by simpa using hl)
     subst hn
     refine ⟨.slice none 0 0, w, ?_, LRow.nil e i.size w base, ⟨rfl, rfl, rfl, Nat.le_refl _, fun _ _ _ => rfl⟩⟩
     simp [Builtin.append_, run_underlying ht, sizeOf, typeInfo, hi, Builtin.lenOf, Builtin.firstCells, loadCells, loadCellsFrom]
   · have hr := run_append_nil (P := P) w t ty e i z ht hi hz a m c news hl hnews (by omega) (by omega) (by have hb := hbytes; simp only [Nat.zero_add] at hb; omega)
     have hgr := grown 0 (by omega) (Value.ownBlock (.slice none 0 0))
     simp only [Nat.zero_add, List.nil_append, Array.empty_append] at hgr ⊢
     exact ⟨_, _, hr, hgr.1, hgr.2⟩
 · by_cases hroom : n + m ≤ cap
   · have hfit : n * i.size + news.length ≤ cur.size := by rw [hl, hcs, ← Nat.add_mul]; exact Nat.mul_le_mul_right _ hroom
     have hr := run_append_room (P := P) w t ty e i ht hi g n cap cur hg a m c news hl hnews h1 hroom hfit
     refine ⟨_, _, hr, ⟨hlen, .inr ⟨g, cap, _, rfl, hbg, setRow_heap w g cur _ e _ hg, hroom, hcm, ?_, ?_, ?_⟩⟩, ⟨rfl, rfl, rfl, by simp, fun k _ hk => setRow_other w g k _ (fun e => hk (by simp [Value.ownBlock, e]))⟩⟩
     · simp only [List.size_toArray, List.length_append, List.length_take, List.length_drop, Array.length_toList]
       omega
     · rw [htake, ← hlen]
       exact List.take_left
     · exact ((hcn.take _).append hnn).append (hcn.drop _)
   · have holds : ∀ j u, xs[j]? = some u → w.cell? ((⟨g, 0, none⟩ : Addr).add j) = some u := by
       intro j u hu
       have hadd : (⟨g, 0, none⟩ : Addr).add j = ⟨g, j, none⟩ := by unfold Addr.add; split <;> simp_all
       rw [hadd, cell_of_row w g j cur e (0, 0) hg]
       rw [← htake, List.getElem?_take] at hu
       split at hu
       · simpa using hu
       · cases hu
     have hr := run_append_grow (P := P) w t ty e i z ht hi hz ⟨g, 0, none⟩ n cap xs hown.1 holds a m c news hl hnews (by omega) (by omega) (growslice_fits (by omega) hbytes)
     have hgr := grown cap (by omega) (Value.ownBlock (.slice (some ⟨g, 0, none⟩) n cap))
     exact ⟨_, _, hr, hgr.1, hgr.2⟩
end
theorem exec_append {P : Program} {w w' : World} {o : Oper} {a : Act} {s x : Operand} {t : TypeId} {vs vx v' : Value} (ho : o.op = .call { callee := .builtin .append, args := #[s, x], argTypes := #[t, t] })
  (hs : a.eval s = vs) (hx : a.eval x = vx) (hr : (Builtin.append_ #[t, t] o.type #[vs, vx]).run P w = .ok v' w') : (execOp a.eval o).run P w = .ok (.value v') w' := by
 unfold execOp
 simp only [ho, resolve, invoke, builtin, Sem.run_bind, Sem.run_pure, Result.andThen_ok, List.map_toArray, List.map_cons, List.map_nil, hs, hx, hr]
theorem wpList_append_lrow {P : Program} {w : World} {ops : Array Oper} {rest : List Oper} {o : Oper} {a : Act} {Q : Exit → Act → World → Prop} (hgd : o.guard = none) (s x : Operand) (t : TypeId)
  (ho : o.op = .call { callee := .builtin .append, args := #[s, x], argTypes := #[t, t] }) (base : Nat) (e : TypeId) (i : TypeInfo) (z : Value) (size bytes : Nat) (ht : P.underlying t = some (.slice e)) (hi : P.info? e = some i) (hz : i.zero = some z)
  (hsize : i.size = size) (hby : i.bytes = bytes) (hzs : z.cells.size = size) (hsz : 0 < size) (hzn : NLs z.cells.toList)
  (v : Value) (n : Nat) (xs : List Value) (hs : a.eval s = v) (hown : LRow e size w base v n xs)
  (ad : Addr) (m c : Nat) (news : List Value) (hx : a.eval x = .slice (some ad) m c) (hl : news.length = m * size) (hnews : ∀ j u, news[j]? = some u → w.cell? (ad.add j) = some u) (h1 : ∀ u ∈ news, u.oneCell' = true) (hnn : NLs news)
  (h63 : n + m ≤ maxLen) (hbytes : (n + m) * bytes ≤ 140737488355328) (hbase : base ≤ w.heap.size)
  (h : ∀ v' w', LRow e size w' base v' (n + m) (xs ++ news) → w.grownBy w' v.ownBlock → wpList P ops Q rest (a.put o.dst v') w') : wpList P ops Q (o :: rest) a w := by
 obtain ⟨v', w', hr, h2, h3⟩ := run_append_lrow (P := P) w base t o.type e i z size bytes ht hi hz hsize hby hzs hsz hzn v n xs hown ad m c news hl hnews h1 hnn h63 hbytes hbase
 refine wpList_plain hgd fun K hK => ?_
 unfold Oper.wp
 rw [exec_append ho hs hx hr]
 exact hK _ _ (h v' w' h2 h3)
end Go.Proofs.YtdeakieenppmiaaGreatDoor
