/- Texts of one seat, put together: TermsIn Open OpenZ OpenT Few. -/
import Derived.Test.YtahcgbklomfgaaaB14
import Derived.Test.YtahcgbklomfgaaaB02
import Derived.ProofKit
import Derived.OpenShut
import Derived.ShutString
import Derived.ChangeOld
import Derived.Below
import Derived.Lib.SmallJoins
import Derived.Deep.Slices
import Derived.Deep.Strs
set_option linter.unusedVariables false
/- Slices of terms: what they read as. -/
namespace Go.Proofs.Ytahcgbklomfgaaa
open Go.RowKit

/-- A term as its cells hold it, and what it reads as. -/
structure TV where
  A : Option Addr
  n : Nat
  c : Nat
  s : Bool
  B : Option Addr
  m : Nat
  d : Nat
  L : List (Int × Int)
  K : Int
def TV.cells (t : TV) : List Value := [.slice t.A t.n t.c, .bool t.s, .slice t.B t.m t.d]
def TV.agg (t : TV) : Value := .agg #[.slice t.A t.n t.c, .bool t.s, .slice t.B t.m t.d]
def flatT (ts : List TV) : List Value := (ts.map TV.cells).flatten
theorem flatT_cons (t : TV) (ts : List TV) : flatT (t :: ts) = t.cells ++ flatT ts := rfl
theorem flatT_get (ts : List TV) (i : Nat) (t : TV) (h : ts[i]? = some t) : (flatT ts)[3 * i]? = some (.slice t.A t.n t.c) ∧ (flatT ts)[3 * i + 1]? = some (.bool t.s) ∧ (flatT ts)[3 * i + 2]? = some (.slice t.B t.m t.d) := by
  induction ts generalizing i with
  | nil => simp at h
  | cons q ts ih =>
    rw [flatT_cons]
    cases i with
    | zero =>
      simp at h; subst h
      exact ⟨rfl, rfl, rfl⟩
    | succ i =>
      have h2 := ih i (by simpa using h)
      have hl : q.cells.length = 3 := rfl
      rw [show 3 * (i + 1) = q.cells.length + 3 * i by rw [hl]; omega, show q.cells.length + 3 * i + 1 = q.cells.length + (3 * i + 1) by omega, show q.cells.length + 3 * i + 2 = q.cells.length + (3 * i + 2) by omega, List.getElem?_append_right (by omega), List.getElem?_append_right (by omega), List.getElem?_append_right (by omega)]
      simpa using h2
def TermsIn (w : World) (A : Option Addr) (n : Nat) (ts : List TV) (k : Nat) : Prop :=
  ts.length = n ∧ (0 < n → ∃ b o, A = some ⟨b, o, none⟩ ∧ ∀ j u, (flatT ts)[j]? = some u → w.cell? ⟨b, o + j, none⟩ = some u) ∧ ∀ t ∈ ts, TIn w t.agg t.L t.K k
theorem TermsIn.below {w w' : World} {A : Option Addr} {n k : Nat} {ts : List TV} (h : TermsIn w A n ts k) (hb : Below w.heap.size w w') : TermsIn w' A n ts k := by
  refine ⟨h.1, fun hn => ?_, fun p hp => (h.2.2 p hp).below hb⟩
  obtain ⟨b, o, e, hc⟩ := h.2.1 hn
  refine ⟨b, o, e, fun j u hu => ?_⟩
  have h1 := hc j u hu
  have hlt := World.block_lt_of_cell? w _ h1
  exact (World.cell?_of_block (w := w) (a := ⟨b, o + j, none⟩) (hb.block b hlt)).trans h1
theorem TermsIn.at_ {w : World} {A : Option Addr} {n k i : Nat} {ts : List TV} (h : TermsIn w A n ts k) (hi : i < n) : ∃ b o t, A = some ⟨b, o, none⟩ ∧ ts[i]? = some t ∧ w.cell? ⟨b, o + i * 3, none⟩ = some (.slice t.A t.n t.c) ∧ w.cell? ⟨b, o + i * 3 + 1, none⟩ = some (.bool t.s) ∧ w.cell? ⟨b, o + i * 3 + 2, none⟩ = some (.slice t.B t.m t.d) ∧ TIn w t.agg t.L t.K k := by
  obtain ⟨b, o, e, hc⟩ := h.2.1 (by omega)
  have hl : i < ts.length := by rw [h.1]; exact hi
  obtain ⟨g0, g1, g2⟩ := flatT_get ts i ts[i] (List.getElem?_eq_getElem hl)
  refine ⟨b, o, ts[i], e, List.getElem?_eq_getElem hl, ?_, ?_, ?_, h.2.2 _ (List.getElem_mem hl)⟩
  · rw [show o + i * 3 = o + 3 * i by omega]; exact hc _ _ g0
  · rw [show o + i * 3 + 1 = o + (3 * i + 1) by omega]; exact hc _ _ g1
  · rw [show o + i * 3 + 2 = o + (3 * i + 2) by omega]; exact hc _ _ g2
/-- The terms of a literal. -/
theorem TermsIn.box {T : TypeId} {w : World} {g k : Nat} {ts : List TV} (h : Box T w g (flatT ts).toArray) (hk : ∀ t ∈ ts, TIn w t.agg t.L t.K k) : TermsIn w (some ⟨g, 0, none⟩) ts.length ts k :=
  ⟨rfl, fun _ => ⟨g, 0, rfl, fun j u hu => by rw [Nat.zero_add]; exact h.cell j u (by simpa using hu)⟩, hk⟩
theorem ZIn.cut {w : World} {s : Bool} {A : Option Addr} {n c k j : Nat} {Z : Int} (h : ZIn w (.agg #[.bool s, .slice A n c]) Z k) (hn : n ≤ j) : ZIn w (.agg #[.bool s, .slice A n c]) Z j := by
  obtain ⟨s', A', n', c', xs, e, h1, h2, h3, h4, h5⟩ := h
  injection e with e
  have e1 : s' = s ∧ A' = A ∧ n' = n ∧ c' = c := by simpa [eq_comm] using e
  obtain ⟨rfl, rfl, rfl, rfl⟩ := e1
  exact ⟨_, _, _, _, xs, rfl, h1, h2, h3, hn, h5⟩
theorem ZIn.bounds {w : World} {s : Bool} {A : Option Addr} {n c k : Nat} {Z : Int} (h : ZIn w (.agg #[.bool s, .slice A n c]) Z k) : n ≤ 9223372036854775807 := by
  obtain ⟨s', A', n', c', xs, e, h1, h2, h3, h4, h5⟩ := h
  injection e with e
  have e1 : s' = s ∧ A' = A ∧ n' = n ∧ c' = c := by simpa [eq_comm] using e
  obtain ⟨rfl, rfl, rfl, rfl⟩ := e1
  omega
/-- A term of at most 30 parts, whose numbers have at most 20 limbs. -/
def FewT (w : World) (t : TV) : Prop := t.n ≤ 30 ∧ TIn w t.agg t.L t.K 20
def FewPost (ts : List TV) (w : World) (e : Ending) (w' : World) : Prop := ∃ r, e = .returned (.bool r) ∧ (r = true → ∀ t ∈ ts, FewT w t) ∧ Below w.heap.size w w'
end Go.Proofs.Ytahcgbklomfgaaa
/- What the row's arguments are opened to. -/
namespace Go.Proofs.Ytahcgbklomfgaaa
open Go.ChangeShapes Go.WideShapes Go.ChangeAt Go.RowKit
open Go.ChangeMaps (open_string shut_string)

theorem own : ownKnob Try.prog.godebug = none := by kernel_rfl
theorem laidOut : laidOutB Try.prog = true := by kernel_rfl

theorem wf_u32 {z : Int} (h : (Lit.int .u32 z).wf = true) : 0 ≤ z ∧ z < 4294967296 := by
  have h1 : IntKind.u32.min = 0 := rfl
  have h2 : IntKind.u32.max = 4294967295 := rfl
  simp only [Lit.wf, Bool.and_eq_true, decide_eq_true_eq] at h
  omega

theorem open_nums {H : Type} {enc : TypeId × Value → H} {W : World} {a0 : Option Addr} {len0 cap0 : Nat} {d : DataW H} {p : List MemPlace}
    (h0 : DataW.Trod enc Try.prog W 0 (fun _ => true) true 24 (.slice a0 len0 cap0) d p) : ∃ xs, Nums W a0 len0 xs ∧ len0 ≤ cap0 ∧ cap0 ≤ 9223372036854775807 := by
  obtain ⟨fuel, hf⟩ := h0
  rcases open_ints Try.underlying24 Try.underlying53 (by kernel_rfl) hf with ⟨hcs, _⟩ | ⟨x, l, c, zs, hcs, _, hl, hm, hz, _, hcell, hwz⟩
  · simp [Value.cells] at hcs
    obtain ⟨rfl, rfl, rfl⟩ := hcs
    exact ⟨[], Nums.nil _ _, by omega, by omega⟩
  · simp [Value.cells] at hcs
    obtain ⟨rfl, rfl, rfl⟩ := hcs
    have hz2 : zs.length = cap0 := by simpa using hz
    unfold maxLen at hm
    refine ⟨(zs.take len0).map Int.toNat, ⟨by simp; omega, ?_, ?_⟩, hl, hm⟩
    · intro y hy
      obtain ⟨z, hz1, rfl⟩ := List.mem_map.1 hy
      have := wf_u32 (hwz z (List.mem_of_mem_take hz1))
      omega
    · intro hn
      have h1 := hcell 0 (by omega)
      obtain ⟨b, o, spot⟩ := x
      have hspot : spot = none := by simpa [Addr.add] using World.cell?_spot h1
      subst hspot
      refine ⟨b, o, rfl, fun i hi => ?_⟩
      have h2 := hcell i (by omega)
      have e : (⟨b, o, none⟩ : Addr).add i = ⟨b, o + i, none⟩ := by
        by_cases hi0 : i = 0
        · subst hi0; rfl
        · simp [Addr.add, hi0]
      rw [e] at h2
      rw [h2]
      have hlt : i < zs.length := by omega
      have hw := wf_u32 (hwz zs[i] (List.getElem_mem hlt))
      have e1 : zs.getD i 0 = zs[i] := by rw [List.getD_eq_getElem?_getD, List.getElem?_eq_getElem hlt]; rfl
      have e2 : ((zs.take len0).map Int.toNat).getD i 0 = zs[i].toNat := by
        rw [List.getD_eq_getElem?_getD, List.getElem?_map, List.getElem?_take_of_lt hi, List.getElem?_eq_getElem hlt]; rfl
      rw [e1, e2]
      congr 2
      omega
end Go.Proofs.Ytahcgbklomfgaaa
/- What a row's argument of type api.Int is opened to. -/
namespace Go.Proofs.Ytahcgbklomfgaaa
open Go.ChangeShapes Go.WideShapes Go.ChangeAt Go.RowKit
open Go.ChangeMaps (open_string shut_string)

theorem open_nums1 {H : Type} {enc : TypeId × Value → H} {W : World} {v : Value} {x : DataW H × List MemPlace} {f : Nat}
    (hf : DataW.trod enc Try.prog W 0 (fun _ => true) true f 24 [v] = some x) : ∃ a len cap xs, v = .slice a len cap ∧ Nums W a len xs ∧ len ≤ cap ∧ cap ≤ 9223372036854775807 := by
  rcases open_ints Try.underlying24 Try.underlying53 (by kernel_rfl) hf with ⟨hcs, _⟩ | ⟨y, l, c, zs, hcs, _⟩
  · injection hcs with hcs
    subst hcs
    exact ⟨none, 0, 0, [], rfl, Nums.nil _ _, by omega, by omega⟩
  · injection hcs with hcs
    subst hcs
    obtain ⟨xs, h1, h2, h3⟩ := open_nums (a0 := some y) (len0 := l) (cap0 := c) (d := x.1) (p := x.2) (W := W) (enc := enc) ⟨f, hf⟩
    exact ⟨some y, l, c, xs, rfl, h1, h2, h3⟩
set_option maxRecDepth 100000 in
theorem open_zint {H : Type} {enc : TypeId × Value → H} {W : World} {b : Nat} {v : Value} {d : DataW H} {p : List MemPlace} (hv : Value.okWide Try.prog W .any b 26 v)
    (h0 : DataW.Trod enc Try.prog W 0 (fun _ => true) true 26 v d p) : ∃ s a len cap xs, v = .agg #[.bool s, .slice a len cap] ∧ Nums W a len xs ∧ len ≤ cap ∧ cap ≤ 9223372036854775807 := by
  obtain ⟨v0, v1, y0, y1, n, rfl, -, -, t0, t1⟩ := Go.Joins.open_agg2 Try.underlying26 (by kernel_rfl) (by kernel_rfl) hv h0
  obtain ⟨s, e0, -⟩ := DataW.trod_bool Try.underlying4 t0
  injection e0 with e0
  subst e0
  obtain ⟨a, len, cap, xs, rfl, h1, h2, h3⟩ := open_nums1 t1
  exact ⟨s, a, len, cap, xs, rfl, h1, h2, h3⟩
end Go.Proofs.Ytahcgbklomfgaaa
/- What a row's argument of type api.Term, []api.Term or api.Int is opened to, as values. -/
namespace Go.Proofs.Ytahcgbklomfgaaa
open Go.ChangeShapes Go.WideShapes Go.ChangeAt Go.RowKit Go.Deep

theorem cellsInt : Try.prog.cellsOf 26 = 2 := by kernel_rfl
theorem cellsBool : Try.prog.cellsOf 4 = 1 := by kernel_rfl
theorem cellsNat : Try.prog.cellsOf 24 = 1 := by kernel_rfl
theorem cellsI : Try.prog.cellsOf 3 = 1 := by kernel_rfl
theorem cellsPart : Try.prog.cellsOf 42 = 3 := by kernel_rfl
theorem cellsParts : Try.prog.cellsOf 22 = 1 := by kernel_rfl
theorem cellsTerm : Try.prog.cellsOf 28 = 3 := by kernel_rfl

/-- The greatest length. -/
def big : Nat := 9223372036854775807
section
variable {H : Type} {enc : TypeId × Value → H} {W : World} {f : Nat} {x : DataW H × List MemPlace} {cs : List Value}
set_option maxRecDepth 100000 in
theorem open_int_cells (h : DataW.trod enc Try.prog W 0 (fun _ => true) true f 26 cs = some x) : ∃ s a len cap Z, cs = [.bool s, .slice a len cap] ∧ ZIn W (.agg #[.bool s, .slice a len cap]) Z big := by
  obtain ⟨y0, y1, n, -, hl, h0, h1⟩ := trod_struct2 Try.underlying26 h
  rw [cellsInt] at hl
  match cs, hl with
  | [v0, v1], _ =>
    have g0 : DataW.trod enc Try.prog W 0 (fun _ => true) true n 4 (([v0, v1].drop 0).take (Try.prog.cellsOf 4)) = some y0 := h0
    have g1 : DataW.trod enc Try.prog W 0 (fun _ => true) true n 24 (([v0, v1].drop 1).take (Try.prog.cellsOf 24)) = some y1 := h1
    rw [cellsBool] at g0
    rw [cellsNat] at g1
    obtain ⟨s, e0, -⟩ := DataW.trod_bool Try.underlying4 g0
    injection e0 with e0
    subst e0
    obtain ⟨a, len, cap, xs, rfl, h1, h2, h3⟩ := open_nums1 g1
    exact ⟨s, a, len, cap, _, rfl, s, a, len, cap, xs, rfl, h1, h2, h3, by unfold big; omega, rfl⟩
set_option maxRecDepth 100000 in
theorem open_zin {b : Nat} {v : Value} {d : DataW H} {p : List MemPlace} (hv : Value.okWide Try.prog W .any b 26 v)
    (h0 : DataW.Trod enc Try.prog W 0 (fun _ => true) true 26 v d p) : ∃ Z, ZIn W v Z big := by
  obtain ⟨s, a, len, cap, xs, rfl, h1, h2, h3⟩ := open_zint hv h0
  exact ⟨_, s, a, len, cap, xs, rfl, h1, h2, h3, by unfold big; omega, rfl⟩
set_option maxRecDepth 100000 in
theorem open_part_cells (h : DataW.trod enc Try.prog W 0 (fun _ => true) true f 42 cs = some x) : ∃ p : PV, cs = p.cells ∧ ZIn W p.num p.Z big ∧ -9223372036854775808 ≤ p.v ∧ p.v ≤ 9223372036854775807 := by
  obtain ⟨y0, y1, n, -, hl, h0, h1⟩ := trod_struct2 Try.underlying42 h
  rw [cellsPart] at hl
  match cs, hl with
  | [v0, v1, v2], _ =>
    have g0 : DataW.trod enc Try.prog W 0 (fun _ => true) true n 3 (([v0, v1, v2].drop 0).take (Try.prog.cellsOf 3)) = some y0 := h0
    have g1 : DataW.trod enc Try.prog W 0 (fun _ => true) true n 26 (([v0, v1, v2].drop 1).take (Try.prog.cellsOf 26)) = some y1 := h1
    rw [cellsI] at g0
    rw [cellsInt] at g1
    obtain ⟨z, e0, -, hw⟩ := DataW.trod_int Try.underlying3 g0
    injection e0 with e0
    subst e0
    obtain ⟨s, a, len, cap, Z, e, hz⟩ := open_int_cells g1
    injection e with e1 e
    injection e with e2 e
    subst e1 e2
    exact ⟨⟨z, s, a, len, cap, Z⟩, rfl, hz, (bounds_i64 hw).1, (bounds_i64 hw).2⟩
theorem flat_split (ps : List PV) (j : Nat) (u : Value) (h : (flat ps)[j]? = some u) : ∃ i p r, ps[i]? = some p ∧ j = 3 * i + r ∧ p.cells[r]? = some u ∧ r < 3 := by
  induction ps generalizing j with
  | nil => simp [flat] at h
  | cons p ps ih =>
    rw [flat_cons] at h
    have hl : p.cells.length = 3 := rfl
    by_cases hj : j < 3
    · rw [List.getElem?_append_left (by omega)] at h
      exact ⟨0, p, j, rfl, by omega, h, hj⟩
    · rw [List.getElem?_append_right (by omega), hl] at h
      obtain ⟨i, q, r, h1, h2, h3, h4⟩ := ih _ h
      exact ⟨i + 1, q, r, by simpa using h1, by omega, h3, h4⟩
instance pvSome : Inhabited PV := ⟨⟨0, false, none, 0, 0, 0⟩⟩
set_option maxRecDepth 100000 in
theorem open_parts {v : Value} (hf : DataW.trod enc Try.prog W 0 (fun _ => true) true f 22 [v] = some x) : ∃ a len cap ps, v = .slice a len cap ∧ PartsIn W a len ps big ∧ (∀ p ∈ ps, -9223372036854775808 ≤ p.v ∧ p.v ≤ 9223372036854775807) ∧ len ≤ cap ∧ cap ≤ 9223372036854775807 := by
  rcases open_slice Try.underlying22 hf with ⟨hcs, _⟩ | ⟨a, len, cap, m, n, D, Pl, hcs, _, hl, hm, hmm, _, hx⟩
  · injection hcs with hcs
    subst hcs
    exact ⟨none, 0, 0, [], rfl, PartsIn.nil _ _ _, fun p hp => by simp at hp, by omega, by omega⟩
  · injection hcs with hcs
    subst hcs
    unfold maxLen at hm
    have hlm : len ≤ m := by rw [hmm]; split <;> omega
    obtain ⟨p, hp⟩ := choose_lt (α := PV) (n := len) (p := fun i p => (∀ r u, p.cells[r]? = some u → W.cell? (a.add (i * 3 + r)) = some u) ∧ ZIn W p.num p.Z big ∧ -9223372036854775808 ≤ p.v ∧ p.v ≤ 9223372036854775807) (fun i hi => by
      obtain ⟨cs, h1, h2⟩ := hx i (by omega)
      rw [cellsPart] at h1
      obtain ⟨_, hlen, hcell⟩ := World.cells?_some h1
      obtain ⟨p, rfl, hz, hb⟩ := open_part_cells h2
      refine ⟨p, fun r u hu => ?_, hz, hb⟩
      have hr : r < 3 := by
        have := (List.getElem?_eq_some_iff.1 hu).1
        have hl : p.cells.length = 3 := rfl
        omega
      rw [← hu, ← hcell r hr, add_add])
    have hall : ∀ q ∈ (List.range len).map p, ∃ i, i < len ∧ q = p i := fun q hq => by
      obtain ⟨i, hi, rfl⟩ := List.mem_map.1 hq
      exact ⟨i, List.mem_range.1 hi, rfl⟩
    refine ⟨some a, len, cap, (List.range len).map p, rfl, ⟨by simp, fun hn => ?_, fun q hq => ?_⟩, fun q hq => ?_, hl, hm⟩
    · have h0 := (hp 0 hn).1 0 _ rfl
      obtain ⟨b, o, spot⟩ := a
      have hspot : spot = none := by simpa [Addr.add] using World.cell?_spot h0
      subst hspot
      refine ⟨b, o, rfl, fun j u hu => ?_⟩
      obtain ⟨i, q, r, h1, rfl, h3, h4⟩ := flat_split _ _ _ hu
      have hi : i < len := by
        have := (List.getElem?_eq_some_iff.1 h1).1
        simpa using this
      have hq : q = p i := by
        rw [List.getElem?_map, List.getElem?_range hi] at h1
        exact (Option.some.inj h1).symm
      subst hq
      have h5 := (hp i hi).1 r u h3
      rw [add_plain] at h5
      rw [show 3 * i + r = i * 3 + r by omega]
      exact h5
    · obtain ⟨i, hi, rfl⟩ := hall q hq
      exact (hp i hi).2.1
    · obtain ⟨i, hi, rfl⟩ := hall q hq
      exact (hp i hi).2.2
set_option maxRecDepth 100000 in
/-- A term as it comes in: also each variable is an int64. -/
theorem open_term_cells (h : DataW.trod enc Try.prog W 0 (fun _ => true) true f 28 cs = some x) : ∃ A n c s B m d L K, cs = [.slice A n c, .bool s, .slice B m d] ∧ TIn W (.agg #[.slice A n c, .bool s, .slice B m d]) L K big ∧ ∀ p ∈ L, -9223372036854775808 ≤ p.1 ∧ p.1 ≤ 9223372036854775807 := by
  obtain ⟨y0, y1, n, -, hl, h0, h1⟩ := trod_struct2 Try.underlying28 h
  rw [cellsTerm] at hl
  match cs, hl with
  | [v0, v1, v2], _ =>
    have g0 : DataW.trod enc Try.prog W 0 (fun _ => true) true n 22 (([v0, v1, v2].drop 0).take (Try.prog.cellsOf 22)) = some y0 := h0
    have g1 : DataW.trod enc Try.prog W 0 (fun _ => true) true n 26 (([v0, v1, v2].drop 1).take (Try.prog.cellsOf 26)) = some y1 := h1
    rw [cellsParts] at g0
    rw [cellsInt] at g1
    obtain ⟨a, len, cap, ps, e0, hp, hb, hl1, hl2⟩ := open_parts g0
    obtain ⟨s, B, m, d, Z, e, hz⟩ := open_int_cells g1
    injection e with e1 e
    injection e with e2 e
    subst e0 e1 e2
    refine ⟨a, len, cap, s, B, m, d, lin ps, Z, rfl, ⟨a, len, cap, s, B, m, d, rfl, ⟨ps, hp, rfl⟩, hl1, hl2, hz⟩, fun p hp => ?_⟩
    obtain ⟨q, hq, rfl⟩ := List.mem_map.1 hp
    exact hb q hq
set_option maxRecDepth 100000 in
theorem open_term {b : Nat} {v : Value} {d : DataW H} {p : List MemPlace} (hv : Value.okWide Try.prog W .any b 28 v)
    (h0 : DataW.Trod enc Try.prog W 0 (fun _ => true) true 28 v d p) : ∃ L K, TIn W v L K big ∧ ∀ p ∈ L, -9223372036854775808 ≤ p.1 ∧ p.1 ≤ 9223372036854775807 := by
  obtain ⟨cs, rfl, hsz⟩ := okWide_struct Try.underlying28 hv
  obtain ⟨fuel, hf⟩ := h0
  obtain ⟨A, n, c, s, B, m, d, L, K, e, h1, h2⟩ := open_term_cells hf
  have e2 : cs = #[.slice A n c, .bool s, .slice B m d] := by
    cases cs
    simp only [Value.cells] at e
    simpa using e
  subst e2
  exact ⟨L, K, h1, h2⟩
end
end Go.Proofs.Ytahcgbklomfgaaa
/- plumblinelaw03.few. -/
namespace Go.Proofs.Ytahcgbklomfgaaa
open Go.RowKit

set_option maxRecDepth 100000 in
set_option maxHeartbeats 4000000 in
theorem few_any (A : Option Addr) (n c : Nat) (ts : List TV) (w0 : World) (hx : TermsIn w0 A n ts big) (hn : n ≤ 9223372036854775807) : Calls Try.prog 5 #[.slice A n c] w0 (FewPost ts w0) := by
  have HX := hide hx
  have HLN := hide hx.1
  clear hx
  go_enter Try.func5, Try.ntmps5
  go_wp2_with fail
  have HF := hide (show ∀ i t, i < 0 → ts[i]? = some t → FewT w0 t from fun i t h => by omega)
  have HB := hide (Below.refl w0.heap.size w0)
  go_loopw [9] (fun i wr => ∃ q : Nat, q ≤ n ∧ i = .int .i64 q ∧ Hid (∀ i t, i < q → ts[i]? = some t → FewT w0 t) ∧ Hid (Below w0.heap.size w0 wr)) (fun i _ => n - (intOf i).toNat)
  case atStart => exact ⟨0, Nat.zero_le _, rfl, HF, HB⟩
  case round =>
    obtain ⟨q, hq, rfl, HFq, HBq⟩ := hrel
    obtain ⟨wo, rfl⟩ : ∃ wo : World, wo = wr := ⟨_, rfl⟩
    by_cases hqn : q < n
    · obtain ⟨bb, o, t, rfl, hgt, c0, c1, c2, ht⟩ := (HX.out.below HBq.out).at_ hqn
      obtain ⟨A', n', c', s', B', m', d', e', hp', hc1, hc2, hK⟩ := HX.out.2.2 t (List.mem_of_getElem? hgt)
      clear ht
      have e2 : A' = t.A ∧ n' = t.n ∧ c' = t.c ∧ s' = t.s ∧ B' = t.B ∧ m' = t.m ∧ d' = t.d := by simpa [TV.agg, eq_comm, and_assoc] using e'
      obtain ⟨rfl, rfl, rfl, rfl, rfl, rfl, rfl⟩ := e2
      clear e'
      obtain ⟨ps, hps, hpl⟩ := hp'
      have hm1 := hK.bounds
      have ht1 : t.n ≤ 9223372036854775807 := by omega
      have HPS := hide hps
      have HPL := hide hpl
      have HK := hide hK
      have HT := hide hgt
      obtain ⟨y0, y1, y2⟩ := bstart1 28 wo #[.slice t.A t.n t.c, .bool t.s, .slice t.B t.m t.d]
      have Y0 := hide y0
      have Y1 := hide y1
      clear y0 y1 y2 hps hpl hK hgt
      by_cases h30 : (30 : Int) < t.n
      · go_wp2_with fail
        go_ret
        exact ⟨false, rfl, (fun h => by cases h), HBq.out.next Y1.out⟩
      · by_cases h20 : (20 : Int) < t.m
        · go_wp2_with fail
          go_ret
          exact ⟨false, rfl, (fun h => by cases h), HBq.out.next Y1.out⟩
        · go_wp2_with fail
          have H30 := hide h30
          have H20 := hide h20
          clear h30 h20 c0 c1 c2
          generalize hWo : wo.alloc (.cells #[.slice t.A t.n t.c, .bool t.s, .slice t.B t.m t.d] 28) = Wo at *
          clear hWo
          have HG := hide (show ∀ i x, i < 0 → ps[i]? = some x → x.m ≤ 20 from fun i x h => by omega)
          have HBB := hide (Below.refl Wo.heap.size Wo)
          go_loopw [27] (fun i wr => ∃ r : Nat, r ≤ t.n ∧ i = .int .i64 r ∧ Hid (∀ i x, i < r → ps[i]? = some x → x.m ≤ 20) ∧ Hid (Below Wo.heap.size Wo wr)) (fun i _ => t.n - (intOf i).toNat)
          case atStart => exact ⟨0, Nat.zero_le _, rfl, HG, HBB⟩
          case round =>
            obtain ⟨r, hr, rfl, HGr, HBr⟩ := hrel
            by_cases hrn : r < t.n
            · obtain ⟨pb, po, p, hA, hgp, g0, g1, g2, hpz⟩ := ((HPS.out.below (HBq.out.next Y1.out)).below HBr.out).at_ hrn
              rw [hA] at *
              have hpm := hpz.bounds
              have hgp' := hide hgp
              rw [Nat.mul_comm 3 r] at g0 g1 g2
              rw [← Nat.add_assoc] at g1 g2
              by_cases hp20 : (20 : Int) < p.m
              · go_wp2_with fail
                go_ret
                exact ⟨false, rfl, (fun h => by cases h), ((HBq.out.next Y1.out).next HBr.out).next (bl_alloc _ _)⟩
              · go_wp2_with fail
                go_roundw
                case rel => exact ⟨r + 1, by omega, by go_num, fun i x hi hx => by
                  by_cases hir : i < r
                  · exact HGr.out i x hir hx
                  · obtain rfl : i = r := by omega
                    rw [hgp'.out] at hx
                    injection hx with hx
                    subst hx
                    omega, hide (HBr.out.next (bl_alloc _ _))⟩
                case measure => simp [intOf] <;> omega
            · obtain rfl : r = t.n := by omega
              go_wp2_with fail
              go_roundw
              case rel => exact ⟨q + 1, by omega, by go_num, fun i x hi hx => by
                  by_cases hir : i < q
                  · exact HFq.out i x hir hx
                  · obtain rfl : i = q := by omega
                    rw [HT.out] at hx
                    injection hx with hx
                    subst hx
                    have h30 := H30.out
                    have h20 := H20.out
                    refine ⟨by omega, t.A, t.n, t.c, t.s, t.B, t.m, t.d, rfl, ⟨ps, ⟨HPS.out.1, HPS.out.2.1, fun p hp => ?_⟩, HPL.out⟩, hc1, hc2, HK.out.cut (by omega)⟩
                    obtain ⟨y, hy, hyp⟩ := List.mem_iff_getElem.1 hp
                    exact (HPS.out.2.2 p hp).cut (HGr.out y p (by have := HPS.out.1; omega) (by rw [List.getElem?_eq_getElem hy, hyp])), hide ((HBq.out.next Y1.out).next HBr.out)⟩
              case measure => simp [intOf] <;> omega
    · obtain rfl : q = n := by omega
      go_wp2_with fail
      go_ret
      refine ⟨true, rfl, fun _ t ht => ?_, HBq.out⟩
      obtain ⟨i, hi, hit⟩ := List.mem_iff_getElem.1 ht
      exact HFq.out i t (by have := HLN.out; omega) (by rw [List.getElem?_eq_getElem hi, hit])
end Go.Proofs.Ytahcgbklomfgaaa
