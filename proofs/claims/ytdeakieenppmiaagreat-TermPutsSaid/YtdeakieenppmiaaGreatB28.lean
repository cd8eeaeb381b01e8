/- Texts of one seat, put together: First TermsIn KeepP. -/
import Derived.Test.YtdeakieenppmiaaGreatB24
import Derived.Test.YtdeakieenppmiaaGreatB27
import Derived.Maps.OwnSet
import Derived.Test.YtdeakieenppmiaaGreatB18
import Derived.Test.YtdeakieenppmiaaGreatB21
set_option linter.unusedVariables false
/- Maps from ints to ints; term.firstPlaces. -/
namespace Go.Proofs.YtdeakieenppmiaaGreat
open Go.RowKit Go.Maps
open Tm

theorem mapLaw : Keyed Tryz.prog 3 := int_keyed Tryz.underlying3
theorem mapZero (w : World) : (zeroValue 3).run Tryz.prog w = .ok (.int .i64 0) w := by kernel_rfl
theorem run_makeMap_hint (n : Int) (w : World) : (Instr.makeMap 55 (some (.int .i64 n))).run Tryz.prog w = .ok (.map (some w.heap.size)) (w.alloc (.map #[] 0)) := by
  simp [Instr.makeMap, run_underlying Tryz.underlying55, asInt, asIntOf, Result.andThen]
theorem wf_int {x : Int} (h1 : -9223372036854775808 ≤ x) (h2 : x ≤ 9223372036854775807) : (Lit.int .i64 x).wf = true := WalkArith.wf_i64 ⟨by omega, by omega⟩
/-- Block b is a map of at most n entries that says f. -/
def MapI (w : World) (b n : Nat) (f : Int → Option Nat) : Prop :=
  ∃ D : DataW Unit, w.ownsMap Tryz.prog 3 (plainElem Tryz.prog 3) b n D ∧ IsMap D ∧ ∀ x, Maps.has D (.int .i64 x) = (f x).isSome ∧ ∀ i z, f x = some i → D.atKey (.int .i64 x) z = .lit (.int .i64 i)
theorem MapI.lt {w : World} {b n : Nat} {f : Int → Option Nat} (h : MapI w b n f) : b < w.heap.size := by obtain ⟨D, h1, -⟩ := h; exact h1.lt
theorem MapI.below {w w' : World} {b n : Nat} {f : Int → Option Nat} (h : MapI w b n f) (hb : Below w.heap.size w w') : MapI w' b n f := by
  obtain ⟨D, ⟨es, clock, h1, h2⟩, h3⟩ := h
  exact ⟨D, ⟨es, clock, (hb.block b (by rcases Nat.lt_or_ge b w.heap.size with h' | h'; exact h'; simp [Array.getElem?_eq_none h'] at h1)).trans h1, h2⟩, h3⟩
theorem MapI.mono {w : World} {b n m : Nat} {f : Int → Option Nat} (h : MapI w b n f) (hm : n ≤ m) : MapI w b m f := by
  obtain ⟨D, h1, h2⟩ := h; exact ⟨D, h1.mono hm, h2⟩
theorem MapI.congr {w : World} {b n : Nat} {f g : Int → Option Nat} (h : MapI w b n f) (e : ∀ x, f x = g x) : MapI w b n g := by
  obtain rfl : f = g := funext e
  exact h
theorem MapI.start (w : World) : MapI (w.alloc (.map #[] 0)) w.heap.size 0 (fun _ => none) :=
  ⟨.map [], World.ownsMap_made _ _ _ _, isMap_empty, fun x => ⟨rfl, fun i z h => by cases h⟩⟩
theorem mapI_put {w w' : World} {b n i : Nat} {f : Int → Option Nat} {x : Int} {D : DataW Unit} (h0 : IsMap D) (h1 : ∀ x, Maps.has D (.int .i64 x) = (f x).isSome ∧ ∀ i z, f x = some i → D.atKey (.int .i64 x) z = .lit (.int .i64 i))
    (h : w'.ownsMap Tryz.prog 3 (plainElem Tryz.prog 3) b n (D.put (.int .i64 x) (.lit (.int .i64 i)))) : MapI w' b n (fun y => if y = x then some i else f y) := by
  have hk : WideAt.IsKeyLit (.int .i64 x) := trivial
  refine ⟨_, h, h0.put _ _, fun y => ?_⟩
  dsimp only
  by_cases hy : y = x
  · subst hy
    rw [has_put_same h0 hk, if_pos rfl]
    refine ⟨rfl, fun j z hj => ?_⟩
    injection hj with hj
    subst hj
    exact atKey_put_same h0 hk _ _
  · have hne : (Lit.int .i64 y) ≠ (Lit.int .i64 x) := fun e => hy (by injection e)
    rw [has_put_other hne, if_neg hy]
    refine ⟨(h1 y).1, fun j z hj => ?_⟩
    rw [atKey_put_other hne]
    exact (h1 y).2 j z hj
def FirstPost (vs : List Int) (w : World) (e : Ending) (w' : World) : Prop := ∃ b, e = .returned (.map (some b)) ∧ MapI w' b vs.length (fun x => firstAt x vs) ∧ Below w.heap.size w w'
def FirstRel (w0 : World) (vs : List Int) (q : Nat) (wr : World) : Prop := MapI wr w0.heap.size q (fun x => firstAt x (vs.take q)) ∧ Below w0.heap.size w0 wr
theorem first_take_succ {vs : List Int} {q : Nat} {v : Int} (h : vs[q]? = some v) (x : Int) : firstAt x (vs.take (q + 1)) = match firstAt x (vs.take q) with | some i => some i | none => if v = x then some q else none := by
  have hq : q < vs.length := (List.getElem?_eq_some_iff.1 h).1
  rw [List.take_add_one, h]
  show firstAt x (vs.take q ++ [v]) = _
  rw [firstAt_snoc, List.length_take, Nat.min_eq_left (Nat.le_of_lt hq)]
  cases firstAt x (vs.take q) <;> rfl
set_option maxRecDepth 100000 in
set_option maxHeartbeats 2000000 in
theorem firstPlaces_any (A : Option Addr) (n c : Nat) (vs : List Int) (w0 : World) (hx : IIn w0 A n vs) (hn : n ≤ 1099511627) (hwf : ∀ v ∈ vs, -9223372036854775808 ≤ v ∧ v ≤ 9223372036854775807) : Calls Tryz.prog 31 #[.slice A n c] w0 (FirstPost vs w0) := by
  have hmm := run_makeMap_hint
  have y1 := bl_alloc w0 (.map #[] 0)
  have HS := hide (show FirstRel w0 vs 0 (w0.alloc (.map #[] 0)) from ⟨(MapI.start w0).congr (fun x => by simp [firstAt]), y1⟩)
  have HX := hide hx
  have HWF := hide hwf
  clear y1 hx hwf
  go_enter Tryz.func31, Tryz.ntmps31
  go_wp2_with fail
  go_loopw [13] (fun i wr => ∃ q : Nat, q ≤ n ∧ i = .int .i64 q ∧ Hid (FirstRel w0 vs q wr)) (fun i _ => n - (intOf i).toNat)
  case atStart => exact ⟨0, Nat.zero_le _, rfl, HS⟩
  case round =>
    obtain ⟨q, hq, rfl, HR⟩ := hrel
    obtain ⟨hM, hB⟩ := HR.out
    by_cases hqn : q < n
    · obtain ⟨bb, o, v, rfl, hlt, hvq, c0⟩ := (HX.out.below hB).at_ hqn
      obtain ⟨hw1, hw2⟩ := HWF.out v (List.mem_of_getElem? hvq)
      have hkey := keyOf_int_mk Tryz.underlying3 (wf_int hw1 hw2)
      obtain ⟨D, hown, h0, h1⟩ := hM
      have HH := hide h1
      have H0 := hide h0
      have HS := hide (first_take_succ hvq)
      have HB := hide hB
      have hsz := hB.size
      cases hf : firstAt v (vs.take q) with
      | some i =>
        have hhas : Maps.has D (.int .i64 v) = true := by have := (h1 v).1; dsimp only at this; rw [this, hf]; rfl
        have HE := hide (show FirstRel w0 vs (q + 1) wr from ⟨(show MapI wr w0.heap.size q (fun x => firstAt x (vs.take q)) from ⟨D, hown, h0, h1⟩).mono (Nat.le_succ q) |>.congr (fun x => by
          rw [HS.out x]
          cases hx : firstAt x (vs.take q) with
          | some j => rfl
          | none =>
            by_cases hvx : v = x
            · subst hvx; rw [hf] at hx; cases hx
            · simp [hvx]), hB⟩)
        clear h1 h0 hf hvq HR hB hw1 hw2
        go_wp2_with (at_lookup; refine wpList_lookup_own_ok_int _ rfl _ _ 55 rfl 3 3 .i64 mapLaw Tryz.underlying55 Tryz.underlying3 (mapZero _) w0.heap.size q D rfl hown _ _ rfl hkey ?_; intro c hat hwc; clear hat hwc)
        go_roundw
        case rel => exact ⟨q + 1, by omega, by go_num, HE⟩
        case measure => simp [intOf] <;> omega
      | none =>
        have hhas : Maps.has D (.int .i64 v) = false := by have := (h1 v).1; dsimp only at this; rw [this, hf]; rfl
        have HE := hide (show ∀ w1, w1.ownsMap Tryz.prog 3 (plainElem Tryz.prog 3) w0.heap.size (q + 1) (D.put (.int .i64 v) (.lit (.int .i64 (q : Nat)))) → wr.grownBy w1 (some w0.heap.size) → FirstRel w0 vs (q + 1) w1 from fun w1 h2 g2 => ⟨(mapI_put (w := wr) h0 h1 h2).congr (fun x => by
          rw [HS.out x]
          by_cases hvx : x = v
          · subst hvx; rw [if_pos rfl, hf]; simp
          · rw [if_neg hvx]
            cases hx : firstAt x (vs.take q) with
            | some j => rfl
            | none => simp [Ne.symm hvx]), hB.trans (Only.below (g := w0.heap.size) g2 hsz (Nat.le_refl _))⟩)
        have hwq : (Lit.int .i64 (q : Int)).wf = true := wf_int (by omega) (by omega)
        clear h1 h0 hf hvq HR hB hw1 hw2
        go_wp2_with (first
          | (at_lookup; refine wpList_lookup_own_ok_int _ rfl _ _ 55 rfl 3 3 .i64 mapLaw Tryz.underlying55 Tryz.underlying3 (mapZero _) w0.heap.size q D rfl hown _ _ rfl hkey ?_; intro c hat hwc; clear hat hwc)
          | (at_mapUpdate; refine wpList_mapUpdate_own _ rfl _ _ _ 55 rfl 3 3 mapLaw Tryz.underlying55 _ w0.heap.size q D rfl hown (by unfold maxLen; omega) _ _ _ rfl rfl hkey _ [] (plainElem_int Tryz.underlying3 hwq) ?_; intro w1 hown1 hgrow1; have HE1 := hide (HE.out w1 hown1 hgrow1); clear hown1 hgrow1))
        go_roundw
        case rel => exact ⟨q + 1, by omega, by go_num, HE1⟩
        case measure => simp [intOf] <;> omega
    · obtain rfl : q = n := by omega
      have HE := hide (show FirstPost vs w0 (.returned (.map (some w0.heap.size))) wr from ⟨w0.heap.size, rfl, by rw [HX.out.1]; exact hM.congr (fun x => by rw [List.take_of_length_le (by rw [HX.out.1]; exact Nat.le_refl _)]), hB⟩)
      clear hM hB HR
      go_wp2_with fail
      go_ret
      exact HE.out
end Go.Proofs.YtdeakieenppmiaaGreat
/- Slices of terms: what they read as. -/
namespace Go.Proofs.YtdeakieenppmiaaGreat
open Go.RowKit

/-- A term as its cells hold it, and what it reads as. -/
structure TV where
  A : Option Addr
  n : Nat
  c : Nat
  s : Bool
  B : Option Addr
  m : Nat
  d : Nat
  L : List (Int × Int)
  K : Int
def TV.cells (t : TV) : List Value := [.slice t.A t.n t.c, .bool t.s, .slice t.B t.m t.d]
def TV.agg (t : TV) : Value := .agg #[.slice t.A t.n t.c, .bool t.s, .slice t.B t.m t.d]
def flatT (ts : List TV) : List Value := (ts.map TV.cells).flatten
theorem flatT_cons (t : TV) (ts : List TV) : flatT (t :: ts) = t.cells ++ flatT ts := rfl
theorem flatT_get (ts : List TV) (i : Nat) (t : TV) (h : ts[i]? = some t) : (flatT ts)[3 * i]? = some (.slice t.A t.n t.c) ∧ (flatT ts)[3 * i + 1]? = some (.bool t.s) ∧ (flatT ts)[3 * i + 2]? = some (.slice t.B t.m t.d) := by
  induction ts generalizing i with
  | nil => simp at h
  | cons q ts ih =>
    rw [flatT_cons]
    cases i with
    | zero =>
      simp at h; subst h
      exact ⟨rfl, rfl, rfl⟩
    | succ i =>
      have h2 := ih i (by simpa using h)
      have hl : q.cells.length = 3 := rfl
      rw [show 3 * (i + 1) = q.cells.length + 3 * i by rw [hl]; omega, show q.cells.length + 3 * i + 1 = q.cells.length + (3 * i + 1) by omega, show q.cells.length + 3 * i + 2 = q.cells.length + (3 * i + 2) by omega, List.getElem?_append_right (by omega), List.getElem?_append_right (by omega), List.getElem?_append_right (by omega)]
      simpa using h2
def TermsIn (w : World) (A : Option Addr) (n : Nat) (ts : List TV) (k : Nat) : Prop :=
  ts.length = n ∧ (0 < n → ∃ b o, A = some ⟨b, o, none⟩ ∧ ∀ j u, (flatT ts)[j]? = some u → w.cell? ⟨b, o + j, none⟩ = some u) ∧ ∀ t ∈ ts, TIn w t.agg t.L t.K k
theorem TermsIn.below {w w' : World} {A : Option Addr} {n k : Nat} {ts : List TV} (h : TermsIn w A n ts k) (hb : Below w.heap.size w w') : TermsIn w' A n ts k := by
  refine ⟨h.1, fun hn => ?_, fun p hp => (h.2.2 p hp).below hb⟩
  obtain ⟨b, o, e, hc⟩ := h.2.1 hn
  refine ⟨b, o, e, fun j u hu => ?_⟩
  have h1 := hc j u hu
  have hlt := World.block_lt_of_cell? w _ h1
  exact (World.cell?_of_block (w := w) (a := ⟨b, o + j, none⟩) (hb.block b hlt)).trans h1
theorem TermsIn.at_ {w : World} {A : Option Addr} {n k i : Nat} {ts : List TV} (h : TermsIn w A n ts k) (hi : i < n) : ∃ b o t, A = some ⟨b, o, none⟩ ∧ ts[i]? = some t ∧ w.cell? ⟨b, o + i * 3, none⟩ = some (.slice t.A t.n t.c) ∧ w.cell? ⟨b, o + i * 3 + 1, none⟩ = some (.bool t.s) ∧ w.cell? ⟨b, o + i * 3 + 2, none⟩ = some (.slice t.B t.m t.d) ∧ TIn w t.agg t.L t.K k := by
  obtain ⟨b, o, e, hc⟩ := h.2.1 (by omega)
  have hl : i < ts.length := by rw [h.1]; exact hi
  obtain ⟨g0, g1, g2⟩ := flatT_get ts i ts[i] (List.getElem?_eq_getElem hl)
  refine ⟨b, o, ts[i], e, List.getElem?_eq_getElem hl, ?_, ?_, ?_, h.2.2 _ (List.getElem_mem hl)⟩
  · rw [show o + i * 3 = o + 3 * i by omega]; exact hc _ _ g0
  · rw [show o + i * 3 + 1 = o + (3 * i + 1) by omega]; exact hc _ _ g1
  · rw [show o + i * 3 + 2 = o + (3 * i + 2) by omega]; exact hc _ _ g2
/-- The terms of a literal. -/
theorem TermsIn.box {T : TypeId} {w : World} {g k : Nat} {ts : List TV} (h : Box T w g (flatT ts).toArray) (hk : ∀ t ∈ ts, TIn w t.agg t.L t.K k) : TermsIn w (some ⟨g, 0, none⟩) ts.length ts k :=
  ⟨rfl, fun _ => ⟨g, 0, rfl, fun j u hu => by rw [Nat.zero_add]; exact h.cell j u (by simpa using hu)⟩, hk⟩
theorem ZIn.cut {w : World} {s : Bool} {A : Option Addr} {n c k j : Nat} {Z : Int} (h : ZIn w (.agg #[.bool s, .slice A n c]) Z k) (hn : n ≤ j) : ZIn w (.agg #[.bool s, .slice A n c]) Z j := by
  obtain ⟨s', A', n', c', xs, e, h1, h2, h3, h4, h5⟩ := h
  injection e with e
  have e1 : s' = s ∧ A' = A ∧ n' = n ∧ c' = c := by simpa [eq_comm] using e
  obtain ⟨rfl, rfl, rfl, rfl⟩ := e1
  exact ⟨_, _, _, _, xs, rfl, h1, h2, h3, hn, h5⟩
theorem ZIn.bounds {w : World} {s : Bool} {A : Option Addr} {n c k : Nat} {Z : Int} (h : ZIn w (.agg #[.bool s, .slice A n c]) Z k) : n ≤ 9223372036854775807 := by
  obtain ⟨s', A', n', c', xs, e, h1, h2, h3, h4, h5⟩ := h
  injection e with e
  have e1 : s' = s ∧ A' = A ∧ n' = n ∧ c' = c := by simpa [eq_comm] using e
  obtain ⟨rfl, rfl, rfl, rfl⟩ := e1
  omega
/-- A term of at most 30 parts, whose numbers have at most 20 limbs. -/
def FewT (w : World) (t : TV) : Prop := t.n ≤ 30 ∧ TIn w t.agg t.L t.K 20
def FewPost (ts : List TV) (w : World) (e : Ending) (w' : World) : Prop := ∃ r, e = .returned (.bool r) ∧ (r = true → ∀ t ∈ ts, FewT w t) ∧ Below w.heap.size w w'
end Go.Proofs.YtdeakieenppmiaaGreat
/- Parts are kept where only the box of an api.Int turns. -/
namespace Go.Proofs.YtdeakieenppmiaaGreat
open Go.RowKit

theorem Only.next {g : Nat} {a b c : World} (h : Only g a b) (k : Below b.heap.size b c) : Only g a c := h.trans ⟨k.os, k.tape, k.output, k.size, fun i hi _ => k.block i hi⟩
theorem PIn.offInt {w : World} {A B : Option Addr} {n k g m d : Nat} {s : Bool} {L : List (Int × Int)} (h : PIn w A n L k) (hb : Blk w g #[.bool s, .slice B m d]) : 0 < n → Apart A g := by
  obtain ⟨ps, h, -⟩ := h
  intro hn ad had he
  obtain ⟨b, o, e, hc⟩ := h.2.1 hn
  have hl : 0 < ps.length := by rw [h.1]; exact hn
  obtain ⟨g0, -, -⟩ := flat_get ps 0 ps[0] (List.getElem?_eq_getElem hl)
  have h0 := hc 0 _ g0
  rw [had] at e
  injection e with e
  subst e
  have he' : b = g := he
  subst he'
  rw [cell_of_row w b _ _ _ _ hb] at h0
  match o, h0 with
  | 0, h0 => simp at h0
  | 1, h0 => simp at h0
  | o + 2, h0 => simp at h0
theorem Blk.kpI {w w' : World} {g m d : Nat} {s : Bool} {B : Option Addr} (hb : Blk w g #[.bool s, .slice B m d]) (ho : Only g w w') : Kp w w' := Kp.block hb (nl2 (NL.bool _) (NL.slice _ _ _)) ho
theorem PIn.onlyInt {w w' : World} {A B : Option Addr} {n k g m d : Nat} {s : Bool} {L : List (Int × Int)} (h : PIn w A n L k) (hb : Blk w g #[.bool s, .slice B m d]) (ho : Only g w w') : PIn w' A n L k :=
  h.keep ho (hb.kpI ho) (h.offInt hb)
end Go.Proofs.YtdeakieenppmiaaGreat
