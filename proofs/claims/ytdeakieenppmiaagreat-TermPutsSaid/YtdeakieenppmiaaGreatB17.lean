/- Texts of one seat, put together: PartMem TermMathB. -/
import Derived.Test.YtdeakieenppmiaaGreatB16
set_option linter.unusedVariables false
/- Parts of a term, numbers and terms in memory: what slices of structs read as. Nothing here names a type of the seat. -/
namespace Go.Proofs.YtdeakieenppmiaaGreat
open Go.RowKit

/-- A part as its cells hold it, with the number that its coefficient reads as. -/
structure PV where
  v : Int
  s : Bool
  B : Option Addr
  m : Nat
  d : Nat
  Z : Int
def PV.num (p : PV) : Value := .agg #[.bool p.s, .slice p.B p.m p.d]
def PV.cells (p : PV) : List Value := [.int .i64 p.v, .bool p.s, .slice p.B p.m p.d]
def PV.agg (p : PV) : Value := .agg #[.int .i64 p.v, .bool p.s, .slice p.B p.m p.d]
def PV.part (p : PV) : Int × Int := (p.v, p.Z)
def flat (ps : List PV) : List Value := (ps.map PV.cells).flatten
theorem flat_nil : flat [] = [] := rfl
theorem flat_cons (p : PV) (ps : List PV) : flat (p :: ps) = p.cells ++ flat ps := rfl
theorem flat_append (ps qs : List PV) : flat (ps ++ qs) = flat ps ++ flat qs := by simp [flat]
theorem flat_length (ps : List PV) : (flat ps).length = 3 * ps.length := by
  induction ps with
  | nil => rfl
  | cons p ps ih => rw [flat_cons, List.length_append, ih, List.length_cons]; show 3 + _ = _; omega
theorem flat_get (ps : List PV) (i : Nat) (p : PV) (h : ps[i]? = some p) : (flat ps)[3 * i]? = some (.int .i64 p.v) ∧ (flat ps)[3 * i + 1]? = some (.bool p.s) ∧ (flat ps)[3 * i + 2]? = some (.slice p.B p.m p.d) := by
  induction ps generalizing i with
  | nil => simp at h
  | cons q ps ih =>
    rw [flat_cons]
    cases i with
    | zero =>
      simp at h; subst h
      exact ⟨rfl, rfl, rfl⟩
    | succ i =>
      have h2 := ih i (by simpa using h)
      have hl : q.cells.length = 3 := rfl
      have e0 : 3 * (i + 1) = q.cells.length + 3 * i := by rw [hl]; omega
      have e1 : 3 * (i + 1) + 1 = q.cells.length + (3 * i + 1) := by rw [hl]; omega
      have e2 : 3 * (i + 1) + 2 = q.cells.length + (3 * i + 2) := by rw [hl]; omega
      rw [e0, show q.cells.length + 3 * i + 1 = q.cells.length + (3 * i + 1) by omega, show q.cells.length + 3 * i + 2 = q.cells.length + (3 * i + 2) by omega, List.getElem?_append_right (by omega), List.getElem?_append_right (by omega), List.getElem?_append_right (by omega)]
      simpa using h2
theorem flat_take (ps : List PV) (k : Nat) : flat (ps.take k) = (flat ps).take (3 * k) := by
  induction ps generalizing k with
  | nil => simp [flat]
  | cons p ps ih =>
    cases k with
    | zero => simp [flat]
    | succ k =>
      rw [List.take_succ_cons, flat_cons, flat_cons, ih]
      have hl : p.cells.length = 3 := rfl
      rw [show 3 * (k + 1) = p.cells.length + 3 * k by rw [hl]; omega, List.take_length_add_append]

/-- The slice (A, n) of parts reads as ps, of at most k limbs each. -/
def PartsIn (w : World) (A : Option Addr) (n : Nat) (ps : List PV) (k : Nat) : Prop :=
  ps.length = n ∧ (0 < n → ∃ b o, A = some ⟨b, o, none⟩ ∧ ∀ j u, (flat ps)[j]? = some u → w.cell? ⟨b, o + j, none⟩ = some u) ∧ ∀ p ∈ ps, ZIn w p.num p.Z k
section
variable {w w' : World} {A : Option Addr} {n k : Nat} {ps : List PV}
theorem PartsIn.nil (w : World) (A : Option Addr) (k : Nat) : PartsIn w A 0 [] k := ⟨rfl, fun h => absurd h (by omega), fun p hp => by cases hp⟩
theorem PartsIn.below (h : PartsIn w A n ps k) (hb : Below w.heap.size w w') : PartsIn w' A n ps k := by
  refine ⟨h.1, fun hn => ?_, fun p hp => (h.2.2 p hp).below hb⟩
  obtain ⟨b, o, e, hc⟩ := h.2.1 hn
  refine ⟨b, o, e, fun j u hu => ?_⟩
  have h1 := hc j u hu
  have hlt := World.block_lt_of_cell? w _ h1
  exact (World.cell?_of_block (w := w) (a := ⟨b, o + j, none⟩) (hb.block b hlt)).trans h1
theorem PartsIn.drew (h : PartsIn w A n ps k) : PartsIn w.drew A n ps k := h.below (bl_drewN w 1)
theorem PartsIn.mono {j : Nat} (h : PartsIn w A n ps k) (hj : k ≤ j) : PartsIn w A n ps j := ⟨h.1, h.2.1, fun p hp => (h.2.2 p hp).mono hj⟩
/-- Part i of the slice: its three cells, and what its coefficient reads as. -/
theorem PartsIn.at_ {i : Nat} (h : PartsIn w A n ps k) (hi : i < n) : ∃ b o p, A = some ⟨b, o, none⟩ ∧ ps[i]? = some p ∧ w.cell? ⟨b, o + 3 * i, none⟩ = some (.int .i64 p.v) ∧ w.cell? ⟨b, o + (3 * i + 1), none⟩ = some (.bool p.s) ∧ w.cell? ⟨b, o + (3 * i + 2), none⟩ = some (.slice p.B p.m p.d) ∧ ZIn w p.num p.Z k := by
  obtain ⟨b, o, e, hc⟩ := h.2.1 (by omega)
  have hl : i < ps.length := by rw [h.1]; exact hi
  obtain ⟨g0, g1, g2⟩ := flat_get ps i ps[i] (List.getElem?_eq_getElem hl)
  exact ⟨b, o, ps[i], e, List.getElem?_eq_getElem hl, hc _ _ g0, hc _ _ g1, hc _ _ g2, h.2.2 _ (List.getElem_mem hl)⟩
end
/-- What parts read as. -/
def lin (ps : List PV) : List (Int × Int) := ps.map PV.part
theorem lin_append (ps qs : List PV) : lin (ps ++ qs) = lin ps ++ lin qs := by simp [lin]
theorem lin_take_succ (ps : List PV) (i : Nat) (p : PV) (h : ps[i]? = some p) : lin (ps.take (i + 1)) = lin (ps.take i) ++ [p.part] := by
  unfold lin
  rw [List.take_add_one, h, List.map_append]
  rfl
/-- The term reads as the parts ps and the number K. -/
def TermIn (w : World) (v : Value) (ps : List PV) (K : Int) (k : Nat) : Prop := ∃ A n c s B m d, v = .agg #[.slice A n c, .bool s, .slice B m d] ∧ PartsIn w A n ps k ∧ n ≤ c ∧ c ≤ 9223372036854775807 ∧ ZIn w (.agg #[.bool s, .slice B m d]) K k
theorem TermIn.below {w w' : World} {v : Value} {ps : List PV} {K : Int} {k : Nat} (h : TermIn w v ps K k) (hb : Below w.heap.size w w') : TermIn w' v ps K k := by
  obtain ⟨A, n, c, s, B, m, d, e, h1, h2, h3, h4⟩ := h
  exact ⟨A, n, c, s, B, m, d, e, h1.below hb, h2, h3, h4.below hb⟩
/-- A slice of numbers (values of variables): two cells each. -/
structure IV where
  s : Bool
  B : Option Addr
  m : Nat
  d : Nat
  Z : Int
def IV.num (p : IV) : Value := .agg #[.bool p.s, .slice p.B p.m p.d]
def IV.cells (p : IV) : List Value := [.bool p.s, .slice p.B p.m p.d]
def flatI (ps : List IV) : List Value := (ps.map IV.cells).flatten
theorem flatI_cons (p : IV) (ps : List IV) : flatI (p :: ps) = p.cells ++ flatI ps := rfl
theorem flatI_length (ps : List IV) : (flatI ps).length = 2 * ps.length := by
  induction ps with
  | nil => rfl
  | cons p ps ih => rw [flatI_cons, List.length_append, ih, List.length_cons]; show 2 + _ = _; omega
theorem flatI_get (ps : List IV) (i : Nat) (p : IV) (h : ps[i]? = some p) : (flatI ps)[2 * i]? = some (.bool p.s) ∧ (flatI ps)[2 * i + 1]? = some (.slice p.B p.m p.d) := by
  induction ps generalizing i with
  | nil => simp at h
  | cons q ps ih =>
    rw [flatI_cons]
    cases i with
    | zero =>
      simp at h; subst h
      exact ⟨rfl, rfl⟩
    | succ i =>
      have h2 := ih i (by simpa using h)
      have hl : q.cells.length = 2 := rfl
      rw [show 2 * (i + 1) = q.cells.length + 2 * i by rw [hl]; omega, show q.cells.length + 2 * i + 1 = q.cells.length + (2 * i + 1) by omega, List.getElem?_append_right (by omega), List.getElem?_append_right (by omega)]
      simpa using h2
def ValsIn (w : World) (A : Option Addr) (n : Nat) (vs : List IV) (k : Nat) : Prop :=
  vs.length = n ∧ (0 < n → ∃ b o, A = some ⟨b, o, none⟩ ∧ ∀ j u, (flatI vs)[j]? = some u → w.cell? ⟨b, o + j, none⟩ = some u) ∧ ∀ p ∈ vs, ZIn w p.num p.Z k
theorem ValsIn.below {w w' : World} {A : Option Addr} {n k : Nat} {vs : List IV} (h : ValsIn w A n vs k) (hb : Below w.heap.size w w') : ValsIn w' A n vs k := by
  refine ⟨h.1, fun hn => ?_, fun p hp => (h.2.2 p hp).below hb⟩
  obtain ⟨b, o, e, hc⟩ := h.2.1 hn
  refine ⟨b, o, e, fun j u hu => ?_⟩
  have h1 := hc j u hu
  have hlt := World.block_lt_of_cell? w _ h1
  exact (World.cell?_of_block (w := w) (a := ⟨b, o + j, none⟩) (hb.block b hlt)).trans h1
theorem ValsIn.at_ {w : World} {A : Option Addr} {n k i : Nat} {vs : List IV} (h : ValsIn w A n vs k) (hi : i < n) : ∃ b o p, A = some ⟨b, o, none⟩ ∧ vs[i]? = some p ∧ w.cell? ⟨b, o + 2 * i, none⟩ = some (.bool p.s) ∧ w.cell? ⟨b, o + (2 * i + 1), none⟩ = some (.slice p.B p.m p.d) ∧ ZIn w p.num p.Z k := by
  obtain ⟨b, o, e, hc⟩ := h.2.1 (by omega)
  have hl : i < vs.length := by rw [h.1]; exact hi
  obtain ⟨g0, g1⟩ := flatI_get vs i vs[i] (List.getElem?_eq_getElem hl)
  exact ⟨b, o, vs[i], e, List.getElem?_eq_getElem hl, hc _ _ g0, hc _ _ g1, h.2.2 _ (List.getElem_mem hl)⟩
def nums (vs : List IV) : List Int := vs.map IV.Z
/-- A list of parts of the call's own, to which parts are appended: T is the element type's number. -/
def PLst (T : TypeId) (w : World) (base : Nat) (v : Value) (ps : List PV) (k : Nat) : Prop := w.ownsRow base T 3 v ps.length (flat ps) ∧ ∀ p ∈ ps, ZIn w p.num p.Z k
section
variable {T : TypeId} {w w' : World} {base k : Nat} {v : Value} {ps : List PV}
theorem PLst.nil : PLst T w base (.slice none 0 0) [] k := ⟨World.ownsRow_nil _ _ _ _, fun p hp => by cases hp⟩
theorem PLst.below (h : PLst T w base v ps k) (hb : Below w.heap.size w w') : PLst T w' base v ps k :=
  ⟨h.1.kept (row := none) ⟨hb.os, hb.tape, hb.output, hb.size, fun k hk _ => hb.block k hk⟩ (by
    by_cases h0 : v.ownBlock = none
    · exact .inl h0
    · exact .inr h0), fun p hp => (h.2 p hp).below hb⟩
theorem PLst.form (h : PLst T w base v ps k) : ∃ A c, v = .slice A ps.length c ∧ PartsIn w A ps.length ps k ∧ ps.length ≤ c ∧ c ≤ 9223372036854775807 := by
  obtain ⟨⟨hl, hc⟩, hz⟩ := h
  rcases hc with ⟨rfl, h0⟩ | ⟨g, cap, cur, rfl, hb, hh, h1, h2, h3, h4⟩
  · have hps : ps = [] := by
      cases ps with
      | nil => rfl
      | cons p ps => cases h0
    subst hps
    exact ⟨none, 0, rfl, PartsIn.nil _ _ _, by omega, by omega⟩
  · unfold maxLen at h2
    refine ⟨some ⟨g, 0, none⟩, cap, rfl, ⟨rfl, fun _ => ⟨g, 0, rfl, fun j u hu => ?_⟩, hz⟩, h1, h2⟩
    have hj : j < ps.length * 3 := by
      have := (List.getElem?_eq_some_iff.1 hu).1
      rw [flat_length] at this
      omega
    rw [Nat.zero_add, cell_of_row w g j _ _ _ hh, ← hu, ← h4, List.getElem?_take_of_lt hj]
    simp
end
end Go.Proofs.YtdeakieenppmiaaGreat
/- More of linear terms on plain numbers: the list of variables, merging a sorted list, sums over values, the order of terms. -/
namespace Go.Proofs.YtdeakieenppmiaaGreat.Tm

/-- The variables that count, rising. -/
def vars (ps : List (Int × Int)) : List Int := (norm ps).map Prod.fst
/-- Strictly rising numbers above b. -/
def Up : Int → List Int → Prop
  | _, [] => True
  | b, v :: vs => b < v ∧ Up v vs
theorem Up.mono {b b' : Int} {vs : List Int} (h : Up b vs) (hb : b' ≤ b) : Up b' vs := by
  cases vs with
  | nil => trivial
  | cons v vs => exact ⟨by have := h.1; omega, h.2⟩
theorem Up.gt {b : Int} {vs : List Int} (h : Up b vs) : ∀ v ∈ vs, b < v := by
  induction vs generalizing b with
  | nil => intro v hv; cases hv
  | cons u vs ih =>
    intro v hv
    rcases List.mem_cons.1 hv with rfl | hv
    · exact h.1
    · have := ih h.2 v hv; have := h.1; omega
theorem up_uniq {b b' : Int} {us vs : List Int} (h : Up b us) (h' : Up b' vs) (he : ∀ v, v ∈ us ↔ v ∈ vs) : us = vs := by
  induction us generalizing b b' vs with
  | nil =>
    cases vs with
    | nil => rfl
    | cons v vs => exact absurd ((he v).2 (List.mem_cons_self ..)) (by simp)
  | cons u us ih =>
    cases vs with
    | nil => exact absurd ((he u).1 (List.mem_cons_self ..)) (by simp)
    | cons v vs =>
      have huv : u = v := by
        have h1 := (he u).1 (List.mem_cons_self ..)
        have h2 := (he v).2 (List.mem_cons_self ..)
        rcases List.mem_cons.1 h1 with e | h1
        · exact e
        · rcases List.mem_cons.1 h2 with e | h2
          · exact e.symm
          · have := h'.2.gt u h1; have := h.2.gt v h2; omega
      subst huv
      rw [ih h.2 h'.2 (fun w => by
        have h1 := he w
        rw [List.mem_cons, List.mem_cons] at h1
        constructor
        · intro hw
          have := h.2.gt w hw
          rcases h1.1 (Or.inr hw) with e | h2
          · omega
          · exact h2
        · intro hw
          have := h'.2.gt w hw
          rcases h1.2 (Or.inr hw) with e | h2
          · omega
          · exact h2)]
theorem Rising.up {b : Int} {ps : List (Int × Int)} (h : Rising b ps) : Up b (ps.map Prod.fst) := by
  induction ps generalizing b with
  | nil => trivial
  | cons p ps ih => obtain ⟨u, c⟩ := p; exact ⟨h.1, ih h.2.2⟩
theorem Rising.mem_iff {b : Int} {ps : List (Int × Int)} (h : Rising b ps) (hb : -1 ≤ b) (v : Int) : v ∈ ps.map Prod.fst ↔ coef ps v ≠ 0 := by
  induction ps generalizing b with
  | nil => simp [coef]
  | cons p ps ih =>
    obtain ⟨u, c⟩ := p
    have h1 := h.1
    have h2 := h.2.1
    have h3 := h.2.2
    by_cases hv : u = v
    · subst hv
      rw [h.head (by omega)]
      simp [h2]
    · rw [List.map_cons, List.mem_cons, coef, if_neg (by omega), Int.zero_add, ← ih h3 (by omega)]
      constructor
      · rintro (e | e)
        · exact absurd e.symm hv
        · exact e
      · exact Or.inr
theorem vars_up (ps : List (Int × Int)) : Up (-1) (vars ps) := (norm_plain ps).up
theorem mem_vars (ps : List (Int × Int)) (v : Int) : v ∈ vars ps ↔ coef ps v ≠ 0 := by
  unfold vars
  rw [(norm_plain ps).mem_iff (Int.le_refl _), norm_coef]
/-- A plain list is its variables, each with what it counts. -/
theorem Rising.as_map {b : Int} {ps : List (Int × Int)} (h : Rising b ps) (hb : -1 ≤ b) : ps = (ps.map Prod.fst).map fun v => (v, coef ps v) := by
  induction ps generalizing b with
  | nil => rfl
  | cons p ps ih =>
    obtain ⟨u, c⟩ := p
    have h1 := h.1
    have h3 := h.2.2
    rw [List.map_cons, List.map_cons]
    have e1 : coef ((u, c) :: ps) u = c := h.head (by omega)
    show (u, c) :: ps = (u, coef ((u, c) :: ps) u) :: _
    rw [e1]
    congr 1
    have h4 := ih h3 (by omega)
    have h5 : ((ps.map Prod.fst).map fun v => (v, coef ((u, c) :: ps) v)) = ((ps.map Prod.fst).map fun v => (v, coef ps v)) := by
      apply List.map_congr_left
      intro v hv
      have := h3.up.gt v hv
      rw [coef, if_neg (by omega), Int.zero_add]
    rw [h5]
    exact h4
theorem norm_map (ps : List (Int × Int)) : norm ps = (vars ps).map fun v => (v, coef ps v) := by
  have h := (norm_plain ps).as_map (Int.le_refl _)
  unfold vars
  rw [h]
  simp only [List.map_map]
  apply List.map_congr_left
  intro p hp
  simp [norm_coef]

/-- A strictly rising list with one number more. -/
def insV (v : Int) : List Int → List Int
  | [] => [v]
  | u :: us => if v < u then v :: u :: us else if v = u then u :: us else u :: insV v us
theorem insV_up {b v : Int} {us : List Int} (h : Up b us) (hv : b < v) : Up b (insV v us) := by
  induction us generalizing b with
  | nil => exact ⟨hv, trivial⟩
  | cons u us ih =>
    unfold insV
    split
    · exact ⟨hv, by assumption, h.2⟩
    · split
      · exact h
      · exact ⟨h.1, ih h.2 (by omega)⟩
theorem mem_insV (v : Int) (us : List Int) (x : Int) : x ∈ insV v us ↔ x = v ∨ x ∈ us := by
  induction us with
  | nil => simp [insV]
  | cons u us ih =>
    unfold insV
    split
    · simp
    · split
      · rename_i h; subst h; simp
      · rw [List.mem_cons, ih, List.mem_cons]
        constructor
        · rintro (h | h | h)
          · exact Or.inr (Or.inl h)
          · exact Or.inl h
          · exact Or.inr (Or.inr h)
        · rintro (h | h | h)
          · exact Or.inr (Or.inl h)
          · exact Or.inl h
          · exact Or.inr (Or.inr h)
/-- What Vars of the definition goes through: the variables of a part's list that count in ps, each put into its place. -/
def vgo (ps : List (Int × Int)) : List (Int × Int) → List Int → List Int
  | [], acc => acc
  | (u, _) :: qs, acc => vgo ps qs (if coef ps u = 0 then acc else insV u acc)
theorem vgo_append (ps qs rs : List (Int × Int)) (acc : List Int) : vgo ps (qs ++ rs) acc = vgo ps rs (vgo ps qs acc) := by
  induction qs generalizing acc with
  | nil => rfl
  | cons q qs ih => obtain ⟨u, c⟩ := q; exact ih _
theorem vgo_up (ps : List (Int × Int)) : ∀ (qs : List (Int × Int)) (acc : List Int), Up (-1) acc → Up (-1) (vgo ps qs acc)
  | [], acc, h => h
  | (u, c) :: qs, acc, h => by
    unfold vgo
    split
    · exact vgo_up ps qs acc h
    · rename_i hc
      refine vgo_up ps qs _ (insV_up h ?_)
      rcases Int.lt_or_le u 0 with hu | hu
      · exact absurd (coef_neg ps u hu) hc
      · omega
theorem mem_vgo (ps : List (Int × Int)) : ∀ (qs : List (Int × Int)) (acc : List Int) (x : Int), x ∈ vgo ps qs acc ↔ x ∈ acc ∨ (x ∈ qs.map Prod.fst ∧ coef ps x ≠ 0)
  | [], acc, x => by simp [vgo]
  | (u, c) :: qs, acc, x => by
    unfold vgo
    rw [mem_vgo ps qs]
    split
    · rename_i h0
      constructor
      · rintro (h | ⟨h1, h2⟩)
        · exact Or.inl h
        · exact Or.inr ⟨List.mem_cons_of_mem _ h1, h2⟩
      · rintro (h | ⟨h1, h2⟩)
        · exact Or.inl h
        · rcases List.mem_cons.1 h1 with e | h1
          · have e' : x = u := e
            subst e'
            exact absurd h0 h2
          · exact Or.inr ⟨h1, h2⟩
    · rename_i h0
      rw [mem_insV]
      constructor
      · rintro ((h | h) | ⟨h1, h2⟩)
        · exact Or.inr ⟨h ▸ List.mem_cons_self .., h ▸ h0⟩
        · exact Or.inl h
        · exact Or.inr ⟨List.mem_cons_of_mem _ h1, h2⟩
      · rintro (h | ⟨h1, h2⟩)
        · exact Or.inl (Or.inr h)
        · rcases List.mem_cons.1 h1 with e | h1
          · exact Or.inl (Or.inl e)
          · exact Or.inr ⟨h1, h2⟩
theorem coef_ne_mem (ps : List (Int × Int)) (v : Int) (h : coef ps v ≠ 0) : v ∈ ps.map Prod.fst := by
  induction ps with
  | nil => exact absurd rfl h
  | cons p ps ih =>
    obtain ⟨u, c⟩ := p
    by_cases hu : u = v
    · subst hu; exact List.mem_cons_self ..
    · rw [coef, if_neg (by omega), Int.zero_add] at h
      exact List.mem_cons_of_mem _ (ih h)
theorem vgo_vars (ps : List (Int × Int)) : vgo ps ps [] = vars ps := by
  refine up_uniq (vgo_up ps ps [] trivial) (vars_up ps) (fun v => ?_)
  rw [mem_vgo, mem_vars]
  constructor
  · rintro (h | h)
    · cases h
    · exact h.2
  · intro h; exact Or.inr ⟨coef_ne_mem ps v h, h⟩

/-- One part onto a list of parts whose variables rise: joined with the last one where the variable is the same. -/
def push (r : List (Int × Int)) (v c : Int) : List (Int × Int) :=
  if v < 0 then r else match r.getLast? with
    | none => [(v, c)]
    | some (u, d) => if u = v then r.dropLast ++ [(u, d + c)] else r ++ [(v, c)]
def merge : List (Int × Int) → List (Int × Int) → List (Int × Int)
  | r, [] => r
  | r, (v, c) :: ps => merge (push r v c) ps
theorem merge_snoc (r ps : List (Int × Int)) (v c : Int) : merge r (ps ++ [(v, c)]) = push (merge r ps) v c := by
  induction ps generalizing r with
  | nil => rfl
  | cons p ps ih => obtain ⟨u, d⟩ := p; exact ih _
theorem push_coef (r : List (Int × Int)) (v c w : Int) : coef (push r v c) w = coef r w + coef [(v, c)] w := by
  unfold push
  split
  · rename_i h
    rw [show coef [(v, c)] w = 0 by simp [coef]; omega, Int.add_zero]
  · split
    · rename_i h
      rw [List.getLast?_eq_none_iff.1 h, coef_nil, Int.zero_add]
    · rename_i u d h
      obtain ⟨t, rfl⟩ : ∃ t, r = t ++ [(u, d)] := List.getLast?_eq_some_iff.1 h
      split
      · rename_i hu; subst hu
        rw [List.dropLast_concat, coef_append, coef_append]
        simp only [coef]
        split <;> omega
      · rw [coef_append]
theorem merge_coef (r ps : List (Int × Int)) (w : Int) : coef (merge r ps) w = coef r w + coef ps w := by
  induction ps generalizing r with
  | nil => simp [merge, coef]
  | cons p ps ih =>
    obtain ⟨v, c⟩ := p
    rw [merge, ih, push_coef, show ((v, c) :: ps) = [(v, c)] ++ ps from rfl, coef_append]
    omega
/-- Rising, zeros allowed. -/
def UpTo : List (Int × Int) → Int → Prop
  | r, b => Up (-1) (r.map Prod.fst) ∧ ∀ p ∈ r, p.1 ≤ b
theorem up_snoc {b v : Int} : ∀ {us : List Int}, Up b us → (∀ u ∈ us, u < v) → b < v → Up b (us ++ [v])
  | [], _, _, hb => ⟨hb, trivial⟩
  | u :: us, h, hv, _ => ⟨h.1, up_snoc h.2 (fun x hx => hv x (List.mem_cons_of_mem _ hx)) (hv u (List.mem_cons_self ..))⟩
theorem push_upTo {r : List (Int × Int)} {b v c : Int} (h : UpTo r b) (hv : b ≤ v) : UpTo (push r v c) v := by
  unfold push
  split
  · exact ⟨h.1, fun p hp => by have := h.2 p hp; omega⟩
  · split
    · exact ⟨⟨by omega, trivial⟩, fun p hp => by simp at hp; subst hp; exact Int.le_refl _⟩
    · rename_i u d hl
      obtain ⟨t, rfl⟩ : ∃ t, r = t ++ [(u, d)] := List.getLast?_eq_some_iff.1 hl
      split
      · rename_i hu; subst hu
        refine ⟨?_, fun p hp => ?_⟩
        · have := h.1
          simpa using this
        · rw [List.dropLast_concat] at hp
          rcases List.mem_append.1 hp with hp | hp
          · have := h.2 p (List.mem_append_left _ hp); omega
          · simp at hp; subst hp; exact Int.le_refl _
      · rename_i hu
        refine ⟨?_, fun p hp => ?_⟩
        · rw [List.map_append]
          refine up_snoc h.1 (fun x hx => ?_) (by omega)
          obtain ⟨p, hp, rfl⟩ := List.mem_map.1 hx
          have h1 := h.2 p hp
          have h2 := h.2 (u, d) (by simp)
          show p.1 < v
          rcases Int.lt_or_le p.1 v with h3 | h3
          · exact h3
          · exfalso
            have h4 : p.1 = v := by omega
            have h6 : b = v := by omega
            have h7 : u < v := by have : u ≤ b := h2; omega
            have h8 := h.1
            rw [List.map_append] at h8
            have h9 : ∀ (us : List Int) (b0 : Int), Up b0 (us ++ [u]) → ∀ x ∈ us, x < u := by
              intro us
              induction us with
              | nil => intro _ _ x hx; cases hx
              | cons y us ih =>
                intro b0 hU x hx
                rcases List.mem_cons.1 hx with rfl | hx
                · exact hU.2.gt u (by simp)
                · exact ih y hU.2 x hx
            rcases List.mem_append.1 hp with hp | hp
            · have := h9 _ _ h8 p.1 (List.mem_map_of_mem hp)
              omega
            · simp at hp; subst hp; omega
        · rcases List.mem_append.1 hp with hp | hp
          · have := h.2 p hp; omega
          · simp at hp; subst hp; exact Int.le_refl _
/-- Sorted by variable. -/
def Sorted : Int → List (Int × Int) → Prop
  | _, [] => True
  | b, (v, _) :: ps => b ≤ v ∧ Sorted v ps
theorem merge_upTo {r : List (Int × Int)} {b : Int} : ∀ {ps : List (Int × Int)}, UpTo r b → Sorted b ps → Up (-1) ((merge r ps).map Prod.fst)
  | [], h, _ => h.1
  | (v, c) :: ps, h, hs => by
    rw [merge]
    exact merge_upTo (push_upTo h hs.1) hs.2
def keepNZ (ps : List (Int × Int)) : List (Int × Int) := ps.filter fun p => decide (p.2 ≠ 0)
theorem keepNZ_coef (ps : List (Int × Int)) (v : Int) : coef (keepNZ ps) v = coef ps v := by
  induction ps with
  | nil => rfl
  | cons p ps ih =>
    obtain ⟨u, c⟩ := p
    unfold keepNZ at *
    rw [List.filter_cons]
    split
    · rw [coef, coef, ih]
    · rename_i h
      have h0 : c = 0 := by simpa using h
      rw [coef, ih, h0]
      simp
theorem keepNZ_rising {b : Int} {ps : List (Int × Int)} (h : Up b (ps.map Prod.fst)) : Rising b (keepNZ ps) := by
  induction ps generalizing b with
  | nil => trivial
  | cons p ps ih =>
    obtain ⟨u, c⟩ := p
    unfold keepNZ at *
    rw [List.filter_cons]
    split
    · rename_i h0
      exact ⟨h.1, by simpa using h0, ih h.2⟩
    · exact (ih h.2).mono (by have := h.1; omega)
/-- What plain computes. -/
theorem merged {ps qs : List (Int × Int)} {b : Int} (hp : qs.Perm ps) (hs : Sorted b qs) : keepNZ (merge [] qs) = norm ps := by
  refine norm_of (keepNZ_rising (merge_upTo (b := b) ⟨trivial, fun p hp => by cases hp⟩ hs)) (fun v => ?_)
  rw [keepNZ_coef, merge_coef, coef_nil, Int.zero_add, coef_perm hp]

/-- Sums over the numbers below n. -/
def sumv (f : Nat → Int) : Nat → Int
  | 0 => 0
  | n + 1 => sumv f n + f n
theorem sumv_add (f g : Nat → Int) (n : Nat) : sumv (fun i => f i + g i) n = sumv f n + sumv g n := by
  induction n with
  | zero => rfl
  | succ n ih => rw [sumv, sumv, sumv, ih]; omega
theorem sumv_zero (n : Nat) : sumv (fun _ => 0) n = 0 := by
  induction n with
  | zero => rfl
  | succ n ih => rw [sumv, ih]; rfl
theorem sumv_congr {f g : Nat → Int} {n : Nat} (h : ∀ i, i < n → f i = g i) : sumv f n = sumv g n := by
  induction n with
  | zero => rfl
  | succ n ih => rw [sumv, sumv, ih (fun i hi => h i (by omega)), h n (by omega)]
theorem sumv_one (k : Nat) (x : Int) (n : Nat) : sumv (fun i => if k = i then x else 0) n = if k < n then x else 0 := by
  induction n with
  | zero => simp [sumv]
  | succ n ih =>
    rw [sumv, ih]
    by_cases h1 : k < n
    · rw [if_pos h1, if_neg (by omega), if_pos (by omega), Int.add_zero]
    · by_cases h2 : k = n
      · rw [if_neg h1, if_pos h2, if_pos (by omega), Int.zero_add]
      · rw [if_neg h1, if_neg h2, if_neg (by omega)]; rfl
theorem val_sumv (vals : List Int) (ps : List (Int × Int)) : val vals ps = sumv (fun i => coef ps i * vals.getD i 0) vals.length := by
  induction ps with
  | nil =>
    rw [val, ← sumv_zero vals.length]
    exact sumv_congr (fun i _ => by simp [coef])
  | cons p ps ih =>
    obtain ⟨u, c⟩ := p
    rw [val, ih]
    have e : sumv (fun i => coef ((u, c) :: ps) i * vals.getD i 0) vals.length = sumv (fun i => (if u = (i : Int) then c * vals.getD i 0 else 0) + coef ps i * vals.getD i 0) vals.length := by
      refine sumv_congr (fun i _ => ?_)
      rw [coef, Int.add_mul]
      by_cases h : u = (i : Int)
      · rw [if_pos ⟨h, by omega⟩, if_pos h]
      · rw [if_neg (fun hh => h hh.1), if_neg h, Int.zero_mul]
    rw [e, sumv_add]
    congr 1
    by_cases hu : 0 ≤ u
    · obtain ⟨k, rfl⟩ : ∃ k : Nat, u = (k : Int) := ⟨u.toNat, by omega⟩
      rw [if_pos hu, Int.toNat_natCast]
      have e2 : sumv (fun i => if (k : Int) = (i : Int) then c * vals.getD i 0 else 0) vals.length = sumv (fun i => if k = i then c * vals.getD k 0 else 0) vals.length := by
        refine sumv_congr (fun i _ => ?_)
        by_cases h : k = i
        · subst h; simp
        · rw [if_neg (by omega), if_neg h]
      rw [e2, sumv_one]
      split
      · rfl
      · rename_i h
        rw [List.getD_eq_getElem?_getD, List.getElem?_eq_none (by omega)]
        simp
    · rw [if_neg hu]
      refine Eq.trans (sumv_zero vals.length).symm ?_
      exact sumv_congr (fun i _ => by rw [if_neg (by omega)])

/-- The order of numbers, and of plain lists. -/
def cmpZ (a b : Int) : Int := if a < b then -1 else if b < a then 1 else 0
def cmpL : List (Int × Int) → List (Int × Int) → Int
  | [], [] => 0
  | [], _ :: _ => -1
  | _ :: _, [] => 1
  | (u, c) :: ps, (v, d) :: qs => if cmpZ u v ≠ 0 then cmpZ u v else if cmpZ c d ≠ 0 then cmpZ c d else cmpL ps qs
def orZ (a b : Int) : Int := if a ≠ 0 then a else b
theorem cmpZ_zero {a b : Int} : cmpZ a b = 0 ↔ a = b := by
  unfold cmpZ; split
  · omega
  · split <;> omega
theorem cmpZ_neg (a b : Int) : cmpZ b a = - cmpZ a b := by
  unfold cmpZ
  rcases Int.lt_trichotomy a b with h | h | h
  · rw [if_neg (by omega), if_pos h, if_pos h]; rfl
  · subst h; simp
  · rw [if_pos h, if_neg (by omega), if_pos h]
theorem cmpL_zero : ∀ {ps qs : List (Int × Int)}, cmpL ps qs = 0 ↔ ps = qs
  | [], [] => by simp [cmpL]
  | [], _ :: _ => by simp [cmpL]
  | _ :: _, [] => by simp [cmpL]
  | (u, c) :: ps, (v, d) :: qs => by
    unfold cmpL
    by_cases h1 : cmpZ u v = 0
    · rw [if_neg (by simp [h1])]
      by_cases h2 : cmpZ c d = 0
      · rw [if_neg (by simp [h2]), cmpL_zero, cmpZ_zero.1 h1, cmpZ_zero.1 h2]
        simp
      · rw [if_pos h2]
        constructor
        · intro h; exact absurd h h2
        · intro h; injection h with h _; injection h with _ h; exact absurd (cmpZ_zero.2 h) h2
    · rw [if_pos h1]
      constructor
      · intro h; exact absurd h h1
      · intro h; injection h with h _; injection h with h _; exact absurd (cmpZ_zero.2 h) h1
theorem cmpL_neg : ∀ (ps qs : List (Int × Int)), cmpL qs ps = - cmpL ps qs
  | [], [] => rfl
  | [], _ :: _ => rfl
  | _ :: _, [] => rfl
  | (u, c) :: ps, (v, d) :: qs => by
    unfold cmpL
    rw [cmpZ_neg u v, cmpZ_neg c d, cmpL_neg ps qs]
    by_cases h1 : cmpZ u v = 0
    · by_cases h2 : cmpZ c d = 0
      · simp [h1, h2]
      · simp [h1, h2]
    · simp [h1]
/-- The order of terms. -/
def cmpT (ps qs : List (Int × Int)) (K M : Int) : Int := orZ (cmpL (norm ps) (norm qs)) (cmpZ K M)

theorem rising_scale {n : Int} (hn : n ≠ 0) {b : Int} {ps : List (Int × Int)} (h : Rising b ps) : Rising b (ps.map fun p => (p.1, n * p.2)) := by
  induction ps generalizing b with
  | nil => trivial
  | cons p ps ih =>
    obtain ⟨u, c⟩ := p
    exact ⟨h.1, Int.mul_ne_zero hn h.2.1, ih h.2.2⟩
theorem norm_scale {n : Int} (hn : n ≠ 0) (ps : List (Int × Int)) : norm (ps.map fun p => (p.1, n * p.2)) = (norm ps).map fun p => (p.1, n * p.2) :=
  (norm_of (rising_scale hn (norm_plain ps)) (fun v => by rw [coef_scale, coef_scale, norm_coef])).symm
theorem norm_zero (ps : List (Int × Int)) (h : ∀ v, coef ps v = 0) : norm ps = [] := (norm_of (qs := []) trivial (fun v => (h v).symm)).symm
theorem norm_norm (ps : List (Int × Int)) : norm (norm ps) = norm ps := norm_id (norm_plain ps)
theorem norm_append_congr {ps ps' qs qs' : List (Int × Int)} (h : ∀ v, coef ps v = coef ps' v) (h' : ∀ v, coef qs v = coef qs' v) : norm (ps ++ qs) = norm (ps' ++ qs') :=
  norm_same (fun v => by rw [coef_append, coef_append, h, h'])
end Go.Proofs.YtdeakieenppmiaaGreat.Tm
