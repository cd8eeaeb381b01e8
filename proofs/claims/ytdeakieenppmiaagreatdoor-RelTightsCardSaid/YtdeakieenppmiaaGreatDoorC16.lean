/- Texts of one seat, put together: TermMathB Box. -/
import Derived.Test.YtdeakieenppmiaaGreatDoorC15
import Derived.Test.YtdeakieenppmiaaGreatDoorC14
set_option linter.unusedVariables false
set_option linter.unusedSimpArgs false
set_option maxRecDepth 100000
set_option maxHeartbeats 16000000
/- More of linear terms on plain numbers: the list of variables, merging a sorted list, sums over values, the order of terms. -/
namespace Go.Proofs.YtdeakieenppmiaaGreatDoor.Tm

/-- The variables that count, rising. -/
def vars (ps : List (Int × Int)) : List Int := (norm ps).map Prod.fst
/-- Strictly rising numbers above b. -/
def Up : Int → List Int → Prop
 | _, [] => True
 | b, v :: vs => b < v ∧ Up v vs
theorem Up.gt {b : Int} {vs : List Int} (h : Up b vs) : ∀ v ∈ vs, b < v := by
 induction vs generalizing b with
 | nil => intro v hv; cases hv
 | cons u vs ih =>
  intro v hv
  rcases List.mem_cons.1 hv with rfl | hv
  · exact h.1
  · have := ih h.2 v hv; have := h.1; omega
theorem up_uniq {b b' : Int} {us vs : List Int} (h : Up b us) (h' : Up b' vs) (he : ∀ v, v ∈ us ↔ v ∈ vs) : us = vs := by
 induction us generalizing b b' vs with
 | nil =>
  cases vs with
  | nil => rfl
  | cons v vs => exact absurd ((he v).2 (List.mem_cons_self ..)) (by simp)
 | cons u us ih =>
  cases vs with
  | nil => exact absurd ((he u).1 (List.mem_cons_self ..)) (by simp)
  | cons v vs =>
   have huv : u = v := by
    have h1 := (he u).1 (List.mem_cons_self ..)
    have h2 := (he v).2 (List.mem_cons_self ..)
    rcases List.mem_cons.1 h1 with e | h1
    · exact e
    · rcases List.mem_cons.1 h2 with e | h2
      · exact e.symm
      · have := h'.2.gt u h1; have := h.2.gt v h2; omega
   subst huv
   rw [ih h.2 h'.2 (fun w => by
    have h1 := he w
    rw [List.mem_cons, List.mem_cons] at h1
    constructor
    · intro hw
      have := h.2.gt w hw
      rcases h1.1 (Or.inr hw) with e | h2
      · omega
      · exact h2
    · intro hw
      have := h'.2.gt w hw
      rcases h1.2 (Or.inr hw) with e | h2
      · omega
      · exact h2)]
theorem Rising.up {b : Int} {ps : List (Int × Int)} (h : Rising b ps) : Up b (ps.map Prod.fst) := by
 induction ps generalizing b with
 | nil => trivial
 | cons p ps ih => obtain ⟨u, c⟩ := p; exact ⟨h.1, ih h.2.2⟩
theorem Rising.mem_iff {b : Int} {ps : List (Int × Int)} (h : Rising b ps) (hb : -1 ≤ b) (v : Int) : v ∈ ps.map Prod.fst ↔ coef ps v ≠ 0 := by
 induction ps generalizing b with
 | nil => simp [coef]
 | cons p ps ih =>
  obtain ⟨u, c⟩ := p
  have h1 := h.1
  have h2 := h.2.1
  have h3 := h.2.2
  by_cases hv : u = v
  · subst hv
    rw [h.head (by omega)]
    simp [h2]
  · rw [List.map_cons, List.mem_cons, coef, if_neg (by omega), Int.zero_add, ← ih h3 (by omega)]
    constructor
    · rintro (e | e)
      · exact absurd e.symm hv
      · exact e
    · exact Or.inr
theorem vars_up (ps : List (Int × Int)) : Up (-1) (vars ps) := (norm_plain ps).up
theorem mem_vars (ps : List (Int × Int)) (v : Int) : v ∈ vars ps ↔ coef ps v ≠ 0 := by
 unfold vars
 rw [(norm_plain ps).mem_iff (Int.le_refl _), norm_coef]
/-- A plain list is its variables, each with what it counts. -/
theorem Rising.as_map {b : Int} {ps : List (Int × Int)} (h : Rising b ps) (hb : -1 ≤ b) : ps = (ps.map Prod.fst).map fun v => (v, coef ps v) := by
 induction ps generalizing b with
 | nil => rfl
 | cons p ps ih =>
  obtain ⟨u, c⟩ := p
  have h1 := h.1
  have h3 := h.2.2
  rw [List.map_cons, List.map_cons]
  have e1 : coef ((u, c) :: ps) u = c := h.head (by omega)
  show (u, c) :: ps = (u, coef ((u, c) :: ps) u) :: _
  rw [e1]
  congr 1
  have h4 := ih h3 (by omega)
  have h5 : ((ps.map Prod.fst).map fun v => (v, coef ((u, c) :: ps) v)) = ((ps.map Prod.fst).map fun v => (v, coef ps v)) := by
   apply List.map_congr_left
   intro v hv
   have := h3.up.gt v hv
   rw [coef, if_neg (by omega), Int.zero_add]
  rw [h5]
  exact h4
theorem norm_map (ps : List (Int × Int)) : norm ps = (vars ps).map fun v => (v, coef ps v) := by
 have h := (norm_plain ps).as_map (Int.le_refl _)
 unfold vars
 rw [h]
 simp only [List.map_map]
 apply List.map_congr_left
 intro p hp
 simp [norm_coef]

/-- A strictly rising list with one number more. -/
def insV (v : Int) : List Int → List Int
 | [] => [v]
 | u :: us => if v < u then v :: u :: us else if v = u then u :: us else u :: insV v us
theorem insV_up {b v : Int} {us : List Int} (h : Up b us) (hv : b < v) : Up b (insV v us) := by
 induction us generalizing b with
 | nil => exact ⟨hv, trivial⟩
 | cons u us ih =>
  unfold insV
  split
  · exact ⟨hv, by assumption, h.2⟩
  · split
    · exact h
    · exact ⟨h.1, ih h.2 (by omega)⟩
theorem mem_insV (v : Int) (us : List Int) (x : Int) : x ∈ insV v us ↔ x = v ∨ x ∈ us := by
 induction us with
 | nil => simp [insV]
 | cons u us ih =>
  unfold insV
  split
  · simp
  · split
    · rename_i h; subst h; simp
    · rw [List.mem_cons, ih, List.mem_cons]
      constructor
      · rintro (h | h | h)
        · exact Or.inr (Or.inl h)
        · exact Or.inl h
        · exact Or.inr (Or.inr h)
      · rintro (h | h | h)
        · exact Or.inr (Or.inl h)
        · exact Or.inl h
        · exact Or.inr (Or.inr h)
/-- What Vars of the definition goes through: the variables of a part's list that count in ps, each put into its place. -/
def vgo (ps : List (Int × Int)) : List (Int × Int) → List Int → List Int
 | [], acc => acc
 | (u, _) :: qs, acc => vgo ps qs (if coef ps u = 0 then acc else insV u acc)
theorem vgo_append (ps qs rs : List (Int × Int)) (acc : List Int) : vgo ps (qs ++ rs) acc = vgo ps rs (vgo ps qs acc) := by
 induction qs generalizing acc with
 | nil => rfl
 | cons q qs ih => obtain ⟨u, c⟩ := q; exact ih _
theorem vgo_up (ps : List (Int × Int)) : ∀ (qs : List (Int × Int)) (acc : List Int), Up (-1) acc → Up (-1) (vgo ps qs acc)
 | [], acc, h => h
 | (u, c) :: qs, acc, h => by
  unfold vgo
  split
  · exact vgo_up ps qs acc h
  · rename_i hc
    refine vgo_up ps qs _ (insV_up h ?_)
    rcases Int.lt_or_le u 0 with hu | hu
    · exact absurd (coef_neg ps u hu) hc
    · omega
theorem mem_vgo (ps : List (Int × Int)) : ∀ (qs : List (Int × Int)) (acc : List Int) (x : Int), x ∈ vgo ps qs acc ↔ x ∈ acc ∨ (x ∈ qs.map Prod.fst ∧ coef ps x ≠ 0)
 | [], acc, x => by simp [vgo]
 | (u, c) :: qs, acc, x => by
  unfold vgo
  rw [mem_vgo ps qs]
  split
  · rename_i h0
    constructor
    · rintro (h | ⟨h1, h2⟩)
      · exact Or.inl h
      · exact Or.inr ⟨List.mem_cons_of_mem _ h1, h2⟩
    · rintro (h | ⟨h1, h2⟩)
      · exact Or.inl h
      · rcases List.mem_cons.1 h1 with e | h1
        · have e' : x = u := e
          subst e'
          exact absurd h0 h2
        · exact Or.inr ⟨h1, h2⟩
  · rename_i h0
    rw [mem_insV]
    constructor
    · rintro ((h | h) | ⟨h1, h2⟩)
      · exact Or.inr ⟨h ▸ List.mem_cons_self .., h ▸ h0⟩
      · exact Or.inl h
      · exact Or.inr ⟨List.mem_cons_of_mem _ h1, h2⟩
    · rintro (h | ⟨h1, h2⟩)
      · exact Or.inl (Or.inr h)
      · rcases List.mem_cons.1 h1 with e | h1
        · exact Or.inl (Or.inl e)
        · exact Or.inr ⟨h1, h2⟩
theorem coef_ne_mem (ps : List (Int × Int)) (v : Int) (h : coef ps v ≠ 0) : v ∈ ps.map Prod.fst := by
 induction ps with
 | nil => exact absurd rfl h
 | cons p ps ih =>
  obtain ⟨u, c⟩ := p
  by_cases hu : u = v
  · subst hu; exact List.mem_cons_self ..
  · rw [coef, if_neg (by omega), Int.zero_add] at h
    exact List.mem_cons_of_mem _ (ih h)
theorem vgo_vars (ps : List (Int × Int)) : vgo ps ps [] = vars ps := by
 refine up_uniq (vgo_up ps ps [] trivial) (vars_up ps) (fun v => ?_)
 rw [mem_vgo, mem_vars]
 constructor
 · rintro (h | h)
   · cases h
   · exact h.2
 · intro h; exact Or.inr ⟨coef_ne_mem ps v h, h⟩

/-- One part onto a list of parts whose variables rise: joined with the last one where the variable is the same. -/
def push (r : List (Int × Int)) (v c : Int) : List (Int × Int) :=
 if v < 0 then r else match r.getLast? with
  | none => [(v, c)]
  | some (u, d) => if u = v then r.dropLast ++ [(u, d + c)] else r ++ [(v, c)]
def merge : List (Int × Int) → List (Int × Int) → List (Int × Int)
 | r, [] => r
 | r, (v, c) :: ps => merge (push r v c) ps
theorem merge_snoc (r ps : List (Int × Int)) (v c : Int) : merge r (ps ++ [(v, c)]) = push (merge r ps) v c := by
 induction ps generalizing r with
 | nil => rfl
 | cons p ps ih => obtain ⟨u, d⟩ := p; exact ih _
theorem push_coef (r : List (Int × Int)) (v c w : Int) : coef (push r v c) w = coef r w + coef [(v, c)] w := by
 unfold push
 split
 · rename_i h
   rw [show coef [(v, c)] w = 0 by simp [coef]; omega, Int.add_zero]
 · split
   · rename_i h
     rw [List.getLast?_eq_none_iff.1 h, coef_nil, Int.zero_add]
   · rename_i u d h
     obtain ⟨t, rfl⟩ : ∃ t, r = t ++ [(u, d)] := List.getLast?_eq_some_iff.1 h
     split
     · rename_i hu; subst hu
       rw [List.dropLast_concat, coef_append, coef_append]
       simp only [coef]
       split <;> omega
     · rw [coef_append]
theorem merge_coef (r ps : List (Int × Int)) (w : Int) : coef (merge r ps) w = coef r w + coef ps w := by
 induction ps generalizing r with
 | nil => simp [merge, coef]
 | cons p ps ih =>
  obtain ⟨v, c⟩ := p
  rw [merge, ih, push_coef, show ((v, c) :: ps) = [(v, c)] ++ ps from rfl, coef_append]
  omega
/-- Rising, zeros allowed. -/
def UpTo : List (Int × Int) → Int → Prop
 | r, b => Up (-1) (r.map Prod.fst) ∧ ∀ p ∈ r, p.1 ≤ b
theorem up_snoc {b v : Int} : ∀ {us : List Int}, Up b us → (∀ u ∈ us, u < v) → b < v → Up b (us ++ [v])
 | [], _, _, hb => ⟨hb, trivial⟩
 | u :: us, h, hv, _ => ⟨h.1, up_snoc h.2 (fun x hx => hv x (List.mem_cons_of_mem _ hx)) (hv u (List.mem_cons_self ..))⟩
theorem push_upTo {r : List (Int × Int)} {b v c : Int} (h : UpTo r b) (hv : b ≤ v) : UpTo (push r v c) v := by
 unfold push
 split
 · exact ⟨h.1, fun p hp => by have := h.2 p hp; omega⟩
 · split
   · exact ⟨⟨by omega, trivial⟩, fun p hp => by simp at hp; subst hp; exact Int.le_refl _⟩
   · rename_i u d hl
     obtain ⟨t, rfl⟩ : ∃ t, r = t ++ [(u, d)] := List.getLast?_eq_some_iff.1 hl
     split
     · rename_i hu; subst hu
       refine ⟨?_, fun p hp => ?_⟩
       · have := h.1
         simpa using this
       · rw [List.dropLast_concat] at hp
         rcases List.mem_append.1 hp with hp | hp
         · have := h.2 p (List.mem_append_left _ hp); omega
         · simp at hp; subst hp; exact Int.le_refl _
     · rename_i hu
       refine ⟨?_, fun p hp => ?_⟩
       · rw [List.map_append]
         refine up_snoc h.1 (fun x hx => ?_) (by omega)
         obtain ⟨p, hp, rfl⟩ := List.mem_map.1 hx
         have h1 := h.2 p hp
         have h2 := h.2 (u, d) (by simp)
         show p.1 < v
         rcases Int.lt_or_le p.1 v with h3 | h3
         · exact h3
         · exfalso
           have h4 : p.1 = v := by omega
           have h6 : b = v := by omega
           have h7 : u < v := by have : u ≤ b := h2; omega
           have h8 := h.1
           rw [List.map_append] at h8
           have h9 : ∀ (us : List Int) (b0 : Int), Up b0 (us ++ [u]) → ∀ x ∈ us, x < u := by
             intro us
             induction us with
             | nil => intro _ _ x hx; cases hx
             | cons y us ih =>
              intro b0 hU x hx
              rcases List.mem_cons.1 hx with rfl | hx
              · exact hU.2.gt u (by simp)
              · exact ih y hU.2 x hx
           rcases List.mem_append.1 hp with hp | hp
           · have := h9 _ _ h8 p.1 (List.mem_map_of_mem hp)
             omega
           · simp at hp; subst hp; omega
       · rcases List.mem_append.1 hp with hp | hp
         · have := h.2 p hp; omega
         · simp at hp; subst hp; exact Int.le_refl _
/-- Sorted by variable. -/
def Sorted : Int → List (Int × Int) → Prop
 | _, [] => True
 | b, (v, _) :: ps => b ≤ v ∧ Sorted v ps
theorem merge_upTo {r : List (Int × Int)} {b : Int} : ∀ {ps : List (Int × Int)}, UpTo r b → Sorted b ps → Up (-1) ((merge r ps).map Prod.fst)
 | [], h, _ => h.1
 | (v, c) :: ps, h, hs => by
  rw [merge]
  exact merge_upTo (push_upTo h hs.1) hs.2
def keepNZ (ps : List (Int × Int)) : List (Int × Int) := ps.filter fun p => decide (p.2 ≠ 0)
theorem keepNZ_coef (ps : List (Int × Int)) (v : Int) : coef (keepNZ ps) v = coef ps v := by
 induction ps with
 | nil => rfl
 | cons p ps ih =>
  obtain ⟨u, c⟩ := p
  unfold keepNZ at *
  rw [List.filter_cons]
  split
  · rw [coef, coef, ih]
  · rename_i h
    have h0 : c = 0 := by simpa using h
    rw [coef, ih, h0]
    simp
theorem keepNZ_rising {b : Int} {ps : List (Int × Int)} (h : Up b (ps.map Prod.fst)) : Rising b (keepNZ ps) := by
 induction ps generalizing b with
 | nil => trivial
 | cons p ps ih =>
  obtain ⟨u, c⟩ := p
  unfold keepNZ at *
  rw [List.filter_cons]
  split
  · rename_i h0
    exact ⟨h.1, by simpa using h0, ih h.2⟩
  · exact (ih h.2).mono (by have := h.1; omega)
/-- What plain computes. -/
theorem merged {ps qs : List (Int × Int)} {b : Int} (hp : qs.Perm ps) (hs : Sorted b qs) : keepNZ (merge [] qs) = norm ps := by
 refine norm_of (keepNZ_rising (merge_upTo (b := b) ⟨trivial, fun p hp => by cases hp⟩ hs)) (fun v => ?_)
 rw [keepNZ_coef, merge_coef, coef_nil, Int.zero_add, coef_perm hp]

/-- Sums over the numbers below n. -/
def sumv (f : Nat → Int) : Nat → Int
 | 0 => 0
 | n + 1 => sumv f n + f n
theorem sumv_add (f g : Nat → Int) (n : Nat) : sumv (fun i => f i + g i) n = sumv f n + sumv g n := by
 induction n with
 | zero => rfl
 | succ n ih => rw [sumv, sumv, sumv, ih]; omega
theorem sumv_zero (n : Nat) : sumv (fun _ => 0) n = 0 := by
 induction n with
 | zero => rfl
 | succ n ih => rw [sumv, ih]; rfl
theorem sumv_congr {f g : Nat → Int} {n : Nat} (h : ∀ i, i < n → f i = g i) : sumv f n = sumv g n := by
 induction n with
 | zero => rfl
 | succ n ih => rw [sumv, sumv, ih (fun i hi => h i (by omega)), h n (by omega)]
theorem sumv_one (k : Nat) (x : Int) (n : Nat) : sumv (fun i => if k = i then x else 0) n = if k < n then x else 0 := by
 induction n with
 | zero => simp [sumv]
 | succ n ih =>
  rw [sumv, ih]
  by_cases h1 : k < n
  · rw [if_pos h1, if_neg (by omega), if_pos (by omega), Int.add_zero]
  · by_cases h2 : k = n
    · rw [if_neg h1, if_pos h2, if_pos (by omega), Int.zero_add]
    · rw [if_neg h1, if_neg h2, if_neg (by omega)]; rfl
theorem val_sumv (vals : List Int) (ps : List (Int × Int)) : val vals ps = sumv (fun i => coef ps i * vals.getD i 0) vals.length := by
 induction ps with
 | nil =>
  rw [val, ← sumv_zero vals.length]
  exact sumv_congr (fun i _ => by simp [coef])
 | cons p ps ih =>
  obtain ⟨u, c⟩ := p
  rw [val, ih]
  have e : sumv (fun i => coef ((u, c) :: ps) i * vals.getD i 0) vals.length = sumv (fun i => (if u = (i : Int) then c * vals.getD i 0 else 0) + coef ps i * vals.getD i 0) vals.length := by
    refine sumv_congr (fun i _ => ?_)
    rw [coef, Int.add_mul]
    by_cases h : u = (i : Int)
    · rw [if_pos ⟨h, by omega⟩, if_pos h]
    · rw [if_neg (fun hh => h hh.1), if_neg h, Int.zero_mul]
  rw [e, sumv_add]
  congr 1
  by_cases hu : 0 ≤ u
  · obtain ⟨k, rfl⟩ : ∃ k : Nat, u = (k : Int) := ⟨u.toNat, by omega⟩
    rw [if_pos hu, Int.toNat_natCast]
    have e2 : sumv (fun i => if (k : Int) = (i : Int) then c * vals.getD i 0 else 0) vals.length = sumv (fun i => if k = i then c * vals.getD k 0 else 0) vals.length := by
      refine sumv_congr (fun i _ => ?_)
      by_cases h : k = i
      · subst h; simp
      · rw [if_neg (by omega), if_neg h]
    rw [e2, sumv_one]
    split
    · rfl
    · rename_i h
      rw [List.getD_eq_getElem?_getD, List.getElem?_eq_none (by omega)]
      simp
  · rw [if_neg hu]
    refine Eq.trans (sumv_zero vals.length).symm ?_
    exact sumv_congr (fun i _ => by rw [if_neg (by omega)])

/-- The order of numbers, and of plain lists. -/
def cmpZ (a b : Int) : Int := if a < b then -1 else if b < a then 1 else 0
def cmpL : List (Int × Int) → List (Int × Int) → Int
 | [], [] => 0
 | [], _ :: _ => -1
 | _ :: _, [] => 1
 | (u, c) :: ps, (v, d) :: qs => if cmpZ u v ≠ 0 then cmpZ u v else if cmpZ c d ≠ 0 then cmpZ c d else cmpL ps qs
def orZ (a b : Int) : Int := if a ≠ 0 then a else b
/-- The order of terms. -/
def cmpT (ps qs : List (Int × Int)) (K M : Int) : Int := orZ (cmpL (norm ps) (norm qs)) (cmpZ K M)

theorem rising_scale {n : Int} (hn : n ≠ 0) {b : Int} {ps : List (Int × Int)} (h : Rising b ps) : Rising b (ps.map fun p => (p.1, n * p.2)) := by
 induction ps generalizing b with
 | nil => trivial
 | cons p ps ih =>
  obtain ⟨u, c⟩ := p
  exact ⟨h.1, Int.mul_ne_zero hn h.2.1, ih h.2.2⟩
theorem norm_scale {n : Int} (hn : n ≠ 0) (ps : List (Int × Int)) : norm (ps.map fun p => (p.1, n * p.2)) = (norm ps).map fun p => (p.1, n * p.2) :=
 (norm_of (rising_scale hn (norm_plain ps)) (fun v => by rw [coef_scale, coef_scale, norm_coef])).symm
theorem norm_zero (ps : List (Int × Int)) (h : ∀ v, coef ps v = 0) : norm ps = [] := (norm_of (qs := []) trivial (fun v => (h v).symm)).symm
theorem norm_norm (ps : List (Int × Int)) : norm (norm ps) = norm ps := norm_id (norm_plain ps)
theorem norm_append_congr {ps ps' qs qs' : List (Int × Int)} (h : ∀ v, coef ps v = coef ps' v) (h' : ∀ v, coef qs v = coef qs' v) : norm (ps ++ qs) = norm (ps' ++ qs') :=
 norm_same (fun v => by rw [coef_append, coef_append, h, h'])
end Go.Proofs.YtdeakieenppmiaaGreatDoor.Tm
/- Boxes of whatever struct; what a term's value reads as; closures that turn a number into a number. -/
namespace Go.Proofs.YtdeakieenppmiaaGreatDoor
open Go.RowKit

/-- Block g is a variable of type T of these cells. -/
def Box (T : TypeId) (w : World) (g : Nat) (cs : Array Value) : Prop := w.heap[g]? = some (.cells cs T (0, 0))
section
variable {T : TypeId} {w w' : World} {g k : Nat} {cs : Array Value} {x y z : Value}
theorem Box.lt (h : Box T w g cs) : g < w.heap.size := (Array.getElem?_eq_some_iff.1 h).1
theorem Box.cell (h : Box T w g cs) (i : Nat) (v : Value) (hv : cs[i]? = some v) : w.cell? ⟨g, i, none⟩ = some v := by
 rw [cell_of_row w g i _ _ _ h]; exact hv
theorem Box.c0 (h : Box T w g #[x, y, z]) : w.cell? ⟨g, 0, none⟩ = some x := h.cell 0 x rfl
theorem Box.c1 (h : Box T w g #[x, y, z]) : w.cell? ⟨g, 1, none⟩ = some y := h.cell 1 y rfl
theorem Box.c2 (h : Box T w g #[x, y, z]) : w.cell? ⟨g, 2, none⟩ = some z := h.cell 2 z rfl
theorem Box.fr (h : Box T w g cs) (i : Nat) : w.frozen? ⟨g, i, none⟩ = false := by unfold Box at h; simp [World.frozen?, h]
theorem Box.below {B : Nat} (h : Box T w g cs) (hb : Below B w w') (hg : g < B) : Box T w' g cs := (hb.block g hg).trans h
theorem Box.next (h : Box T w g cs) (hb : Below w.heap.size w w') : Box T w' g cs := h.below hb h.lt
theorem Box.new (T : TypeId) (w : World) (cs : Array Value) : Box T (w.alloc (.cells cs T)) w.heap.size cs := heap_alloc_new w _
theorem Box.alloc (h : Box T w g cs) (o : Obj) : Box T (w.alloc o) g cs := h.next (bl_alloc w o)
theorem Box.drew (h : Box T w g cs) : Box T w.drew g cs := h
theorem Box.other (h : Box T w g cs) (ho : Only k w w') (hne : g ≠ k) : Box T w' g cs := (ho.block g h.lt (fun hh => hne (by injection hh))).trans h
theorem Box.grown {row : Option Nat} (h : Box T w g cs) (ho : w.grownBy w' row) (hne : some g ≠ row) : Box T w' g cs := (ho.block g h.lt hne).trans h
theorem Box.set_0 (h : Box T w g #[x, y, z]) (x' : Value) : Box T (w.setCell ⟨g, 0, none⟩ x') g #[x', y, z] := by
 unfold Box at h ⊢
 simp [World.setCell, Array.getElem?_modify, h]
theorem only_set1 (w : World) (g i : Nat) (x : Value) : Only g w (w.setCell ⟨g, i, none⟩ x) := (Only.refl g w).setCell i x
theorem Box.kp (h : Box T w g cs) (hn : NLs cs.toList) (ho : Only g w w') : Kp w w' := Kp.block h hn ho
theorem nl3 (hx : NL x) (hy : NL y) (hz : NL z) : NLs (#[x, y, z] : Array Value).toList := by
 intro u hu
 simp at hu
 rcases hu with rfl | rfl | rfl <;> assumption
theorem nl2 (hx : NL x) (hy : NL y) : NLs (#[x, y] : Array Value).toList := by
 intro u hu
 simp at hu
 rcases hu with rfl | rfl <;> assumption
theorem sgn_ne {Z : Int} (h : Z ≠ 0) : (Z.sign == 0) = false := by simpa using h
theorem Blk.box {cs : Array Value} (h : Blk w g cs) : Box 26 w g cs := h
theorem bstart1 (T : TypeId) (w : World) (X : Array Value) : Box T (w.alloc (.cells X T)) w.heap.size X ∧ Below w.heap.size w (w.alloc (.cells X T)) ∧ (w.alloc (.cells X T)).heap.size = w.heap.size + 1 :=
 ⟨Box.new T w X, bl_alloc w _, size_alloc w _⟩
theorem bstart2 (T U : TypeId) (w : World) (X Y : Array Value) : Box T ((w.alloc (.cells X T)).alloc (.cells Y U)) w.heap.size X ∧ Box U ((w.alloc (.cells X T)).alloc (.cells Y U)) (w.heap.size + 1) Y ∧
  Below w.heap.size w ((w.alloc (.cells X T)).alloc (.cells Y U)) ∧ ((w.alloc (.cells X T)).alloc (.cells Y U)).heap.size = w.heap.size + 2 := by
 obtain ⟨h1, h2, h3⟩ := bstart1 T w X
 obtain ⟨k1, k2, k3⟩ := bstart1 U (w.alloc (.cells X T)) Y
 rw [h3] at k1 k3
 exact ⟨h1.alloc _, k1, h2.next (bl_alloc _ _), by omega⟩
theorem bstart3 (T U V : TypeId) (w : World) (X Y Z : Array Value) : Box T (((w.alloc (.cells X T)).alloc (.cells Y U)).alloc (.cells Z V)) w.heap.size X ∧ Box U (((w.alloc (.cells X T)).alloc (.cells Y U)).alloc (.cells Z V)) (w.heap.size + 1) Y ∧
  Box V (((w.alloc (.cells X T)).alloc (.cells Y U)).alloc (.cells Z V)) (w.heap.size + 1 + 1) Z ∧ Below w.heap.size w (((w.alloc (.cells X T)).alloc (.cells Y U)).alloc (.cells Z V)) ∧ (((w.alloc (.cells X T)).alloc (.cells Y U)).alloc (.cells Z V)).heap.size = w.heap.size + 3 := by
 obtain ⟨h1, h2, h3, h4⟩ := bstart2 T U w X Y
 obtain ⟨k1, k2, k3⟩ := bstart1 V ((w.alloc (.cells X T)).alloc (.cells Y U)) Z
 rw [h4] at k1 k3
 have e2 : w.heap.size + 2 = w.heap.size + 1 + 1 := rfl
 rw [e2] at k1
 exact ⟨h1.alloc _, h2.alloc _, k1, h3.next (bl_alloc _ _), by omega⟩
end
/-- A store of a whole struct into its variable. -/
theorem wpList_store_box {P : Program} {w : World} {ops : Array Oper} {rest : List Oper} {o : Oper} {a : Act} {Q : Exit → Act → World → Prop} (hgd : o.guard = none) (T : TypeId) (x y : Operand) (ho : o.op = .store T x y)
  (g : Nat) (cells : Array Value) (hx : a.eval x = .pointer (some ⟨g, 0, none⟩)) (hy : a.eval y = .agg cells) (old : Array Value) (hb : Box T w g old) (hi : (P.info? T).map (·.size) = some cells.size) (hold : old.size = cells.size) (h1 : cells.all (·.oneCell') = true)
  (h : ∀ w', Box T w' g cells → Only g w w' → wpList P ops Q rest (a.put o.dst undef) w') : wpList P ops Q (o :: rest) a w := by
 refine wpList_store_row hgd T x y ho g cells hx hy T old hb hi hold h1 ?_
 refine h _ ?_ (only_setRow w g _)
 exact setRow_heap w g old cells _ _ hb
theorem wpList_store_t {w : World} {ops : Array Oper} {rest : List Oper} {o : Oper} {a : Act} {Q : Exit → Act → World → Prop} (hgd : o.guard = none) (x y : Operand) (ho : o.op = .store 28 x y)
  (g : Nat) (s : Bool) (A B : Option Addr) (n c m d : Nat) (hx : a.eval x = .pointer (some ⟨g, 0, none⟩)) (hy : a.eval y = .agg #[.slice A n c, .bool s, .slice B m d]) (u v z : Value) (hb : Box 28 w g #[u, v, z])
  (h : ∀ w', Box 28 w' g #[.slice A n c, .bool s, .slice B m d] → Only g w w' → wpList Tryz.prog ops Q rest (a.put o.dst undef) w') : wpList Tryz.prog ops Q (o :: rest) a w :=
 wpList_store_box hgd 28 x y ho g _ hx hy _ hb (by kernel_rfl) rfl (by simp [Value.oneCell']) h
theorem bodyPost_t {fn : Func} {R : Ending → World → Prop} {a : Act} {w : World} {g p : Nat} {x y z : Value} (hres : fn.results = #[.cell p 28]) (hp : a.tmps.getD p undef = .pointer (some ⟨g, 0, none⟩))
  (hb : Box 28 w g #[x, y, z]) (hd : a.defers = []) (hR : R (.returned (.agg #[x, y, z])) w) : bodyPost Tryz.prog fn R .ret a w :=
 bodyPost_ret (results_cell_row hres _ _ g _ #[x, y, z] _ _ hp hb Tryz.underlying28 rfl (by kernel_rfl)) hd hR

/-- The slice (A, n) reads as the parts L, of at most k limbs each. -/
def PIn (w : World) (A : Option Addr) (n : Nat) (L : List (Int × Int)) (k : Nat) : Prop := ∃ ps, PartsIn w A n ps k ∧ lin ps = L
/-- .. each number in the form of results. -/
def PRes (w : World) (A : Option Addr) (n : Nat) (L : List (Int × Int)) (k : Nat) : Prop := ∃ ps, PartsIn w A n ps k ∧ lin ps = L ∧ ∀ p ∈ ps, ZRes w p.num p.Z k
/-- The value reads as a term. -/
def TIn (w : World) (v : Value) (L : List (Int × Int)) (K : Int) (k : Nat) : Prop := ∃ A n c s B m d, v = .agg #[.slice A n c, .bool s, .slice B m d] ∧ PIn w A n L k ∧ n ≤ c ∧ c ≤ 9223372036854775807 ∧ ZIn w (.agg #[.bool s, .slice B m d]) K k
def TRes (w : World) (v : Value) (L : List (Int × Int)) (K : Int) (k : Nat) : Prop := ∃ A n c s B m d, v = .agg #[.slice A n c, .bool s, .slice B m d] ∧ PRes w A n L k ∧ n ≤ c ∧ c ≤ 9223372036854775807 ∧ ZRes w (.agg #[.bool s, .slice B m d]) K k
section
variable {w w' : World} {A : Option Addr} {n k j : Nat} {L : List (Int × Int)} {K : Int} {v : Value}
theorem PIn.below (h : PIn w A n L k) (hb : Below w.heap.size w w') : PIn w' A n L k := by
 obtain ⟨ps, h1, h2⟩ := h; exact ⟨ps, h1.below hb, h2⟩
theorem PRes.below (h : PRes w A n L k) (hb : Below w.heap.size w w') : PRes w' A n L k := by
 obtain ⟨ps, h1, h2, h3⟩ := h; exact ⟨ps, h1.below hb, h2, fun p hp => (h3 p hp).below hb⟩
theorem TIn.below (h : TIn w v L K k) (hb : Below w.heap.size w w') : TIn w' v L K k := by
 obtain ⟨A, n, c, s, B, m, d, e, h1, h2, h3, h4⟩ := h; exact ⟨A, n, c, s, B, m, d, e, h1.below hb, h2, h3, h4.below hb⟩
theorem TRes.below (h : TRes w v L K k) (hb : Below w.heap.size w w') : TRes w' v L K k := by
 obtain ⟨A, n, c, s, B, m, d, e, h1, h2, h3, h4⟩ := h; exact ⟨A, n, c, s, B, m, d, e, h1.below hb, h2, h3, h4.below hb⟩
theorem PIn.mono (h : PIn w A n L k) (hj : k ≤ j) : PIn w A n L j := by
 obtain ⟨ps, h1, h2⟩ := h; exact ⟨ps, h1.mono hj, h2⟩
theorem TIn.mono (h : TIn w v L K k) (hj : k ≤ j) : TIn w v L K j := by
 obtain ⟨A, n, c, s, B, m, d, e, h1, h2, h3, h4⟩ := h; exact ⟨A, n, c, s, B, m, d, e, h1.mono hj, h2, h3, h4.mono hj⟩
theorem ZRes.mono (h : ZRes w v K k) (hj : k ≤ j) : ZRes w v K j := by
 obtain ⟨A, n, c, rfl, h1, h2, h3, h4⟩ := h; exact ⟨A, n, c, rfl, h1, h2, h3, by omega⟩
theorem PRes.mono (h : PRes w A n L k) (hj : k ≤ j) : PRes w A n L j := by
 obtain ⟨ps, h1, h2, h3⟩ := h; exact ⟨ps, h1.mono hj, h2, fun p hp => (h3 p hp).mono hj⟩
theorem TRes.mono (h : TRes w v L K k) (hj : k ≤ j) : TRes w v L K j := by
 obtain ⟨A, n, c, s, B, m, d, e, h1, h2, h3, h4⟩ := h; exact ⟨A, n, c, s, B, m, d, e, h1.mono hj, h2, h3, h4.mono hj⟩
theorem PRes.in_ (h : PRes w A n L k) : PIn w A n L k := by obtain ⟨ps, h1, h2, _⟩ := h; exact ⟨ps, h1, h2⟩
theorem TRes.in_ (h : TRes w v L K k) : TIn w v L K k := by
 obtain ⟨A, n, c, s, B, m, d, e, h1, h2, h3, h4⟩ := h; exact ⟨A, n, c, s, B, m, d, e, h1.in_, h2, h3, h4.in_⟩
theorem TRes.form (h : TRes w v L K k) : ∃ A n c s B m d, v = .agg #[.slice A n c, .bool s, .slice B m d] := by
 obtain ⟨A, n, c, s, B, m, d, e, _⟩ := h; exact ⟨A, n, c, s, B, m, d, e⟩
theorem PIn.len (h : PIn w A n L k) : L.length = n := by
 obtain ⟨ps, h1, h2⟩ := h; rw [← h2, lin, List.length_map]; exact h1.1
theorem PRes.len (h : PRes w A n L k) : L.length = n := h.in_.len
theorem PRes.nil (w : World) (A : Option Addr) (k : Nat) : PRes w A 0 [] k := ⟨[], PartsIn.nil _ _ _, rfl, fun p hp => by cases hp⟩
/-- A world that keeps all blocks below B and all numbers keeps parts that lie below B. -/
theorem PartsIn.keep {ps : List PV} {g : Nat} (h : PartsIn w A n ps k) (ho : Only g w w') (hk : Kp w w') (ha : 0 < n → Apart A g) : PartsIn w' A n ps k := by
 refine ⟨h.1, fun hn => ?_, fun p hp => (h.2.2 p hp).kp hk⟩
 obtain ⟨b, o, e, hc⟩ := h.2.1 hn
 refine ⟨b, o, e, fun j u hu => ?_⟩
 have h1 := hc j u hu
 have hne : b ≠ g := ha hn ⟨b, o, none⟩ e
 exact ho.gb.cell h1 (fun hh => hne (by injection hh))
theorem PIn.keep {g : Nat} (h : PIn w A n L k) (ho : Only g w w') (hk : Kp w w') (ha : 0 < n → Apart A g) : PIn w' A n L k := by
 obtain ⟨ps, h1, h2⟩ := h; exact ⟨ps, h1.keep ho hk ha, h2⟩
theorem PRes.keep {g : Nat} (h : PRes w A n L k) (ho : Only g w w') (hk : Kp w w') (ha : 0 < n → Apart A g) : PRes w' A n L k := by
 obtain ⟨ps, h1, h2, h3⟩ := h; exact ⟨ps, h1.keep ho hk ha, h2, fun p hp => (h3 p hp).kp hk⟩
/-- Parts of at least one element lie in a block whose first cell there is an int, so apart from a block of a term. -/
theorem PartsIn.offTerm {ps : List PV} {g : Nat} {x y z : Value} (h : PartsIn w A n ps k) (hb : Box 28 w g #[x, y, z]) (hx : ∀ i, x ≠ .int .i64 i) (hy : ∀ i, y ≠ .int .i64 i) (hz : ∀ i, z ≠ .int .i64 i) : 0 < n → Apart A g := by
 intro hn ad had he
 obtain ⟨b, o, e, hc⟩ := h.2.1 hn
 have hl : 0 < ps.length := by rw [h.1]; exact hn
 obtain ⟨g0, -, -⟩ := flat_get ps 0 ps[0] (List.getElem?_eq_getElem hl)
 have h0 := hc 0 _ g0
 rw [had] at e
 injection e with e
 subst e
 have he' : b = g := he
 subst he'
 rw [cell_of_row w b _ _ _ _ hb] at h0
 match o, h0 with
 | 0, h0 => simp at h0; exact hx _ h0
 | 1, h0 => simp at h0; exact hy _ h0
 | 2, h0 => simp at h0; exact hz _ h0
 | o + 3, h0 => simp at h0
theorem PIn.offTerm {g m c d : Nat} {B C : Option Addr} {s : Bool} {q : Nat} (h : PIn w A n L k) (hb : Box 28 w g #[.slice B m c, .bool s, .slice C q d]) : 0 < n → Apart A g := by
 obtain ⟨ps, h1, h2⟩ := h; exact h1.offTerm hb (fun i h => by cases h) (fun i h => by cases h) (fun i h => by cases h)
theorem PRes.offTerm {g m c d : Nat} {B C : Option Addr} {s : Bool} {q : Nat} (h : PRes w A n L k) (hb : Box 28 w g #[.slice B m c, .bool s, .slice C q d]) : 0 < n → Apart A g := h.in_.offTerm hb
theorem nlT (A B : Option Addr) (n c m d : Nat) (s : Bool) : NLs (#[.slice A n c, .bool s, .slice B m d] : Array Value).toList := nl3 (NL.slice _ _ _) (NL.bool _) (NL.slice _ _ _)
/-- A term is what it was behind a store into a term's variable. -/
theorem TRes.only {g m c d : Nat} {B C : Option Addr} {s : Bool} {q : Nat} (h : TRes w v L K k) (hb : Box 28 w g #[.slice B m c, .bool s, .slice C q d]) (ho : Only g w w') : TRes w' v L K k := by
 have hk : Kp w w' := hb.kp (nlT _ _ _ _ _ _ _) ho
 obtain ⟨A, n, c, s, B, m, d, e, h1, h2, h3, h4⟩ := h
 exact ⟨A, n, c, s, B, m, d, e, h1.keep ho hk (h1.offTerm hb), h2, h3, h4.kp hk⟩
end
def TPost (L : List (Int × Int)) (K : Int) (k : Nat) (w : World) (e : Ending) (w' : World) : Prop := ∃ v, e = .returned v ∧ TRes w' v L K k ∧ Below w.heap.size w w'
/-- What a function value makes of numbers of at most k limbs, in every world that keeps what lay in w. -/
def Makes (w : World) (g : Nat) (cb : Array Value) (f : Int → Int) (k j : Nat) : Prop :=
 ∀ (W : World) (u : Value) (Z : Int), Below w.heap.size w W → ZIn W u Z k → Calls Tryz.prog g (#[u] ++ cb) W (ZPost (f Z) j W)
end Go.Proofs.YtdeakieenppmiaaGreatDoor
