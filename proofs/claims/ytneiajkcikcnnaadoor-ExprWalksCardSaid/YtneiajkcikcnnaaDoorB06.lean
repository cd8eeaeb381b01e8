/- Texts of one seat, put together: ExprM ExprF. -/
import Derived.Test.YtneiajkcikcnnaaDoorB05
set_option linter.unusedVariables false
/- Sums and conditions, on plain tokens: what a parser takes of them. -/
namespace Go.Proofs.YtneiajkcikcnnaaDoor.Ex

/-- A token: its kind, its text. The last one of a list is an End (kind 5). -/
abbrev PT := Nat × ByteArray
structure Mn where
  num : ByteArray
  var : ByteArray
  neg : Bool
inductive Tr where
  | leaf (b : Bool)
  | cmp (l : List Mn) (op : Nat) (r : List Mn)
  | deny (t : Tr)
  | both (a b : Tr)
  | any (a b : Tr)
inductive Out (α : Type) where
  | ok (a : α) (rest : List PT)
  | err (code : Nat) (rest : List PT)
  | fuel
def isT (s : ByteArray) : List PT → Bool
  | [] => false
  | (k, t) :: _ => decide (t = s) && (k == 1 || k == 2 || k == 4)
def isName (p : PT) : Bool := p.1 == 1 && rnameB p.2
def monoP (kn : ByteArray → Bool) (full neg : Bool) : List PT → Out Mn
  | [] => .err 101 []
  | p :: r =>
    if p.1 == 3 then
      if full then .err 3 (p :: r)
      else if isT ⟨#[42]⟩ r then
        match r.tail with
        | [] => .err 101 []
        | p2 :: r2 => if isName p2 then (if kn p2.2 then .ok ⟨p.2, p2.2, neg⟩ r2 else .err 110 (p2 :: r2)) else .err 101 (p2 :: r2)
      else .ok ⟨p.2, ⟨#[]⟩, neg⟩ r
    else if isName p then
      if full then .err 3 (p :: r) else if kn p.2 then .ok ⟨⟨#[]⟩, p.2, neg⟩ r else .err 110 (p :: r)
    else .err 101 (p :: r)
def sumGo (kn : ByteArray → Bool) : Nat → Bool → List Mn → List PT → Out (List Mn)
  | 0, _, _, _ => .fuel
  | m + 1, neg, acc, r =>
    match monoP kn (acc.length == 64) neg r with
    | .fuel => .fuel
    | .err c r1 => .err c r1
    | .ok x r1 => if isT ⟨#[45]⟩ r1 then sumGo kn m true (acc ++ [x]) r1.tail else if isT ⟨#[43]⟩ r1 then sumGo kn m false (acc ++ [x]) r1.tail else .ok (acc ++ [x]) r1
def sumP (kn : ByteArray → Bool) (r : List PT) : Out (List Mn) := if isT ⟨#[45]⟩ r then sumGo kn (r.length + 1) true [] r.tail else sumGo kn (r.length + 1) false [] r
/-- The comparisons' signs. -/
def opT : Nat → ByteArray
  | 0 => ⟨#[61]⟩
  | 1 => ⟨#[33, 61]⟩
  | 2 => ⟨#[60]⟩
  | 3 => ⟨#[60, 61]⟩
  | 4 => ⟨#[62]⟩
  | _ => ⟨#[62, 61]⟩
def opP (r : List PT) : Option Nat := (List.range 6).find? fun i => isT (opT i) r
def cmpP (kn : ByteArray → Bool) (r : List PT) : Out Tr :=
  match sumP kn r with
  | .fuel => .fuel
  | .err c r1 => .err c r1
  | .ok l r1 =>
    match opP r1 with
    | none => .err 101 r1
    | some op =>
      match sumP kn r1.tail with
      | .fuel => .fuel
      | .err c r2 => .err c r2
      | .ok x r2 => .ok (.cmp l op x) r2
inductive Md where
  | one
  | both
  | bothGo (t : Tr)
  | cond
  | condGo (t : Tr)
def pars (kn : ByteArray → Bool) : Nat → Md → Nat → List PT → Out Tr
  | 0, _, _, _ => .fuel
  | n + 1, .one, lv, r =>
    if lv = 0 ∧ (isT ⟨#[33]⟩ r = true ∨ isT ⟨#[40]⟩ r = true) then .err 102 r
    else if isT ⟨#[33]⟩ r = true then
      match pars kn n .one (lv - 1) r.tail with
      | .fuel => .fuel
      | .err c r1 => .err c r1
      | .ok t r1 => .ok (.deny t) r1
    else if isT ⟨#[40]⟩ r = true then
      match pars kn n .cond (lv - 1) r.tail with
      | .fuel => .fuel
      | .err c r1 => .err c r1
      | .ok t r1 => if isT ⟨#[41]⟩ r1 = true then .ok t r1.tail else .err 101 r1
    else if isT ⟨#[116, 114, 117, 101]⟩ r = true then .ok (.leaf true) r.tail
    else if isT ⟨#[102, 97, 108, 115, 101]⟩ r = true then .ok (.leaf false) r.tail
    else cmpP kn r
  | n + 1, .both, lv, r =>
    match pars kn n .one lv r with
    | .fuel => .fuel
    | .err c r1 => .err c r1
    | .ok t r1 => pars kn n (.bothGo t) lv r1
  | n + 1, .bothGo t, lv, r =>
    if isT ⟨#[38]⟩ r = true then
      match pars kn n .one lv r.tail with
      | .fuel => .fuel
      | .err c r1 => .err c r1
      | .ok k r1 => pars kn n (.bothGo (.both t k)) lv r1
    else .ok t r
  | n + 1, .cond, lv, r =>
    match pars kn n .both lv r with
    | .fuel => .fuel
    | .err c r1 => .err c r1
    | .ok t r1 => pars kn n (.condGo t) lv r1
  | n + 1, .condGo t, lv, r =>
    if isT ⟨#[124]⟩ r = true then
      match pars kn n .both lv r.tail with
      | .fuel => .fuel
      | .err c r1 => .err c r1
      | .ok k r1 => pars kn n (.condGo (.any t k)) lv r1
    else .ok t r
/-- More fuel changes nothing. -/
theorem pars_mono (kn : ByteArray → Bool) (n : Nat) : ∀ (md : Md) (lv : Nat) (r : List PT), pars kn n md lv r ≠ .fuel → pars kn (n + 1) md lv r = pars kn n md lv r := by
  induction n with
  | zero => intro md lv r h; exact absurd rfl h
  | succ n ih =>
    have step : ∀ (md : Md) (lv : Nat) (r : List PT) (K K' : Tr → List PT → Out Tr), (∀ t r1, K t r1 ≠ .fuel → K' t r1 = K t r1) →
        (match pars kn n md lv r with | .fuel => Out.fuel | .err c r1 => Out.err c r1 | .ok t r1 => K t r1) ≠ .fuel →
        (match pars kn (n + 1) md lv r with | .fuel => Out.fuel | .err c r1 => Out.err c r1 | .ok t r1 => K' t r1) = (match pars kn n md lv r with | .fuel => Out.fuel | .err c r1 => Out.err c r1 | .ok t r1 => K t r1) := by
      intro md lv r K K' hK h
      cases hp : pars kn n md lv r with
      | fuel => rw [hp] at h; exact absurd rfl h
      | err c r1 => rw [ih md lv r (by rw [hp]; exact fun e => by cases e), hp]
      | ok t r1 =>
        rw [ih md lv r (by rw [hp]; exact fun e => by cases e), hp]
        rw [hp] at h
        exact hK t r1 h
    intro md lv r h
    cases md with
    | one =>
      rw [pars] at h ⊢
      conv => rhs; rw [pars]
      by_cases c1 : lv = 0 ∧ (isT ⟨#[33]⟩ r = true ∨ isT ⟨#[40]⟩ r = true)
      · rw [if_pos c1, if_pos c1]
      · rw [if_neg c1] at h ⊢
        rw [if_neg c1]
        by_cases c2 : isT ⟨#[33]⟩ r = true
        · rw [if_pos c2] at h ⊢
          rw [if_pos c2]
          exact step _ _ _ (fun t r1 => .ok (.deny t) r1) (fun t r1 => .ok (.deny t) r1) (fun _ _ _ => rfl) h
        · rw [if_neg c2] at h ⊢
          rw [if_neg c2]
          by_cases c3 : isT ⟨#[40]⟩ r = true
          · rw [if_pos c3] at h ⊢
            rw [if_pos c3]
            exact step _ _ _ (fun t r1 => if isT ⟨#[41]⟩ r1 = true then .ok t r1.tail else .err 101 r1) (fun t r1 => if isT ⟨#[41]⟩ r1 = true then .ok t r1.tail else .err 101 r1) (fun _ _ _ => rfl) h
          · rw [if_neg c3, if_neg c3]
    | both =>
      rw [pars] at h ⊢
      conv => rhs; rw [pars]
      exact step _ _ _ (fun t r1 => pars kn n (.bothGo t) lv r1) (fun t r1 => pars kn (n + 1) (.bothGo t) lv r1) (fun t r1 hk => ih _ _ _ hk) h
    | bothGo t =>
      rw [pars] at h ⊢
      conv => rhs; rw [pars]
      by_cases c : isT ⟨#[38]⟩ r = true
      · rw [if_pos c] at h ⊢
        rw [if_pos c]
        exact step _ _ _ (fun k r1 => pars kn n (.bothGo (.both t k)) lv r1) (fun k r1 => pars kn (n + 1) (.bothGo (.both t k)) lv r1) (fun _ _ hk => ih _ _ _ hk) h
      · rw [if_neg c, if_neg c]
    | cond =>
      rw [pars] at h ⊢
      conv => rhs; rw [pars]
      exact step _ _ _ (fun t r1 => pars kn n (.condGo t) lv r1) (fun t r1 => pars kn (n + 1) (.condGo t) lv r1) (fun t r1 hk => ih _ _ _ hk) h
    | condGo t =>
      rw [pars] at h ⊢
      conv => rhs; rw [pars]
      by_cases c : isT ⟨#[124]⟩ r = true
      · rw [if_pos c] at h ⊢
        rw [if_pos c]
        exact step _ _ _ (fun k r1 => pars kn n (.condGo (.any t k)) lv r1) (fun k r1 => pars kn (n + 1) (.condGo (.any t k)) lv r1) (fun _ _ hk => ih _ _ _ hk) h
      · rw [if_neg c, if_neg c]
theorem pars_more (kn : ByteArray → Bool) {n : Nat} {md : Md} {lv : Nat} {r : List PT} (k : Nat) (h : pars kn n md lv r ≠ .fuel) : pars kn (n + k) md lv r = pars kn n md lv r := by
  induction k with
  | zero => rfl
  | succ k ih => rw [← Nat.add_assoc, pars_mono kn (n + k) md lv r (by rw [ih]; exact h), ih]
end Go.Proofs.YtneiajkcikcnnaaDoor.Ex
/- Enough fuel: what is parsed of plain tokens, without a word on fuel. -/
namespace Go.Proofs.YtneiajkcikcnnaaDoor.Ex

theorem isT_ne {s : ByteArray} {r : List PT} (h : isT s r = true) : 0 < r.length := by
  cases r with
  | nil => cases h
  | cons p r => exact Nat.succ_pos _
theorem tail_len (r : List PT) : r.tail.length = r.length - 1 := by simp
theorem mono_len {kn : ByteArray → Bool} {full neg : Bool} {r r1 : List PT} {x : Mn} (h : monoP kn full neg r = .ok x r1) : r1.length < r.length := by
  cases r with
  | nil => cases h
  | cons p r =>
    rw [monoP] at h
    by_cases c1 : (p.1 == 3) = true
    · rw [if_pos c1] at h
      by_cases c2 : full = true
      · rw [if_pos c2] at h; cases h
      · rw [if_neg c2] at h
        by_cases c3 : isT ⟨#[42]⟩ r = true
        · rw [if_pos c3] at h
          cases hr : r.tail with
          | nil => rw [hr] at h; cases h
          | cons p2 r2 =>
            rw [hr] at h
            have hl := tail_len r
            rw [hr, List.length_cons] at hl
            dsimp only at h
            by_cases c4 : isName p2 = true
            · rw [if_pos c4] at h
              by_cases c5 : kn p2.2 = true
              · rw [if_pos c5] at h
                injection h with _ h
                subst h
                rw [List.length_cons]; omega
              · rw [if_neg c5] at h; cases h
            · rw [if_neg c4] at h; cases h
        · rw [if_neg c3] at h
          injection h with _ h
          subst h
          exact Nat.lt_succ_self _
    · rw [if_neg c1] at h
      by_cases c2 : isName p = true
      · rw [if_pos c2] at h
        by_cases c3 : full = true
        · rw [if_pos c3] at h; cases h
        · rw [if_neg c3] at h
          by_cases c4 : kn p.2 = true
          · rw [if_pos c4] at h
            injection h with _ h
            subst h
            exact Nat.lt_succ_self _
          · rw [if_neg c4] at h; cases h
      · rw [if_neg c2] at h; cases h
theorem mono_fuel (kn : ByteArray → Bool) (full neg : Bool) (r : List PT) : monoP kn full neg r ≠ .fuel := by
  intro h
  cases r with
  | nil => cases h
  | cons p r =>
    rw [monoP] at h
    by_cases c1 : (p.1 == 3) = true
    · rw [if_pos c1] at h
      by_cases c2 : full = true
      · rw [if_pos c2] at h; cases h
      · rw [if_neg c2] at h
        by_cases c3 : isT ⟨#[42]⟩ r = true
        · rw [if_pos c3] at h
          cases hr : r.tail with
          | nil => rw [hr] at h; cases h
          | cons p2 r2 =>
            rw [hr] at h
            dsimp only at h
            by_cases c4 : isName p2 = true
            · rw [if_pos c4] at h
              by_cases c5 : kn p2.2 = true
              · rw [if_pos c5] at h; cases h
              · rw [if_neg c5] at h; cases h
            · rw [if_neg c4] at h; cases h
        · rw [if_neg c3] at h; cases h
    · rw [if_neg c1] at h
      by_cases c2 : isName p = true
      · rw [if_pos c2] at h
        by_cases c3 : full = true
        · rw [if_pos c3] at h; cases h
        · rw [if_neg c3] at h
          by_cases c4 : kn p.2 = true
          · rw [if_pos c4] at h; cases h
          · rw [if_neg c4] at h; cases h
      · rw [if_neg c2] at h; cases h
theorem sumGo_facts (kn : ByteArray → Bool) (m : Nat) : ∀ (neg : Bool) (acc : List Mn) (r : List PT), (r.length < m → sumGo kn m neg acc r ≠ .fuel) ∧ ∀ x r1, sumGo kn m neg acc r = .ok x r1 → r1.length < r.length := by
  induction m with
  | zero => intro neg acc r; exact ⟨fun h => absurd h (Nat.not_lt_zero _), fun x r1 h => by cases h⟩
  | succ m ih =>
    intro neg acc r
    rw [sumGo]
    cases hm : monoP kn (acc.length == 64) neg r with
    | fuel => exact absurd hm (mono_fuel _ _ _ _)
    | err c r1 => exact ⟨(fun _ h => by cases h), (fun x r2 h => by cases h)⟩
    | ok x r1 =>
      have hl := mono_len hm
      have ht := tail_len r1
      dsimp only
      by_cases c1 : isT ⟨#[45]⟩ r1 = true
      · rw [if_pos c1]
        obtain ⟨h1, h2⟩ := ih true (acc ++ [x]) r1.tail
        exact ⟨fun h => h1 (by omega), fun y r2 h => by have := h2 y r2 h; omega⟩
      · rw [if_neg c1]
        by_cases c2 : isT ⟨#[43]⟩ r1 = true
        · rw [if_pos c2]
          obtain ⟨h1, h2⟩ := ih false (acc ++ [x]) r1.tail
          exact ⟨fun h => h1 (by omega), fun y r2 h => by have := h2 y r2 h; omega⟩
        · rw [if_neg c2]
          refine ⟨fun _ h => (by cases h), fun y r2 h => ?_⟩
          injection h with _ h
          subst h
          exact hl
theorem sumP_fuel (kn : ByteArray → Bool) (r : List PT) : sumP kn r ≠ .fuel := by
  unfold sumP
  have := tail_len r
  split
  · exact (sumGo_facts kn _ _ _ _).1 (by omega)
  · exact (sumGo_facts kn _ _ _ _).1 (by omega)
theorem sumP_len {kn : ByteArray → Bool} {r r1 : List PT} {x : List Mn} (h : sumP kn r = .ok x r1) : r1.length < r.length := by
  unfold sumP at h
  have := tail_len r
  split at h
  · have := (sumGo_facts kn _ _ _ _).2 _ _ h; omega
  · exact (sumGo_facts kn _ _ _ _).2 _ _ h
theorem cmpP_fuel (kn : ByteArray → Bool) (r : List PT) : cmpP kn r ≠ .fuel := by
  intro h
  unfold cmpP at h
  cases h1 : sumP kn r with
  | fuel => exact sumP_fuel kn r h1
  | err c r1 => rw [h1] at h; cases h
  | ok l r1 =>
    rw [h1] at h
    dsimp only at h
    cases h2 : opP r1 with
    | none => rw [h2] at h; cases h
    | some op =>
      rw [h2] at h
      dsimp only at h
      cases h3 : sumP kn r1.tail with
      | fuel => exact sumP_fuel kn _ h3
      | err c r2 => rw [h3] at h; cases h
      | ok x r2 => rw [h3] at h; cases h
theorem cmpP_len {kn : ByteArray → Bool} {r r1 : List PT} {t : Tr} (h : cmpP kn r = .ok t r1) : r1.length < r.length := by
  unfold cmpP at h
  cases h1 : sumP kn r with
  | fuel => rw [h1] at h; cases h
  | err c r1 => rw [h1] at h; cases h
  | ok l r1 =>
    rw [h1] at h
    have hl := sumP_len h1
    dsimp only at h
    cases h2 : opP r1 with
    | none => rw [h2] at h; cases h
    | some op =>
      rw [h2] at h
      dsimp only at h
      cases h3 : sumP kn r1.tail with
      | fuel => rw [h3] at h; cases h
      | err c r2 => rw [h3] at h; cases h
      | ok x r2 =>
        rw [h3] at h
        have hl3 := sumP_len h3
        have ht := tail_len r1
        dsimp only at h
        injection h with _ h
        subst h
        omega
def rank : Md → Nat
  | .one => 1
  | .bothGo _ => 2
  | .both => 3
  | .condGo _ => 4
  | .cond => 5
/-- A parser's step that goes on with K. -/
def bind (o : Out Tr) (K : Tr → List PT → Out Tr) : Out Tr :=
  match o with
  | .fuel => .fuel
  | .err c r => .err c r
  | .ok t r => K t r
theorem bind_fuel {o : Out Tr} {K : Tr → List PT → Out Tr} (h : o ≠ .fuel) (hK : ∀ t r, o = .ok t r → K t r ≠ .fuel) : bind o K ≠ .fuel := by
  cases o with
  | fuel => exact absurd rfl h
  | err c r => exact fun e => by cases e
  | ok t r => exact hK t r rfl
theorem bind_ok {o : Out Tr} {K : Tr → List PT → Out Tr} {t : Tr} {r : List PT} (h : bind o K = .ok t r) : ∃ t1 r1, o = .ok t1 r1 ∧ K t1 r1 = .ok t r := by
  cases o with
  | fuel => cases h
  | err c r => cases h
  | ok t1 r1 => exact ⟨t1, r1, rfl, h⟩
theorem pars_one (kn : ByteArray → Bool) (n lv : Nat) (r : List PT) : pars kn (n + 1) .one lv r = if lv = 0 ∧ (isT ⟨#[33]⟩ r = true ∨ isT ⟨#[40]⟩ r = true) then .err 102 r else if isT ⟨#[33]⟩ r = true then bind (pars kn n .one (lv - 1) r.tail) (fun t r1 => .ok (.deny t) r1)
    else if isT ⟨#[40]⟩ r = true then bind (pars kn n .cond (lv - 1) r.tail) (fun t r1 => if isT ⟨#[41]⟩ r1 = true then .ok t r1.tail else .err 101 r1)
    else if isT ⟨#[116, 114, 117, 101]⟩ r = true then .ok (.leaf true) r.tail else if isT ⟨#[102, 97, 108, 115, 101]⟩ r = true then .ok (.leaf false) r.tail else cmpP kn r := rfl
theorem pars_both (kn : ByteArray → Bool) (n lv : Nat) (r : List PT) : pars kn (n + 1) .both lv r = bind (pars kn n .one lv r) (fun t r1 => pars kn n (.bothGo t) lv r1) := rfl
theorem pars_bothGo (kn : ByteArray → Bool) (n lv : Nat) (t : Tr) (r : List PT) : pars kn (n + 1) (.bothGo t) lv r = if isT ⟨#[38]⟩ r = true then bind (pars kn n .one lv r.tail) (fun k r1 => pars kn n (.bothGo (.both t k)) lv r1) else .ok t r := rfl
theorem pars_cond (kn : ByteArray → Bool) (n lv : Nat) (r : List PT) : pars kn (n + 1) .cond lv r = bind (pars kn n .both lv r) (fun t r1 => pars kn n (.condGo t) lv r1) := rfl
theorem pars_condGo (kn : ByteArray → Bool) (n lv : Nat) (t : Tr) (r : List PT) : pars kn (n + 1) (.condGo t) lv r = if isT ⟨#[124]⟩ r = true then bind (pars kn n .both lv r.tail) (fun k r1 => pars kn n (.condGo (.any t k)) lv r1) else .ok t r := rfl
theorem pars_len (kn : ByteArray → Bool) (n : Nat) : ∀ (md : Md) (lv : Nat) (r : List PT) (t : Tr) (r1 : List PT), pars kn n md lv r = .ok t r1 → r1.length ≤ r.length := by
  induction n with
  | zero => intro md lv r t r1 h; cases h
  | succ n ih =>
    intro md lv r t r1 h
    have ht := tail_len r
    cases md with
    | one =>
      rw [pars_one] at h
      split at h
      · cases h
      · split at h
        · obtain ⟨t2, r2, h1, h2⟩ := bind_ok h
          injection h2 with _ h2
          subst h2
          have := ih _ _ _ _ _ h1; omega
        · split at h
          · obtain ⟨t2, r2, h1, h2⟩ := bind_ok h
            have h3 := ih _ _ _ _ _ h1
            have h4 := tail_len r2
            split at h2
            · injection h2 with _ h2
              subst h2; omega
            · cases h2
          · split at h
            · injection h with _ h
              subst h; omega
            · split at h
              · injection h with _ h
                subst h; omega
              · exact Nat.le_of_lt (cmpP_len h)
    | both =>
      rw [pars_both] at h
      obtain ⟨t2, r2, h1, h2⟩ := bind_ok h
      have := ih _ _ _ _ _ h1
      have := ih _ _ _ _ _ h2
      omega
    | bothGo k =>
      rw [pars_bothGo] at h
      split at h
      · obtain ⟨t2, r2, h1, h2⟩ := bind_ok h
        have := ih _ _ _ _ _ h1
        have := ih _ _ _ _ _ h2
        omega
      · injection h with _ h
        subst h; exact Nat.le_refl _
    | cond =>
      rw [pars_cond] at h
      obtain ⟨t2, r2, h1, h2⟩ := bind_ok h
      have := ih _ _ _ _ _ h1
      have := ih _ _ _ _ _ h2
      omega
    | condGo k =>
      rw [pars_condGo] at h
      split at h
      · obtain ⟨t2, r2, h1, h2⟩ := bind_ok h
        have := ih _ _ _ _ _ h1
        have := ih _ _ _ _ _ h2
        omega
      · injection h with _ h
        subst h; exact Nat.le_refl _
theorem pars_fuel (kn : ByteArray → Bool) (n : Nat) : ∀ (md : Md) (lv : Nat) (r : List PT), 8 * r.length + rank md ≤ n → pars kn n md lv r ≠ .fuel := by
  induction n with
  | zero => intro md lv r h; cases md <;> simp [rank] at h
  | succ n ih =>
    intro md lv r h
    have ht := tail_len r
    cases md with
    | one =>
      simp only [rank] at h
      rw [pars_one]
      by_cases c1 : lv = 0 ∧ (isT ⟨#[33]⟩ r = true ∨ isT ⟨#[40]⟩ r = true)
      · rw [if_pos c1]; exact fun e => by cases e
      · rw [if_neg c1]
        by_cases c2 : isT ⟨#[33]⟩ r = true
        · have := isT_ne c2
          rw [if_pos c2]
          exact bind_fuel (ih _ _ _ (by simp only [rank]; omega)) (fun _ _ _ e => by cases e)
        · rw [if_neg c2]
          by_cases c3 : isT ⟨#[40]⟩ r = true
          · have := isT_ne c3
            rw [if_pos c3]
            refine bind_fuel (ih _ _ _ (by simp only [rank]; omega)) (fun _ _ _ => ?_)
            split <;> exact fun e => by cases e
          · rw [if_neg c3]
            split
            · exact fun e => by cases e
            · split
              · exact fun e => by cases e
              · exact cmpP_fuel kn r
    | both =>
      simp only [rank] at h
      rw [pars_both]
      refine bind_fuel (ih _ _ _ (by simp only [rank]; omega)) (fun t r1 hk => ?_)
      have := pars_len kn n _ _ _ _ _ hk
      exact ih _ _ _ (by simp only [rank]; omega)
    | bothGo k =>
      simp only [rank] at h
      rw [pars_bothGo]
      by_cases c : isT ⟨#[38]⟩ r = true
      · have := isT_ne c
        rw [if_pos c]
        refine bind_fuel (ih _ _ _ (by simp only [rank]; omega)) (fun t r1 hk => ?_)
        have := pars_len kn n _ _ _ _ _ hk
        exact ih _ _ _ (by simp only [rank]; omega)
      · rw [if_neg c]; exact fun e => by cases e
    | cond =>
      simp only [rank] at h
      rw [pars_cond]
      refine bind_fuel (ih _ _ _ (by simp only [rank]; omega)) (fun t r1 hk => ?_)
      have := pars_len kn n _ _ _ _ _ hk
      exact ih _ _ _ (by simp only [rank]; omega)
    | condGo k =>
      simp only [rank] at h
      rw [pars_condGo]
      by_cases c : isT ⟨#[124]⟩ r = true
      · have := isT_ne c
        rw [if_pos c]
        refine bind_fuel (ih _ _ _ (by simp only [rank]; omega)) (fun t r1 hk => ?_)
        have := pars_len kn n _ _ _ _ _ hk
        exact ih _ _ _ (by simp only [rank]; omega)
      · rw [if_neg c]; exact fun e => by cases e
/-- What is parsed. -/
def parsF (kn : ByteArray → Bool) (md : Md) (lv : Nat) (r : List PT) : Out Tr := pars kn (8 * r.length + 8) md lv r
theorem rank_le (md : Md) : rank md ≤ 5 := by cases md <;> simp [rank]
theorem parsF_eq (kn : ByteArray → Bool) {n : Nat} {md : Md} (lv : Nat) {r : List PT} (h : 8 * r.length + rank md ≤ n) : pars kn n md lv r = parsF kn md lv r := by
  have h1 := pars_fuel kn n md lv r h
  have h2 := pars_fuel kn (8 * r.length + 8) md lv r (by have := rank_le md; omega)
  unfold parsF
  rcases Nat.le_total n (8 * r.length + 8) with hle | hle
  · obtain ⟨k, hk⟩ := Nat.exists_eq_add_of_le hle
    rw [hk, pars_more kn k h1]
  · obtain ⟨k, hk⟩ := Nat.exists_eq_add_of_le hle
    rw [hk, pars_more kn k h2]
theorem bind_congr {o : Out Tr} {K K' : Tr → List PT → Out Tr} (h : ∀ t r, o = .ok t r → K t r = K' t r) : bind o K = bind o K' := by
  cases o with
  | fuel => rfl
  | err c r => rfl
  | ok t r => exact h t r rfl
theorem parsF_both (kn : ByteArray → Bool) (lv : Nat) (r : List PT) : parsF kn .both lv r = bind (parsF kn .one lv r) (fun t r1 => parsF kn (.bothGo t) lv r1) := by
  conv => lhs; unfold parsF
  rw [pars_both, parsF_eq kn lv (by simp only [rank]; omega)]
  refine bind_congr (fun t r1 h => ?_)
  have := pars_len kn _ _ _ _ _ _ h
  exact parsF_eq kn lv (by simp only [rank]; omega)
theorem parsF_cond (kn : ByteArray → Bool) (lv : Nat) (r : List PT) : parsF kn .cond lv r = bind (parsF kn .both lv r) (fun t r1 => parsF kn (.condGo t) lv r1) := by
  conv => lhs; unfold parsF
  rw [pars_cond, parsF_eq kn lv (by simp only [rank]; omega)]
  refine bind_congr (fun t r1 h => ?_)
  have := pars_len kn _ _ _ _ _ _ h
  exact parsF_eq kn lv (by simp only [rank]; omega)
theorem parsF_bothGo (kn : ByteArray → Bool) (lv : Nat) (t : Tr) (r : List PT) : parsF kn (.bothGo t) lv r = if isT ⟨#[38]⟩ r = true then bind (parsF kn .one lv r.tail) (fun k r1 => parsF kn (.bothGo (.both t k)) lv r1) else .ok t r := by
  conv => lhs; unfold parsF
  rw [pars_bothGo]
  have ht := tail_len r
  by_cases c : isT ⟨#[38]⟩ r = true
  · have := isT_ne c
    rw [if_pos c, if_pos c, parsF_eq kn lv (by simp only [rank]; omega)]
    refine bind_congr (fun k r1 h => ?_)
    have := pars_len kn _ _ _ _ _ _ h
    exact parsF_eq kn lv (by simp only [rank]; omega)
  · rw [if_neg c, if_neg c]
theorem parsF_condGo (kn : ByteArray → Bool) (lv : Nat) (t : Tr) (r : List PT) : parsF kn (.condGo t) lv r = if isT ⟨#[124]⟩ r = true then bind (parsF kn .both lv r.tail) (fun k r1 => parsF kn (.condGo (.any t k)) lv r1) else .ok t r := by
  conv => lhs; unfold parsF
  rw [pars_condGo]
  have ht := tail_len r
  by_cases c : isT ⟨#[124]⟩ r = true
  · have := isT_ne c
    rw [if_pos c, if_pos c, parsF_eq kn lv (by simp only [rank]; omega)]
    refine bind_congr (fun k r1 h => ?_)
    have := pars_len kn _ _ _ _ _ _ h
    exact parsF_eq kn lv (by simp only [rank]; omega)
  · rw [if_neg c, if_neg c]
theorem parsF_one (kn : ByteArray → Bool) (lv : Nat) (r : List PT) : parsF kn .one lv r = if lv = 0 ∧ (isT ⟨#[33]⟩ r = true ∨ isT ⟨#[40]⟩ r = true) then .err 102 r else if isT ⟨#[33]⟩ r = true then bind (parsF kn .one (lv - 1) r.tail) (fun t r1 => .ok (.deny t) r1)
    else if isT ⟨#[40]⟩ r = true then bind (parsF kn .cond (lv - 1) r.tail) (fun t r1 => if isT ⟨#[41]⟩ r1 = true then .ok t r1.tail else .err 101 r1)
    else if isT ⟨#[116, 114, 117, 101]⟩ r = true then .ok (.leaf true) r.tail else if isT ⟨#[102, 97, 108, 115, 101]⟩ r = true then .ok (.leaf false) r.tail else cmpP kn r := by
  conv => lhs; unfold parsF
  rw [pars_one]
  have ht := tail_len r
  by_cases c1 : lv = 0 ∧ (isT ⟨#[33]⟩ r = true ∨ isT ⟨#[40]⟩ r = true)
  · rw [if_pos c1, if_pos c1]
  · rw [if_neg c1, if_neg c1]
    by_cases c2 : isT ⟨#[33]⟩ r = true
    · have := isT_ne c2
      rw [if_pos c2, if_pos c2, parsF_eq kn (lv - 1) (by simp only [rank]; omega)]
    · rw [if_neg c2, if_neg c2]
      by_cases c3 : isT ⟨#[40]⟩ r = true
      · have := isT_ne c3
        rw [if_pos c3, if_pos c3, parsF_eq kn (lv - 1) (by simp only [rank]; omega)]
      · rw [if_neg c3, if_neg c3]
theorem parsF_fuel (kn : ByteArray → Bool) (md : Md) (lv : Nat) (r : List PT) : parsF kn md lv r ≠ .fuel := pars_fuel kn _ md lv r (by have := rank_le md; omega)
theorem parsF_len {kn : ByteArray → Bool} {md : Md} {lv : Nat} {r r1 : List PT} {t : Tr} (h : parsF kn md lv r = .ok t r1) : r1.length ≤ r.length := pars_len kn _ _ _ _ _ _ h
end Go.Proofs.YtneiajkcikcnnaaDoor.Ex
