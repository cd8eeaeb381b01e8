/- What is spelled of tokens, and what is put together of tokens and other blanks, has these tokens again. -/
import Derived.Test.YtifikcaiknnjfaaLexAgain
namespace Go.Proofs.Ytifikcaiknnjfaa.Lx

def spellL : List (List Nat) → List Nat
  | [] => []
  | x :: r => x ++ (r.map (32 :: ·)).flatten
def sepsOf : List Tok → List (List Nat × Tok)
  | [] => []
  | t :: ts => ([], t) :: ts.map (fun u => ([32], u))
def lastOf : List Tok → List Nat
  | [] => []
  | _ :: _ => [32]
theorem spell_parts (f : Nat → Nat) (ts : List Tok) : spellL (ts.map (textF f) ++ [[]]) = partsL f (sepsOf ts) ++ lastOf ts := by
  cases ts with
  | nil => rfl
  | cons t ts => simp [spellL, sepsOf, lastOf, partsL, Function.comp_def]
theorem seps_snd (ts : List Tok) : (sepsOf ts).map (·.2) = ts := by
  cases ts with
  | nil => rfl
  | cons t ts =>
    rw [sepsOf, List.map_cons, List.map_map]
    congr 1
    exact List.map_id' ts
theorem tails_len (f : Nat → Nat) (ts : List Tok) : (partsL f (ts.map (fun u => ([32], u)))).length = ts.length + lens ts := by
  induction ts with
  | nil => rfl
  | cons t ts ih =>
    have e : partsL f ((t :: ts).map (fun u => ([32], u))) = ([32] ++ textF f t) ++ partsL f (ts.map (fun u => ([32], u))) := by simp [partsL]
    have e2 : lens (t :: ts) = t.2.2 - t.2.1 + lens ts := by simp [lens]
    rw [e, List.length_append, ih, e2, List.length_append, textF_len]
    simp only [List.length_cons, List.length_nil]
    omega
theorem spell_len (f : Nat → Nat) (ts : List Tok) : (partsL f (sepsOf ts) ++ lastOf ts).length = ts.length + lens ts := by
  cases ts with
  | nil => rfl
  | cons t ts =>
    have e : partsL f (sepsOf (t :: ts)) = textF f t ++ partsL f (ts.map (fun u => ([32], u))) := by simp [partsL, sepsOf]
    have e2 : lens (t :: ts) = t.2.2 - t.2.1 + lens ts := by simp [lens]
    rw [e, List.length_append, List.length_append, tails_len, e2, textF_len]
    simp only [lastOf, List.length_cons, List.length_nil]
    omega
/-- A text's tokens, laid once more. -/
def Again (f g : Nat → Nat) (N : Nat) (ts : List Tok) : Prop :=
  ∃ ts', lexAll g N = ⟨ts' ++ [(5, N, N)], 0, 0⟩ ∧ ts'.map (fun t => (t.1, textF g t)) = ts.map (fun t => (t.1, textF f t)) ∧ ∀ t ∈ ts', t.2.1 ≤ t.2.2 ∧ t.2.2 ≤ N
theorem spell_again {f : Nat → Nat} {n : Nat} {ts : List Tok} (hg : ∀ t ∈ ts, Good f n t) (hA : Asc n 0 ts) (hn : n ≤ 8000) :
    Again f (gL (spellL (ts.map (textF f) ++ [[]]))) (spellL (ts.map (textF f) ++ [[]])).length ts := by
  have hl := hA.lens ts 0 (Nat.zero_le _)
  rw [spell_parts]
  have hN := spell_len f ts
  unfold Again lexAll
  rw [if_neg (by omega)]
  have hp : ∀ x ∈ sepsOf ts, Good f n x.2 ∧ pass x.1 false = true := by
    intro x hx
    refine ⟨hg x.2 (by rw [← seps_snd ts]; exact List.mem_map_of_mem hx), ?_⟩
    cases ts with
    | nil => cases hx
    | cons t ts =>
      rcases List.mem_cons.1 hx with rfl | hx
      · rfl
      · obtain ⟨u, _, rfl⟩ := List.mem_map.1 hx
        rfl
  have hq : ∀ x ∈ (sepsOf ts).tail, x.1 ≠ [] := by
    cases ts with
    | nil => intro x hx; cases hx
    | cons t ts =>
      intro x hx
      obtain ⟨u, _, rfl⟩ := List.mem_map.1 hx
      exact List.cons_ne_nil _ _
  have hlast : pass (lastOf ts) false = true := by cases ts <;> rfl
  obtain ⟨ts', h1, h2, h3⟩ := relex (f := f) (n := n) (lastOf ts) hlast (sepsOf ts) (partsL f (sepsOf ts) ++ lastOf ts) [] ((partsL f (sepsOf ts) ++ lastOf ts).length + 1) [] rfl hp hq (by simp)
  refine ⟨ts', h1, ?_, h3⟩
  rw [h2]
  exact (List.map_map (f := fun x : List Nat × Tok => x.2) (g := fun t : Tok => (t.1, textF f t))).symm.trans (by rw [seps_snd])
/-- Blanks sp 0, sp 1, .. ahead of the tokens. -/
def layB (sp : Nat → List Nat) : Nat → List Tok → List (List Nat × Tok)
  | _, [] => []
  | k, t :: ts => (sp k, t) :: layB sp (k + 1) ts
theorem layB_snd (sp : Nat → List Nat) (ts : List Tok) : ∀ k, (layB sp k ts).map (·.2) = ts := by
  induction ts with
  | nil => intro k; rfl
  | cons t ts ih => intro k; rw [layB, List.map_cons, ih]
theorem layB_mem {sp : Nat → List Nat} (ts : List Tok) : ∀ k, ∀ x ∈ layB sp k ts, (∃ j, x.1 = sp j) ∧ x.2 ∈ ts := by
  induction ts with
  | nil => intro k x hx; cases hx
  | cons t ts ih =>
    intro k x hx
    rcases List.mem_cons.1 hx with rfl | hx
    · exact ⟨⟨k, rfl⟩, List.mem_cons_self ..⟩
    · exact ⟨(ih _ x hx).1, List.mem_cons_of_mem _ (ih _ x hx).2⟩
theorem layB_snoc (sp : Nat → List Nat) (f : Nat → Nat) (ts : List Tok) (u : Tok) : ∀ k, partsL f (layB sp k (ts ++ [u])) = partsL f (layB sp k ts) ++ (sp (k + ts.length) ++ textF f u) := by
  induction ts with
  | nil => intro k; simp [layB, partsL]
  | cons t ts ih =>
    intro k
    have e : ∀ us, partsL f (layB sp k (t :: us)) = (sp k ++ textF f t) ++ partsL f (layB sp (k + 1) us) := by intro us; simp [layB, partsL]
    rw [List.cons_append, e, e, ih, ← List.append_assoc, List.length_cons, show k + 1 + ts.length = k + (ts.length + 1) by omega]
theorem layB_len {sp : Nat → List Nat} (f : Nat → Nat) (hs : ∀ k, (sp k).length ≤ if k < 20 then 60 else 1) (ts : List Tok) : ∀ k, (partsL f (layB sp k ts)).length ≤ lens ts + ts.length + 59 * (20 - k) := by
  induction ts with
  | nil => intro k; exact Nat.zero_le _
  | cons t ts ih =>
    intro k
    have e : partsL f (layB sp k (t :: ts)) = (sp k ++ textF f t) ++ partsL f (layB sp (k + 1) ts) := by simp [layB, partsL]
    have e2 : lens (t :: ts) = t.2.2 - t.2.1 + lens ts := by simp [lens]
    have h1 := ih (k + 1)
    have h2 := hs k
    rw [e, List.length_append, List.length_append, textF_len, e2, List.length_cons]
    by_cases c : k < 20
    · rw [if_pos c] at h2; omega
    · rw [if_neg c] at h2; omega
theorem between_again {f : Nat → Nat} {n : Nat} {ts : List Tok} {sp : Nat → List Nat} (hg : ∀ t ∈ ts, Good f n t) (hA : Asc n 0 ts) (hn : n ≤ 4000) (hs : ∀ k, (sp k).length ≤ if k < 20 then 60 else 1) (hp : ∀ k, pass (sp k) false = true) (hne : ∀ k, sp k ≠ []) :
    Again f (gL (partsL f (layB sp 0 ts) ++ sp ts.length)) (partsL f (layB sp 0 ts) ++ sp ts.length).length ts := by
  have hl := hA.lens ts 0 (Nat.zero_le _)
  have h1 := layB_len f hs ts 0
  have h2 := hs ts.length
  have hN : (partsL f (layB sp 0 ts) ++ sp ts.length).length ≤ 16384 := by
    rw [List.length_append]
    have h3 : (sp ts.length).length ≤ 60 := Nat.le_trans h2 (by split <;> omega)
    omega
  unfold Again lexAll
  rw [if_neg (by omega)]
  obtain ⟨ts', h1, h2, h3⟩ := relex (f := f) (n := n) (sp ts.length) (hp _) (layB sp 0 ts) (partsL f (layB sp 0 ts) ++ sp ts.length) [] ((partsL f (layB sp 0 ts) ++ sp ts.length).length + 1) [] rfl
    (fun x hx => by
      obtain ⟨⟨j, hj⟩, hm⟩ := layB_mem ts 0 x hx
      exact ⟨hg _ hm, by rw [hj]; exact hp j⟩)
    (fun x hx => by
      obtain ⟨⟨j, hj⟩, -⟩ := layB_mem ts 0 x (List.mem_of_mem_tail hx)
      rw [hj]; exact hne j) (by simp)
  refine ⟨ts', h1, ?_, h3⟩
  rw [h2]
  exact (List.map_map (f := fun x : List Nat × Tok => x.2) (g := fun t : Tok => (t.1, textF f t))).symm.trans (by rw [layB_snd])
theorem pass_remark (r : List Nat) (rest : List Nat) (h : ∀ c ∈ r, c ≠ 10) : pass (r ++ 10 :: rest) true = pass rest false := by
  induction r with
  | nil => rfl
  | cons c cs ih =>
    rw [List.cons_append, pass, if_neg (h c (List.mem_cons_self ..))]
    have := ih (fun d hd => h d (List.mem_cons_of_mem _ hd))
    by_cases c2 : c = 35
    · rw [if_pos c2]; exact this
    · rw [if_neg c2, if_neg (by simp)]; exact this
/-- The places of a text go up. -/
def posLt (p q : Nat × Nat) : Prop := p.1 < q.1 ∨ (p.1 = q.1 ∧ p.2 < q.2)
theorem posAt_lt (f : Nat → Nat) (i k : Nat) : posLt (posAt f i) (posAt f (i + k + 1)) := by
  induction k with
  | zero =>
    show posLt _ (stepP (posAt f i) (f i))
    unfold stepP
    split
    · exact Or.inl (by dsimp only; omega)
    · exact Or.inr ⟨rfl, by dsimp only; omega⟩
  | succ k ih =>
    show posLt _ (stepP (posAt f (i + k + 1)) (f (i + k + 1)))
    unfold stepP
    split
    · refine Or.inl ?_
      rcases ih with h | h <;> dsimp only <;> omega
    · rcases ih with h | h
      · exact Or.inl h
      · exact Or.inr ⟨h.1, by have := h.2; dsimp only; omega⟩
theorem posAt_inj (f : Nat → Nat) {i j : Nat} (h : posAt f i = posAt f j) : i = j := by
  rcases Nat.lt_trichotomy i j with hlt | he | hlt
  · have := posAt_lt f i (j - i - 1)
    rw [show i + (j - i - 1) + 1 = j by omega, h] at this
    unfold posLt at this; omega
  · exact he
  · have := posAt_lt f j (i - j - 1)
    rw [show j + (i - j - 1) + 1 = i by omega, h] at this
    unfold posLt at this; omega
end Go.Proofs.Ytifikcaiknnjfaa.Lx
