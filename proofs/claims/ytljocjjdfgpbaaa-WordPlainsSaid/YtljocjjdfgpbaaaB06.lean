/- Texts of one seat, put together: WordM WordS. -/
import Derived.Test.YtljocjjdfgpbaaaB01
set_option linter.unusedVariables false
/- Properties and words, on plain data. -/
namespace Go.Proofs.Ytljocjjdfgpbaaa
namespace Wo

/-- A property, whatever it holds. -/
inductive LT where
  | mk (k p : Int) (kids : List LT)
/-- A property as far as it counts: kinds 3, 8, 9, 10 have one kid, 4, 5, 7, 11, 12 two. -/
inductive Pr where
  | tt | ff
  | cmp (p : Int)
  | una (k : Nat) (a : Pr)
  | bin (k : Nat) (a b : Pr)
deriving DecidableEq, Repr
def LT.k : LT → Int | .mk k _ _ => k
def LT.p : LT → Int | .mk _ p _ => p
def LT.kids : LT → List LT | .mk _ _ l => l
def lff : LT := .mk 1 0 []
def arity (k : Int) : Nat := if k = 3 ∨ k = 8 ∨ k = 9 ∨ k = 10 then 1 else if k = 4 ∨ k = 5 ∨ k = 7 ∨ k = 11 ∨ k = 12 then 2 else 0
mutual
def norm : LT → Pr
  | .mk k p kids =>
    if k = 0 then .tt else if k = 2 then .cmp p else if arity k = 1 then .una k.toNat ((norms kids).getD 0 .ff) else if arity k = 2 then .bin k.toNat ((norms kids).getD 0 .ff) ((norms kids).getD 1 .ff) else .ff
def norms : List LT → List Pr
  | [] => []
  | t :: ts => norm t :: norms ts
end
theorem norms_map (l : List LT) : norms l = l.map norm := by
  induction l with
  | nil => rw [norms]; rfl
  | cons t ts ih => rw [norms, ih]; rfl
def LT.kid (t : LT) (i : Nat) : LT := t.kids.getD i lff
theorem norm_lff : norm lff = .ff := by rw [lff, norm]; decide
theorem norms_getD (l : List LT) (i : Nat) : (norms l).getD i .ff = norm (l.getD i lff) := by
  rw [norms_map]
  simp only [List.getD_eq_getElem?_getD, List.getElem?_map]
  cases l[i]? with
  | none => exact norm_lff.symm
  | some t => rfl
theorem norm_eq (t : LT) : norm t = if t.k = 0 then .tt else if t.k = 2 then .cmp t.p else if arity t.k = 1 then .una t.k.toNat (norm (t.kid 0)) else if arity t.k = 2 then .bin t.k.toNat (norm (t.kid 0)) (norm (t.kid 1)) else .ff := by
  obtain ⟨k, p, l⟩ := t
  rw [norm, norms_getD, norms_getD]
  rfl
/-- The tree of a property. -/
def tree : Pr → LT
  | .tt => .mk 0 0 []
  | .ff => .mk 1 0 []
  | .cmp p => .mk 2 p []
  | .una k a => .mk k 0 [tree a]
  | .bin k a b => .mk k 0 [tree a, tree b]
/-- Kinds that there are. -/
def Pr.wf : Pr → Prop
  | .tt => True
  | .ff => True
  | .cmp _ => True
  | .una k a => (k = 3 ∨ k = 8 ∨ k = 9 ∨ k = 10) ∧ a.wf
  | .bin k a b => (k = 4 ∨ k = 5 ∨ k = 7 ∨ k = 11 ∨ k = 12) ∧ a.wf ∧ b.wf
theorem arity_one {k : Int} (h : arity k = 1) : k = 3 ∨ k = 8 ∨ k = 9 ∨ k = 10 := by
  unfold arity at h
  by_cases h1 : k = 3 ∨ k = 8 ∨ k = 9 ∨ k = 10
  · exact h1
  · rw [if_neg h1] at h; split at h <;> cases h
theorem arity_two {k : Int} (h : arity k = 2) : k = 4 ∨ k = 5 ∨ k = 7 ∨ k = 11 ∨ k = 12 := by
  unfold arity at h
  by_cases h1 : k = 3 ∨ k = 8 ∨ k = 9 ∨ k = 10
  · rw [if_pos h1] at h; cases h
  · rw [if_neg h1] at h
    by_cases h2 : k = 4 ∨ k = 5 ∨ k = 7 ∨ k = 11 ∨ k = 12
    · exact h2
    · rw [if_neg h2] at h; cases h
theorem arity_le (k : Int) : arity k ≤ 2 := by unfold arity; split; · decide
                                               split <;> decide
mutual
theorem norm_wf : ∀ t : LT, (norm t).wf
  | .mk k p kids => by
    rw [norm]
    have hk := norms_wf kids
    have hg : ∀ i, ((norms kids).getD i .ff).wf := fun i => by
      rw [List.getD_eq_getElem?_getD]
      cases h : (norms kids)[i]? with
      | none => exact True.intro
      | some x => exact hk x (List.mem_of_getElem? h)
    split
    · exact True.intro
    · split
      · exact True.intro
      · split
        · rename_i h1
          refine ⟨?_, hg 0⟩
          have := arity_one h1; omega
        · split
          · rename_i h1
            refine ⟨?_, hg 0, hg 1⟩
            have := arity_two h1; omega
          · exact True.intro
theorem norms_wf : ∀ l : List LT, ∀ x ∈ norms l, x.wf
  | [], x, h => by rw [norms] at h; cases h
  | t :: ts, x, h => by
    rw [norms] at h
    rcases List.mem_cons.1 h with rfl | h
    · exact norm_wf t
    · exact norms_wf ts x h
end
theorem norm_tree : ∀ p : Pr, p.wf → norm (tree p) = p
  | .tt, _ => by rw [tree, norm]; rfl
  | .ff, _ => by rw [tree, norm]; decide
  | .cmp p, _ => by rw [tree, norm]; rfl
  | .una k a, h => by
    rw [tree, norm_eq]
    have ha := norm_tree a h.2
    obtain ⟨h1, -⟩ := h
    show (if (k : Int) = 0 then _ else if (k : Int) = 2 then _ else if arity k = 1 then Pr.una (k : Int).toNat (norm (tree a)) else _) = _
    rcases h1 with rfl | rfl | rfl | rfl <;> (rw [if_neg (by decide), if_neg (by decide), if_pos (by decide), ha]; rfl)
  | .bin k a b, h => by
    rw [tree, norm_eq]
    have ha := norm_tree a h.2.1
    have hb := norm_tree b h.2.2
    obtain ⟨h1, -⟩ := h
    show (if (k : Int) = 0 then _ else if (k : Int) = 2 then _ else if arity k = 1 then _ else if arity k = 2 then Pr.bin (k : Int).toNat (norm (tree a)) (norm (tree b)) else _) = _
    rcases h1 with rfl | rfl | rfl | rfl | rfl <;> (rw [if_neg (by decide), if_neg (by decide), if_neg (by decide), if_pos (by decide), ha, hb]; rfl)
/-- How many properties count. -/
def Pr.size : Pr → Nat
  | .tt => 1
  | .ff => 1
  | .cmp _ => 1
  | .una _ a => 1 + a.size
  | .bin _ a b => 1 + a.size + b.size
theorem Pr.size_pos (p : Pr) : 0 < p.size := by cases p <;> simp [Pr.size] <;> omega
/-- How many are counted, up to a limit and 1. -/
def Pr.sizeL : Pr → Int → Int
  | .tt, _ => 1
  | .ff, _ => 1
  | .cmp _, _ => 1
  | .una _ a, l => if 1 ≤ l then 1 + a.sizeL (l - 1) else 1
  | .bin _ a b, l => if 1 ≤ l then (if 1 + a.sizeL (l - 1) ≤ l then 1 + a.sizeL (l - 1) + b.sizeL (l - (1 + a.sizeL (l - 1))) else 1 + a.sizeL (l - 1)) else 1
theorem sizeL_le : ∀ (p : Pr) (l : Int), 0 ≤ l → 1 ≤ p.sizeL l ∧ p.sizeL l ≤ l + 1
  | .tt, l, h => by simp only [Pr.sizeL]; omega
  | .ff, l, h => by simp only [Pr.sizeL]; omega
  | .cmp _, l, h => by simp only [Pr.sizeL]; omega
  | .una _ a, l, h => by
    simp only [Pr.sizeL]
    split
    · have := sizeL_le a (l - 1) (by omega); omega
    · omega
  | .bin _ a b, l, h => by
    simp only [Pr.sizeL]
    split
    · have h1 := sizeL_le a (l - 1) (by omega)
      split
      · have h2 := sizeL_le b (l - (1 + a.sizeL (l - 1))) (by omega)
        omega
      · omega
    · omega
theorem sizeL_eq : ∀ (p : Pr) (l : Int), 0 ≤ l → (p.sizeL l ≤ l ∨ (p.size : Int) ≤ l) → p.sizeL l = p.size
  | .tt, l, _, _ => rfl
  | .ff, l, _, _ => rfl
  | .cmp _, l, _, _ => rfl
  | .una _ a, l, h, hs => by
    have := a.size_pos
    simp only [Pr.sizeL, Pr.size] at hs ⊢
    by_cases hl : 1 ≤ l
    · rw [if_pos hl] at hs ⊢
      have h1 := sizeL_eq a (l - 1) (by omega) (by omega)
      omega
    · rw [if_neg hl] at hs; omega
  | .bin _ a b, l, h, hs => by
    have ha := a.size_pos
    have hb := b.size_pos
    simp only [Pr.sizeL, Pr.size] at hs ⊢
    by_cases hl : 1 ≤ l
    · rw [if_pos hl] at hs ⊢
      have hle := sizeL_le a (l - 1) (by omega)
      by_cases hm : 1 + a.sizeL (l - 1) ≤ l
      · rw [if_pos hm] at hs ⊢
        have h1 := sizeL_eq a (l - 1) (by omega) (Or.inl (by omega))
        have h2 := sizeL_eq b (l - (1 + a.sizeL (l - 1))) (by omega) (by omega)
        omega
      · rw [if_neg hm] at hs
        rcases hs with hs | hs
        · omega
        · have h1 := sizeL_eq a (l - 1) (by omega) (Or.inr (by omega))
          omega
    · rw [if_neg hl] at hs; omega
/-- What a kind turns to where it is denied. -/
def dual (k : Nat) : Nat := if k = 4 then 5 else if k = 5 then 4 else if k = 11 then 12 else if k = 12 then 11 else k
/-- The property of few kinds. -/
def plain : Pr → Bool → Pr
  | .tt, d => if d then .ff else .tt
  | .ff, d => if d then .tt else .ff
  | .cmp p, d => if d then .una 3 (.cmp p) else .cmp p
  | .una k a, d => if k = 3 then plain a (!d) else if k = 9 then .bin (if d then 11 else 12) (if d then .tt else .ff) (plain a d) else if k = 10 then .bin (if d then 12 else 11) (if d then .ff else .tt) (plain a d) else .una k (plain a d)
  | .bin k a b, d => if k = 7 then .bin (if d then 4 else 5) (plain a (!d)) (plain b d) else .bin (if d then dual k else k) (plain a d) (plain b d)
/-- Of few kinds. -/
def few : Pr → Bool
  | .tt => true
  | .ff => true
  | .cmp _ => true
  | .una k a => if k = 3 then (match a with | .cmp _ => true | _ => false) else if k = 8 then few a else false
  | .bin k a b => if k = 7 then false else few a && few b
theorem plain_wf : ∀ (p : Pr) (d : Bool), p.wf → (plain p d).wf
  | .tt, d, _ => by cases d <;> exact True.intro
  | .ff, d, _ => by cases d <;> exact True.intro
  | .cmp p, d, _ => by
    cases d
    · exact True.intro
    · exact ⟨Or.inl rfl, True.intro⟩
  | .una k a, d, h => by
    have h0 := plain_wf a d h.2
    have h1 := plain_wf a (!d) h.2
    obtain ⟨hk, -⟩ := h
    rcases hk with rfl | rfl | rfl | rfl
    · exact h1
    · exact ⟨by decide, h0⟩
    · cases d
      · exact ⟨by decide, True.intro, h0⟩
      · exact ⟨by decide, True.intro, h0⟩
    · cases d
      · exact ⟨by decide, True.intro, h0⟩
      · exact ⟨by decide, True.intro, h0⟩
  | .bin k a b, d, h => by
    have ha := plain_wf a d h.2.1
    have ha1 := plain_wf a (!d) h.2.1
    have hb := plain_wf b d h.2.2
    obtain ⟨hk, -⟩ := h
    rcases hk with rfl | rfl | rfl | rfl | rfl <;> cases d <;> first | exact ⟨by decide, ha, hb⟩ | exact ⟨by decide, ha1, hb⟩
theorem plain_few : ∀ (p : Pr) (d : Bool), p.wf → few (plain p d) = true
  | .tt, d, _ => by cases d <;> rfl
  | .ff, d, _ => by cases d <;> rfl
  | .cmp p, d, _ => by cases d <;> rfl
  | .una k a, d, h => by
    have h0 := plain_few a d h.2
    have h1 := plain_few a (!d) h.2
    obtain ⟨hk, -⟩ := h
    rcases hk with rfl | rfl | rfl | rfl
    · exact h1
    · exact h0
    · cases d <;> exact h0
    · cases d <;> exact h0
  | .bin k a b, d, h => by
    have ha := plain_few a d h.2.1
    have ha1 := plain_few a (!d) h.2.1
    have hb := plain_few b d h.2.2
    obtain ⟨hk, -⟩ := h
    rcases hk with rfl | rfl | rfl | rfl | rfl <;> cases d <;> simp [plain, few, dual, ha, ha1, hb] <;> simp_all
/-- What is plain stays as it is. -/
theorem plain_few_id : ∀ p : Pr, p.wf → few p = true → plain p false = p
  | .tt, _, _ => rfl
  | .ff, _, _ => rfl
  | .cmp p, _, _ => rfl
  | .una k a, h, hf => by
    rcases h.1 with rfl | rfl | rfl | rfl
    · cases a with
      | cmp p => rfl
      | _ => simp [few] at hf
    · have : few a = true := hf
      show Pr.una 8 (plain a false) = _
      rw [plain_few_id a h.2 this]
    · simp [few] at hf
    · simp [few] at hf
  | .bin k a b, h, hf => by
    have hk7 : k ≠ 7 := fun e => by subst e; simp [few] at hf
    have h2 : few a = true ∧ few b = true := by simpa [few, hk7] using hf
    show (if k = 7 then _ else Pr.bin k (plain a false) (plain b false)) = _
    rw [if_neg hk7, plain_few_id a h.2.1 h2.1, plain_few_id b h.2.2 h2.2]
theorem plain_idem (p : Pr) (d : Bool) (h : p.wf) : plain (plain p d) false = plain p d := plain_few_id _ (plain_wf p d h) (plain_few p d h)
theorem dual_dual (k : Nat) : dual (dual k) = k := by
  unfold dual
  split
  · subst_vars; rfl
  · split
    · subst_vars; rfl
    · split
      · subst_vars; rfl
      · split
        · subst_vars; rfl
        · rfl
theorem plain_twice : ∀ (p : Pr) (d : Bool), p.wf → plain (plain p d) true = plain p (!d)
  | .tt, d, _ => by cases d <;> rfl
  | .ff, d, _ => by cases d <;> rfl
  | .cmp p, d, _ => by cases d <;> rfl
  | .una k a, d, h => by
    have h0 := plain_twice a d h.2
    have h1 := plain_twice a (!d) h.2
    obtain ⟨hk, -⟩ := h
    rcases hk with rfl | rfl | rfl | rfl
    · exact h1
    · show Pr.una 8 (plain (plain a d) true) = Pr.una 8 (plain a (!d)); rw [h0]
    · cases d
      · show Pr.bin 11 Pr.tt (plain (plain a false) true) = Pr.bin 11 .tt (plain a true); rw [h0]; rfl
      · show Pr.bin 12 Pr.ff (plain (plain a true) true) = Pr.bin 12 .ff (plain a false); rw [h0]; rfl
    · cases d
      · show Pr.bin 12 Pr.ff (plain (plain a false) true) = Pr.bin 12 .ff (plain a true); rw [h0]; rfl
      · show Pr.bin 11 Pr.tt (plain (plain a true) true) = Pr.bin 11 .tt (plain a false); rw [h0]; rfl
  | .bin k a b, d, h => by
    have ha := plain_twice a d h.2.1
    have ha1 := plain_twice a (!d) h.2.1
    have hb := plain_twice b d h.2.2
    obtain ⟨hk, -⟩ := h
    rcases hk with rfl | rfl | rfl | rfl | rfl <;> cases d <;> simp [plain, dual] <;> (try simp at ha ha1 hb) <;> simp [ha, ha1, hb]
end Wo
end Go.Proofs.Ytljocjjdfgpbaaa
/- What a property says at the positions of a word, on plain data. -/
namespace Go.Proofs.Ytljocjjdfgpbaaa
namespace Wo

/-- Until, within m positions. -/
def UF (F G : Nat → Bool) : Nat → Nat → Bool
  | 0, _ => false
  | m + 1, x => G x || (F x && UF F G m (x + 1))
/-- Release, within m positions. -/
def RF (F G : Nat → Bool) : Nat → Nat → Bool
  | 0, _ => true
  | m + 1, x => G x && (F x || RF F G m (x + 1))
theorem RF_not (F G : Nat → Bool) : ∀ (m x : Nat), RF F G m x = !UF (fun y => !F y) (fun y => !G y) m x
  | 0, _ => rfl
  | m + 1, x => by
    rw [RF, UF, RF_not F G m (x + 1)]
    cases F x <;> cases G x <;> simp
theorem UF_iff (F G : Nat → Bool) : ∀ (m x : Nat), UF F G m x = true ↔ ∃ j, j < m ∧ G (x + j) = true ∧ ∀ i, i < j → F (x + i) = true
  | 0, x => by
    constructor
    · intro h; cases h
    · rintro ⟨j, h, -⟩; omega
  | m + 1, x => by
    rw [UF]
    constructor
    · intro h
      cases hg : G x with
      | true => exact ⟨0, by omega, hg, fun i hi => absurd hi (by omega)⟩
      | false =>
        rw [hg] at h
        simp at h
        obtain ⟨j, hj, h1, h2⟩ := (UF_iff F G m (x + 1)).1 h.2
        refine ⟨j + 1, by omega, ?_, fun i hi => ?_⟩
        · rw [show x + (j + 1) = x + 1 + j by omega]; exact h1
        · cases i with
          | zero => exact h.1
          | succ i => rw [show x + (i + 1) = x + 1 + i by omega]; exact h2 i (by omega)
    · rintro ⟨j, hj, h1, h2⟩
      cases j with
      | zero => rw [show x + 0 = x from rfl] at h1; rw [h1]; rfl
      | succ j =>
        have h0 : F x = true := h2 0 (by omega)
        have h3 : UF F G m (x + 1) = true := (UF_iff F G m (x + 1)).2 ⟨j, by omega, by rw [show x + 1 + j = x + (j + 1) by omega]; exact h1, fun i hi => by rw [show x + 1 + i = x + (i + 1) by omega]; exact h2 (i + 1) (by omega)⟩
        rw [h0, h3]; simp
/-- From b on it comes again after c. -/
def Per (b c : Nat) (F : Nat → Bool) : Prop := ∀ x, b ≤ x → F (x + c) = F x
theorem UF_stable {b c : Nat} (hc : 0 < c) {F G : Nat → Bool} (_hF : Per b c F) (hG : Per b c G) {m x : Nat} (hm : b - x + c ≤ m) : UF F G m x = UF F G (b + c) x := by
  have key : ∀ j, G (x + j) = true → (∀ i, i < j → F (x + i) = true) → ∃ k, k < b - x + c ∧ G (x + k) = true ∧ ∀ i, i < k → F (x + i) = true := by
    intro j
    induction j using Nat.strongRecOn with
    | _ j ih =>
      intro h1 h2
      by_cases hj : j < b - x + c
      · exact ⟨j, hj, h1, h2⟩
      · refine ih (j - c) (by omega) ?_ (fun i hi => h2 i (by omega))
        have := hG (x + (j - c)) (by omega)
        rw [show x + (j - c) + c = x + j by omega] at this
        rw [← this]; exact h1
  have main : ∀ p, b - x + c ≤ p → (UF F G p x = true ↔ ∃ k, k < b - x + c ∧ G (x + k) = true ∧ ∀ i, i < k → F (x + i) = true) := by
    intro p hp
    rw [UF_iff]
    constructor
    · rintro ⟨j, -, h1, h2⟩; exact key j h1 h2
    · rintro ⟨k, h0, h1, h2⟩; exact ⟨k, by omega, h1, h2⟩
  have h1 := main m hm
  have h2 := main (b + c) (by omega)
  cases e1 : UF F G m x <;> cases e2 : UF F G (b + c) x
  · rfl
  · rw [h2] at e2; rw [← h1] at e2; rw [e1] at e2; cases e2
  · rw [h1] at e1; rw [← h2] at e1; rw [e2] at e1; cases e1
  · rfl
theorem Per.neg {b c : Nat} {F : Nat → Bool} (h : Per b c F) : Per b c (fun y => !F y) := fun x hx => by show (!F (x + c)) = !F x; rw [h x hx]
theorem RF_stable {b c : Nat} (hc : 0 < c) {F G : Nat → Bool} (hF : Per b c F) (hG : Per b c G) {m x : Nat} (hm : b - x + c ≤ m) : RF F G m x = RF F G (b + c) x := by
  rw [RF_not, RF_not, UF_stable hc hF.neg hG.neg hm]
theorem UF_per {b c : Nat} {F G : Nat → Bool} (hF : Per b c F) (hG : Per b c G) : ∀ m, Per b c (UF F G m)
  | 0 => fun _ _ => rfl
  | m + 1 => fun x hx => by
    rw [UF, UF, hF x hx, hG x hx, show x + c + 1 = x + 1 + c by omega, UF_per hF hG m (x + 1) (by omega)]
theorem RF_per {b c : Nat} {F G : Nat → Bool} (hF : Per b c F) (hG : Per b c G) : ∀ m, Per b c (RF F G m)
  | 0 => fun _ _ => rfl
  | m + 1 => fun x hx => by
    rw [RF, RF, hF x hx, hG x hx, show x + c + 1 = x + 1 + c by omega, RF_per hF hG m (x + 1) (by omega)]
theorem UF_shift (F G : Nat → Bool) (k : Nat) : ∀ (m x : Nat), UF (fun y => F (k + y)) (fun y => G (k + y)) m x = UF F G m (k + x)
  | 0, _ => rfl
  | m + 1, x => by rw [UF, UF, UF_shift F G k m (x + 1)]; rfl
theorem RF_shift (F G : Nat → Bool) (k : Nat) : ∀ (m x : Nat), RF (fun y => F (k + y)) (fun y => G (k + y)) m x = RF F G m (k + x)
  | 0, _ => rfl
  | m + 1, x => by rw [RF, RF, RF_shift F G k m (x + 1)]; rfl
/-- Does an atom hold in a letter? -/
def hasB (l : List Bool) (p : Int) : Bool := decide (0 ≤ p) && l.getD p.toNat false
/-- Does a property hold at a position? n: how many letters the word has. -/
def H (n : Nat) (ltr : Nat → List Bool) : Pr → Nat → Bool
  | .tt, _ => true
  | .ff, _ => false
  | .cmp p, x => hasB (ltr x) p
  | .una k a, x => if k = 3 then !H n ltr a x else if k = 8 then H n ltr a (x + 1) else if k = 9 then RF (fun _ => false) (H n ltr a) n x else UF (fun _ => true) (H n ltr a) n x
  | .bin k a b, x => if k = 4 then H n ltr a x && H n ltr b x else if k = 5 then H n ltr a x || H n ltr b x else if k = 7 then !H n ltr a x || H n ltr b x else if k = 11 then UF (H n ltr a) (H n ltr b) n x else RF (H n ltr a) (H n ltr b) n x
def PerL (b c : Nat) (ltr : Nat → List Bool) : Prop := ∀ x, b ≤ x → ltr (x + c) = ltr x
theorem Per.const (b c : Nat) (v : Bool) : Per b c (fun _ => v) := fun _ _ => rfl
theorem H_per {b c n : Nat} {ltr : Nat → List Bool} (h : PerL b c ltr) : ∀ f : Pr, Per b c (H n ltr f)
  | .tt => Per.const _ _ _
  | .ff => Per.const _ _ _
  | .cmp p => fun x hx => by rw [H, H, h x hx]
  | .una k a => fun x hx => by
    have ha := H_per (n := n) h a
    simp only [H]
    rw [ha x hx, show x + c + 1 = x + 1 + c by omega, ha (x + 1) (by omega), RF_per (Per.const b c false) ha n x hx, UF_per (Per.const b c true) ha n x hx]
  | .bin k a b' => fun x hx => by
    have ha := H_per (n := n) h a
    have hb := H_per (n := n) h b'
    simp only [H]
    rw [ha x hx, hb x hx, RF_per ha hb n x hx, UF_per ha hb n x hx]
/-- The letter at a position: all letters of the stem and the cycle, the stem's length. -/
def pos (b c x : Nat) : Nat := if x < b then x else b + (x - b) % c
theorem pos_lt {b c x : Nat} (hc : 0 < c) : pos b c x < b + c := by
  unfold pos
  split
  · omega
  · have := Nat.mod_lt (x - b) hc; omega
theorem pos_per {b c x : Nat} (hx : b ≤ x) : pos b c (x + c) = pos b c x := by
  unfold pos
  rw [if_neg (by omega), if_neg (by omega), show x + c - b = x - b + c by omega, Nat.add_mod_right]
theorem pos_self {b c x : Nat} (h : x < b + c) : pos b c x = x := by
  unfold pos
  split
  · rfl
  · rw [Nat.mod_eq_of_lt (by omega)]; omega
theorem pos_pos {b c x : Nat} (hc : 0 < c) : pos b c (pos b c x) = pos b c x := pos_self (pos_lt hc)
theorem per_mul {b c : Nat} {F : Nat → Bool} (h : Per b c F) : ∀ (q x : Nat), b ≤ x → F (x + c * q) = F x
  | 0, x, _ => by rw [Nat.mul_zero]; rfl
  | q + 1, x, hx => by
    rw [Nat.mul_succ, ← Nat.add_assoc, h (x + c * q) (by omega), per_mul h q x hx]
theorem per_pos {b c : Nat} {F : Nat → Bool} (h : Per b c F) (x : Nat) : F (pos b c x) = F x := by
  unfold pos
  split
  · rfl
  · have h1 := per_mul h ((x - b) / c) (b + (x - b) % c) (by omega)
    rw [← h1]
    congr 1
    have := Nat.mod_add_div (x - b) c
    omega
def ltrOf (L : List (List Bool)) (b : Nat) (x : Nat) : List Bool := L.getD (pos b (L.length - b) x) []
theorem ltrOf_per (L : List (List Bool)) (b : Nat) : PerL b (L.length - b) (ltrOf L b) := fun x hx => by unfold ltrOf; rw [pos_per hx]
/-- What holds somewhere, from what the kids do there and what holds at the next position. -/
def truthB (k : Nat) (a b nx : Bool) : Bool :=
  if k = 3 then !a else if k = 4 then a && b else if k = 5 then a || b else if k = 7 then !a || b else if k = 9 then a && nx else if k = 10 then a || nx else if k = 11 then b || (a && nx) else if k = 12 then b && (a || nx) else decide (k = 0)
/-- A pass backwards, e behind the last one. -/
def GE (k : Nat) (A B : Nat → Bool) (e : Bool) : Nat → Nat → Bool
  | 0, _ => e
  | m + 1, x => truthB k (A x) (B x) (GE k A B e m (x + 1))
def e0 (k : Nat) : Bool := decide (k = 9 ∨ k = 12)
theorem GE_U {A B : Nat → Bool} {k : Nat} {F G : Nat → Bool} (hk : ∀ x nx, truthB k (A x) (B x) nx = (G x || (F x && nx))) (p : Nat) : ∀ (m x : Nat), GE k A B (UF F G p (x + m)) m x = UF F G (m + p) x
  | 0, x => by rw [GE, Nat.zero_add]; rfl
  | m + 1, x => by
    rw [GE, hk, show x + (m + 1) = x + 1 + m by omega, GE_U hk p m (x + 1), show m + 1 + p = m + p + 1 by omega, UF]
theorem GE_R {A B : Nat → Bool} {k : Nat} {F G : Nat → Bool} (hk : ∀ x nx, truthB k (A x) (B x) nx = (G x && (F x || nx))) (p : Nat) : ∀ (m x : Nat), GE k A B (RF F G p (x + m)) m x = RF F G (m + p) x
  | 0, x => by rw [GE, Nat.zero_add]; rfl
  | m + 1, x => by
    rw [GE, hk, show x + (m + 1) = x + 1 + m by omega, GE_R hk p m (x + 1), show m + 1 + p = m + p + 1 by omega, RF]
theorem two_U {A B : Nat → Bool} {k b c j : Nat} {F G : Nat → Bool} (hk : ∀ x nx, truthB k (A x) (B x) nx = (G x || (F x && nx))) (he : e0 k = false) (hc : 0 < c) (hF : Per b c F) (hG : Per b c G) (hj : j < b + c) :
    GE k A B (GE k A B (e0 k) c b) (b + c - j) j = UF F G (b + c) j := by
  have h1 : GE k A B (e0 k) c b = UF F G c (j + (b + c - j)) := by
    rw [show j + (b + c - j) = b + c by omega, UF_per hF hG c b (Nat.le_refl b), he]
    have := GE_U (A := A) (B := B) hk 0 c b
    simpa [UF] using this
  rw [h1, GE_U hk, UF_stable hc hF hG (by omega)]
theorem two_R {A B : Nat → Bool} {k b c j : Nat} {F G : Nat → Bool} (hk : ∀ x nx, truthB k (A x) (B x) nx = (G x && (F x || nx))) (he : e0 k = true) (hc : 0 < c) (hF : Per b c F) (hG : Per b c G) (hj : j < b + c) :
    GE k A B (GE k A B (e0 k) c b) (b + c - j) j = RF F G (b + c) j := by
  have h1 : GE k A B (e0 k) c b = RF F G c (j + (b + c - j)) := by
    rw [show j + (b + c - j) = b + c by omega, RF_per hF hG c b (Nat.le_refl b), he]
    have := GE_R (A := A) (B := B) hk 0 c b
    simpa [RF] using this
  rw [h1, GE_R hk, RF_stable hc hF hG (by omega)]
theorem GE_one {A B : Nat → Bool} {k : Nat} {V : Nat → Bool} (hk : ∀ x nx, truthB k (A x) (B x) nx = V x) (e : Bool) {m x : Nat} (hm : 0 < m) : GE k A B e m x = V x := by
  cases m with
  | zero => omega
  | succ m => rw [GE, hk]
section
variable {b c j : Nat} {ltr : Nat → List Bool} (hp : PerL b c ltr) (hc : 0 < c) (hj : j < b + c)
include hp hc hj
theorem two_una {k : Nat} {a : Pr} (B : Nat → Bool) (hk : k = 3 ∨ k = 9 ∨ k = 10) : GE k (H (b + c) ltr a) B (GE k (H (b + c) ltr a) B (e0 k) c b) (b + c - j) j = H (b + c) ltr (.una k a) j := by
  have ha := H_per (n := b + c) hp a
  rcases hk with rfl | rfl | rfl
  · exact GE_one (V := fun x => !H (b + c) ltr a x) (fun x nx => rfl) _ (by omega)
  · exact two_R (F := fun _ => false) (fun x nx => by show (_ && nx) = (_ && (false || nx)); rw [Bool.false_or]) (by decide) hc (Per.const _ _ _) ha hj
  · exact two_U (F := fun _ => true) (fun x nx => by show (_ || nx) = (_ || (true && nx)); rw [Bool.true_and]) (by decide) hc (Per.const _ _ _) ha hj
theorem two_bin {k : Nat} {a a' : Pr} (hk : k = 4 ∨ k = 5 ∨ k = 7 ∨ k = 11 ∨ k = 12) : GE k (H (b + c) ltr a) (H (b + c) ltr a') (GE k (H (b + c) ltr a) (H (b + c) ltr a') (e0 k) c b) (b + c - j) j = H (b + c) ltr (.bin k a a') j := by
  have ha := H_per (n := b + c) hp a
  have hb := H_per (n := b + c) hp a'
  rcases hk with rfl | rfl | rfl | rfl | rfl
  · exact GE_one (V := fun x => H (b + c) ltr a x && H (b + c) ltr a' x) (fun x nx => rfl) _ (by omega)
  · exact GE_one (V := fun x => H (b + c) ltr a x || H (b + c) ltr a' x) (fun x nx => rfl) _ (by omega)
  · exact GE_one (V := fun x => !H (b + c) ltr a x || H (b + c) ltr a' x) (fun x nx => rfl) _ (by omega)
  · exact two_U (fun x nx => rfl) (by decide) hc ha hb hj
  · exact two_R (fun x nx => rfl) (by decide) hc ha hb hj
end
/-- What is plain says where the property holds, or, denied, where it doesn't. -/
theorem H_plain {n : Nat} {ltr : Nat → List Bool} : ∀ (f : Pr) (d : Bool) (x : Nat), f.wf → H n ltr (plain f d) x = (H n ltr f x != d)
  | .tt, d, x, _ => by cases d <;> rfl
  | .ff, d, x, _ => by cases d <;> rfl
  | .cmp p, d, x, _ => by
    cases d
    · show H n ltr (.cmp p) x = (_ != false); simp
    · show (!H n ltr (.cmp p) x) = (_ != true); cases H n ltr (.cmp p) x <;> rfl
  | .una k a, d, x, h => by
    have ih := fun d x => H_plain (n := n) (ltr := ltr) a d x h.2
    have ef : ∀ d, H n ltr (plain a d) = fun x => (H n ltr a x != d) := fun d => funext fun x => ih d x
    obtain ⟨hk, -⟩ := h
    rcases hk with rfl | rfl | rfl | rfl
    · show H n ltr (plain a (!d)) x = ((!H n ltr a x) != d)
      rw [ih]; cases H n ltr a x <;> cases d <;> rfl
    · show H n ltr (plain a d) (x + 1) = (H n ltr a (x + 1) != d)
      rw [ih]
    · cases d
      · show RF (H n ltr .ff) (H n ltr (plain a false)) n x = (RF (fun _ => false) (H n ltr a) n x != false)
        rw [ef]; simp; rfl
      · show UF (H n ltr .tt) (H n ltr (plain a true)) n x = (RF (fun _ => false) (H n ltr a) n x != true)
        rw [ef, RF_not]; simp; rfl
    · cases d
      · show UF (H n ltr .tt) (H n ltr (plain a false)) n x = (UF (fun _ => true) (H n ltr a) n x != false)
        rw [ef]; simp; rfl
      · show RF (H n ltr .ff) (H n ltr (plain a true)) n x = (UF (fun _ => true) (H n ltr a) n x != true)
        rw [ef, RF_not]; simp; rfl
  | .bin k a b, d, x, h => by
    have iha := fun d x => H_plain (n := n) (ltr := ltr) a d x h.2.1
    have ihb := fun d x => H_plain (n := n) (ltr := ltr) b d x h.2.2
    have ea : ∀ d, H n ltr (plain a d) = fun x => (H n ltr a x != d) := fun d => funext fun x => iha d x
    have eb : ∀ d, H n ltr (plain b d) = fun x => (H n ltr b x != d) := fun d => funext fun x => ihb d x
    obtain ⟨hk, -⟩ := h
    rcases hk with rfl | rfl | rfl | rfl | rfl
    · cases d
      · show (H n ltr (plain a false) x && H n ltr (plain b false) x) = ((H n ltr a x && H n ltr b x) != false); rw [iha, ihb]; simp
      · show (H n ltr (plain a true) x || H n ltr (plain b true) x) = ((H n ltr a x && H n ltr b x) != true); rw [iha, ihb]; cases H n ltr a x <;> cases H n ltr b x <;> rfl
    · cases d
      · show (H n ltr (plain a false) x || H n ltr (plain b false) x) = ((H n ltr a x || H n ltr b x) != false); rw [iha, ihb]; simp
      · show (H n ltr (plain a true) x && H n ltr (plain b true) x) = ((H n ltr a x || H n ltr b x) != true); rw [iha, ihb]; cases H n ltr a x <;> cases H n ltr b x <;> rfl
    · cases d
      · show (H n ltr (plain a true) x || H n ltr (plain b false) x) = ((!H n ltr a x || H n ltr b x) != false); rw [iha, ihb]; cases H n ltr a x <;> cases H n ltr b x <;> rfl
      · show (H n ltr (plain a false) x && H n ltr (plain b true) x) = ((!H n ltr a x || H n ltr b x) != true); rw [iha, ihb]; cases H n ltr a x <;> cases H n ltr b x <;> rfl
    · cases d
      · show UF (H n ltr (plain a false)) (H n ltr (plain b false)) n x = (UF (H n ltr a) (H n ltr b) n x != false)
        rw [ea, eb]; simp
      · show RF (H n ltr (plain a true)) (H n ltr (plain b true)) n x = (UF (H n ltr a) (H n ltr b) n x != true)
        rw [ea, eb, RF_not]; simp
    · cases d
      · show RF (H n ltr (plain a false)) (H n ltr (plain b false)) n x = (RF (H n ltr a) (H n ltr b) n x != false)
        rw [ea, eb]; simp
      · show UF (H n ltr (plain a true)) (H n ltr (plain b true)) n x = (RF (H n ltr a) (H n ltr b) n x != true)
        rw [ea, eb, RF_not]; simp
/-- U and R are what they say of this position and of the next one. -/
theorem UF_next {b c : Nat} (hc : 0 < c) {F G : Nat → Bool} (hF : Per b c F) (hG : Per b c G) (x : Nat) : UF F G (b + c) x = (G x || (F x && UF F G (b + c) (x + 1))) := by
  have h1 := UF_stable hc hF hG (m := b + c + 1) (x := x) (by omega)
  rw [← h1, UF]
theorem RF_next {b c : Nat} (hc : 0 < c) {F G : Nat → Bool} (hF : Per b c F) (hG : Per b c G) (x : Nat) : RF F G (b + c) x = (G x && (F x || RF F G (b + c) (x + 1))) := by
  have h1 := RF_stable hc hF hG (m := b + c + 1) (x := x) (by omega)
  rw [← h1, RF]
/-- Two words that go on alike. -/
theorem H_shift {b c b' c' k : Nat} {l l' : Nat → List Bool} (hp : PerL b c l) (hc : 0 < c) (hp' : PerL b' c' l') (hc' : 0 < c') (hl : ∀ x, l' x = l (k + x)) : ∀ (f : Pr) (x : Nat), H (b' + c') l' f x = H (b + c) l f (k + x)
  | .tt, _ => rfl
  | .ff, _ => rfl
  | .cmp p, x => by rw [H, H, hl]
  | .una j a, x => by
    have ih := H_shift hp hc hp' hc' hl a
    have pa := H_per (n := b + c) hp a
    have pa' := H_per (n := b' + c') hp' a
    have e : H (b' + c') l' a = fun y => H (b + c) l a (k + y) := funext ih
    simp only [H]
    rw [ih x, ih (x + 1), show k + (x + 1) = k + x + 1 by omega]
    rw [← RF_stable hc' (Per.const b' c' false) pa' (m := b' + c' + (b + c)) (by omega), ← UF_stable hc' (Per.const b' c' true) pa' (m := b' + c' + (b + c)) (by omega),
      ← RF_stable hc (Per.const b c false) pa (m := b' + c' + (b + c)) (by omega), ← UF_stable hc (Per.const b c true) pa (m := b' + c' + (b + c)) (by omega), e]
    rw [RF_shift (fun _ => false) (H (b + c) l a) k, UF_shift (fun _ => true) (H (b + c) l a) k]
  | .bin j a a2, x => by
    have ih := H_shift hp hc hp' hc' hl a
    have ih2 := H_shift hp hc hp' hc' hl a2
    have pa := H_per (n := b + c) hp a
    have pa' := H_per (n := b' + c') hp' a
    have pb := H_per (n := b + c) hp a2
    have pb' := H_per (n := b' + c') hp' a2
    have e : H (b' + c') l' a = fun y => H (b + c) l a (k + y) := funext ih
    have e2 : H (b' + c') l' a2 = fun y => H (b + c) l a2 (k + y) := funext ih2
    simp only [H]
    rw [ih x, ih2 x]
    rw [← RF_stable hc' pa' pb' (m := b' + c' + (b + c)) (by omega), ← UF_stable hc' pa' pb' (m := b' + c' + (b + c)) (by omega),
      ← RF_stable hc pa pb (m := b' + c' + (b + c)) (by omega), ← UF_stable hc pa pb (m := b' + c' + (b + c)) (by omega), e, e2]
    rw [RF_shift (H (b + c) l a) (H (b + c) l a2) k, UF_shift (H (b + c) l a) (H (b + c) l a2) k]
end Wo
end Go.Proofs.Ytljocjjdfgpbaaa
