/- Two texts that begin alike: the first error is the same. What the tokens of a text are. -/
import Derived.Test.YtifikcaiknnjfaaLexMath
namespace Go.Proofs.Ytifikcaiknnjfaa.Lx

theorem stop_agree {p : Nat → Bool} {f g : Nat → Nat} {n n' : Nat} (hn : n ≤ n') (h : ∀ j, j < n → g j = f j) (m : Nat) : ∀ i, i + m = n → stop p f n i < n → stop p g n' i = stop p f n i := by
  induction m with
  | zero => intro i hi hs; obtain rfl : i = n := by omega
            rw [stop_end] at hs; omega
  | succ m ih =>
    intro i hi hs
    have e1 := stop_step p f (n := n) (i := i) (by omega)
    have e2 := stop_step p g (n := n') (i := i) (by omega)
    rw [h i (by omega)] at e2
    rw [e1] at hs ⊢
    rw [e2]
    by_cases c : p (f i) = true
    · simp only [if_pos c] at hs ⊢
      exact ih (i + 1) (by omega) hs
    · simp only [if_neg c]
theorem skip_agree {f g : Nat → Nat} {n n' : Nat} (hn : n ≤ n') (h : ∀ j, j < n → g j = f j) (m : Nat) : ∀ i com, i + m = n → skip f n i com < n → skip g n' i com = skip f n i com := by
  induction m with
  | zero => intro i com hi hs; obtain rfl : i = n := by omega
            rw [skip_end] at hs; omega
  | succ m ih =>
    intro i com hi hs
    have e1 := skip_step f (n := n) (i := i) com (by omega)
    have e2 := skip_step g (n := n') (i := i) com (by omega)
    rw [h i (by omega)] at e2
    rw [e1] at hs ⊢
    rw [e2]
    by_cases c1 : f i = 10
    · simp only [if_pos c1] at hs ⊢
      exact ih (i + 1) _ (by omega) hs
    · simp only [if_neg c1] at hs ⊢
      by_cases c2 : f i = 35
      · simp only [if_pos c2] at hs ⊢
        exact ih (i + 1) _ (by omega) hs
      · simp only [if_neg c2] at hs ⊢
        by_cases c3 : com = false ∧ f i ≠ 32 ∧ f i ≠ 9
        · simp only [if_pos c3]
        · simp only [if_neg c3] at hs ⊢
          exact ih (i + 1) _ (by omega) hs
theorem tok_agree {f g : Nat → Nat} {n n' j : Nat} (hn : n ≤ n') (h : ∀ j, j < n → g j = f j) (hj : j < n) (he : tokEnd f n j < n) : tokErr g n' j = tokErr f n j ∧ tokEnd g n' j = tokEnd f n j := by
  have hgj := h j hj
  unfold tokErr
  unfold tokEnd at he ⊢
  rw [hgj]
  by_cases c1 : letB (f j) = true
  · simp only [if_pos c1] at he ⊢
    rw [stop_agree hn h (n - j) j (by omega) he]
    exact ⟨rfl, rfl⟩
  · simp only [if_neg c1] at he ⊢
    by_cases c2 : digB (f j) = true
    · simp only [if_pos c2] at he ⊢
      rw [stop_agree hn h (n - j) j (by omega) he]
      exact ⟨rfl, rfl⟩
    · simp only [if_neg c2] at he ⊢
      by_cases c3 : bigB (f j) = true
      · simp only [if_pos c3]
        exact ⟨trivial, trivial⟩
      · simp only [if_neg c3] at he ⊢
        have h1 : j + 1 < n := by
          by_cases c4 : j + 1 < n
          · exact c4
          · rw [if_neg (fun hh => c4 hh.1)] at he; omega
        refine ⟨trivial, ?_⟩
        rw [h (j + 1) h1]
        have h2 : j + 1 < n' := by omega
        simp only [h1, h2, true_and]
theorem tokErr_sign {f : Nat → Nat} {n j : Nat} : tokErr f n j = 100 ↔ letB (f j) = false ∧ digB (f j) = false ∧ bigB (f j) = false ∧ sgnB (f j) = false := by
  unfold tokErr
  by_cases c1 : letB (f j) = true
  · simp only [if_pos c1]
    exact ⟨fun h => by split at h <;> omega, fun h => by rw [c1] at h; cases h.1⟩
  · have d1 : letB (f j) = false := by simpa using c1
    simp only [if_neg c1]
    by_cases c2 : digB (f j) = true
    · simp only [if_pos c2]
      refine ⟨fun h => ?_, fun h => by rw [c2] at h; cases h.2.1⟩
      split at h
      · omega
      · split at h <;> omega
    · have d2 : digB (f j) = false := by simpa using c2
      simp only [if_neg c2]
      by_cases c3 : bigB (f j) = true
      · simp only [if_pos c3]
        exact ⟨(fun h => by cases h), fun h => by rw [c3] at h; cases h.2.2.1⟩
      · have d3 : bigB (f j) = false := by simpa using c3
        simp only [if_neg c3]
        by_cases c4 : sgnB (f j) = true
        · simp only [if_pos c4]
          exact ⟨(fun h => by cases h), fun h => by rw [c4] at h; cases h.2.2.2⟩
        · have d4 : sgnB (f j) = false := by simpa using c4
          simp only [if_neg c4]
          exact ⟨fun _ => ⟨d1, d2, d3, d4⟩, fun _ => trivial⟩
theorem lexGo_off (f : Nat → Nat) (n : Nat) (m : Nat) : ∀ (i : Nat) (acc : List Tok), i ≤ n → n < i + m → (lexGo f n m i acc).code ≠ 0 → i ≤ (lexGo f n m i acc).off ∧ (lexGo f n m i acc).off < n := by
  induction m with
  | zero => intro i acc hi hm; omega
  | succ m ih =>
    intro i acc hi hm hc
    have hs := skip_ge f (n := n) (i := i) false hi
    rw [lexGo] at hc ⊢
    by_cases c1 : skip f n i false = n
    · rw [if_pos c1] at hc; exact absurd rfl hc
    · rw [if_neg c1] at hc ⊢
      by_cases c2 : tokErr f n (skip f n i false) ≠ 0
      · rw [if_pos c2]; dsimp only; omega
      · rw [if_neg c2] at hc ⊢
        have ht := tokEnd_gt f (n := n) (i := skip f n i false) (by omega)
        have := ih _ _ (by omega) (by omega) hc
        omega
theorem lexGo_first {f g : Nat → Nat} {n n' : Nat} (hn : n ≤ n') (h : ∀ j, j < n → g j = f j) (m : Nat) : ∀ (m' i : Nat) (acc acc' : List Tok), i ≤ n → n < i + m → n' < i + m' → (lexGo f n m i acc).code = 100 →
    (lexGo g n' m' i acc').code = 100 ∧ (lexGo g n' m' i acc').off = (lexGo f n m i acc).off ∧ (lexGo f n m i acc).off < n := by
  induction m with
  | zero => intro m' i acc acc' hi hm; omega
  | succ m ih =>
    intro m' i acc acc' hi hm hm' hc
    obtain ⟨k, rfl⟩ : ∃ k, m' = k + 1 := ⟨m' - 1, by omega⟩
    have hs := skip_ge f (n := n) (i := i) false hi
    rw [lexGo] at hc
    rw [lexGo, lexGo]
    by_cases c1 : skip f n i false = n
    · rw [if_pos c1] at hc; exact absurd hc (show ¬ (0 : Nat) = 100 by decide)
    · have ha := skip_agree hn h (n - i) i false (by omega) (by omega)
      rw [ha]
      have c1' : ¬ skip f n i false = n' := by omega
      simp only [if_neg c1, if_neg c1'] at hc ⊢
      by_cases c2 : tokErr f n (skip f n i false) ≠ 0
      · simp only [if_pos c2] at hc ⊢
        have hj := h (skip f n i false) (by omega)
        have h3 : tokErr g n' (skip f n i false) = 100 := by
          rw [tokErr_sign, hj]; exact tokErr_sign.1 hc
        have c3 : tokErr g n' (skip f n i false) ≠ 0 := by omega
        simp only [if_pos c3]
        exact ⟨h3, trivial, by omega⟩
      · simp only [if_neg c2] at hc ⊢
        have ht := tokEnd_gt f (n := n) (i := skip f n i false) (by omega)
        have ho := lexGo_off f n m _ _ (by omega) (by omega) (show (lexGo f n m (tokEnd f n (skip f n i false)) (acc ++ [(tokKind (f (skip f n i false)), skip f n i false, tokEnd f n (skip f n i false))])).code ≠ 0 by omega)
        have hk := tok_agree hn h (j := skip f n i false) (by omega) (by omega)
        rw [hk.1, hk.2]
        simp only [if_neg c2]
        exact ih _ _ _ _ (by omega) (by omega) (by omega) hc
/-- What LexFirst asks. -/
theorem lexAll_first {f g : Nat → Nat} {n n' : Nat} (hn : n ≤ n') (hn' : n' ≤ 16384) (h : ∀ j, j < n → g j = f j) (hc : (lexAll f n).code = 100) : (lexAll g n').code = 100 ∧ (lexAll g n').off = (lexAll f n).off ∧ (lexAll f n).off < n := by
  unfold lexAll at hc ⊢
  rw [if_neg (by omega)] at hc
  rw [if_neg (by omega), if_neg (by omega)]
  exact lexGo_first hn h _ _ _ _ _ (Nat.zero_le _) (by omega) (by omega) hc
theorem posAt_agree {f g : Nat → Nat} {n : Nat} (h : ∀ j, j < n → g j = f j) (i : Nat) (hi : i ≤ n) : posAt g i = posAt f i := by
  induction i with
  | zero => rfl
  | succ i ih => rw [posAt, posAt, ih (by omega), h i (by omega)]
/-- A token of a text. -/
def Good (f : Nat → Nat) (n : Nat) (t : Tok) : Prop := t.2.1 < n ∧ tokErr f n t.2.1 = 0 ∧ t.2.2 = tokEnd f n t.2.1 ∧ t.1 = tokKind (f t.2.1)
/-- Tokens in order, from i on. -/
def Asc (n : Nat) : Nat → List Tok → Prop
  | _, [] => True
  | i, t :: ts => i ≤ t.2.1 ∧ t.2.1 < t.2.2 ∧ t.2.2 ≤ n ∧ Asc n t.2.2 ts
def lens (ts : List Tok) : Nat := (ts.map fun t => t.2.2 - t.2.1).sum
theorem Asc.lens {n : Nat} (ts : List Tok) : ∀ i, i ≤ n → Asc n i ts → ts.length ≤ Lx.lens ts ∧ i + Lx.lens ts ≤ n := by
  induction ts with
  | nil => intro i hi _; exact ⟨Nat.le_refl _, by show i + 0 ≤ n; omega⟩
  | cons t ts ih =>
    intro i hi h
    have k := ih t.2.2 h.2.2.1 h.2.2.2
    have e : Lx.lens (t :: ts) = t.2.2 - t.2.1 + Lx.lens ts := by simp [Lx.lens]
    rw [e]
    have h1 := h.1
    have h2 := h.2.1
    have h3 := h.2.2.1
    simp only [List.length_cons]
    omega
theorem lexGo_toks (f : Nat → Nat) (n : Nat) (m : Nat) : ∀ (i : Nat) (acc : List Tok), i ≤ n → n < i + m → (lexGo f n m i acc).code = 0 →
    ∃ ts, (lexGo f n m i acc).toks = acc ++ (ts ++ [(5, n, n)]) ∧ (∀ t ∈ ts, Good f n t) ∧ Asc n i ts := by
  induction m with
  | zero => intro i acc hi hm; omega
  | succ m ih =>
    intro i acc hi hm hc
    have hs := skip_ge f (n := n) (i := i) false hi
    rw [lexGo] at hc ⊢
    by_cases c1 : skip f n i false = n
    · rw [if_pos c1]
      exact ⟨[], rfl, (fun t ht => by cases ht), trivial⟩
    · rw [if_neg c1] at hc ⊢
      by_cases c2 : tokErr f n (skip f n i false) ≠ 0
      · rw [if_pos c2] at hc; exact absurd hc c2
      · rw [if_neg c2] at hc ⊢
        have ht := tokEnd_gt f (n := n) (i := skip f n i false) (by omega)
        obtain ⟨ts, h1, h2, h3⟩ := ih _ _ (by omega) (by omega) hc
        refine ⟨(tokKind (f (skip f n i false)), skip f n i false, tokEnd f n (skip f n i false)) :: ts, ?_, ?_, ?_⟩
        · rw [h1]; simp
        · intro t h
          rcases List.mem_cons.1 h with rfl | h
          · exact ⟨by dsimp only; omega, Decidable.not_not.1 c2, rfl, rfl⟩
          · exact h2 t h
        · exact ⟨hs.1, ht.1, ht.2, h3⟩
theorem lexGo_fail (f : Nat → Nat) (n : Nat) (m : Nat) : ∀ (i : Nat) (acc : List Tok), (lexGo f n m i acc).code ≠ 0 → (lexGo f n m i acc).toks = [] := by
  induction m with
  | zero => intro i acc hc; exact absurd rfl hc
  | succ m ih =>
    intro i acc hc
    rw [lexGo] at hc ⊢
    by_cases c1 : skip f n i false = n
    · rw [if_pos c1] at hc; exact absurd rfl hc
    · rw [if_neg c1] at hc ⊢
      by_cases c2 : tokErr f n (skip f n i false) ≠ 0
      · rw [if_pos c2]
      · rw [if_neg c2] at hc ⊢
        exact ih _ _ hc
theorem lexAll_toks {f : Nat → Nat} {n : Nat} (hc : (lexAll f n).code = 0) : n ≤ 16384 ∧ ∃ ts, (lexAll f n).toks = ts ++ [(5, n, n)] ∧ (∀ t ∈ ts, Good f n t) ∧ Asc n 0 ts := by
  unfold lexAll at hc ⊢
  by_cases c : 16384 < n
  · rw [if_pos c] at hc; cases hc
  · rw [if_neg c] at hc ⊢
    refine ⟨by omega, ?_⟩
    obtain ⟨ts, h1, h2, h3⟩ := lexGo_toks f n (n + 1) 0 [] (Nat.zero_le _) (by omega) hc
    exact ⟨ts, h1, h2, h3⟩
theorem lexAll_fail {f : Nat → Nat} {n : Nat} (hc : (lexAll f n).code ≠ 0) : (lexAll f n).toks = [] := by
  unfold lexAll at hc ⊢
  by_cases c : 16384 < n
  · rw [if_pos c]
  · rw [if_neg c] at hc ⊢
    exact lexGo_fail f n _ _ _ hc
end Go.Proofs.Ytifikcaiknnjfaa.Lx
