/- Texts of one seat, put together: LexFirstM ExprW1 ExprW2. -/
import Derived.Test.YtneiajkcikcnnaaDoorB02
import Derived.Test.YtneiajkcikcnnaaDoorB07
import Derived.Test.YtneiajkcikcnnaaDoorB03
import Derived.Test.YtneiajkcikcnnaaDoorB18
import Derived.Test.YtneiajkcikcnnaaDoorB12
set_option linter.unusedVariables false
/- Two texts that begin alike: the first error is the same. What the tokens of a text are. -/
namespace Go.Proofs.YtneiajkcikcnnaaDoor.Lx

theorem stop_agree {p : Nat → Bool} {f g : Nat → Nat} {n n' : Nat} (hn : n ≤ n') (h : ∀ j, j < n → g j = f j) (m : Nat) : ∀ i, i + m = n → stop p f n i < n → stop p g n' i = stop p f n i := by
  induction m with
  | zero => intro i hi hs; obtain rfl : i = n := by omega
            rw [stop_end] at hs; omega
  | succ m ih =>
    intro i hi hs
    have e1 := stop_step p f (n := n) (i := i) (by omega)
    have e2 := stop_step p g (n := n') (i := i) (by omega)
    rw [h i (by omega)] at e2
    rw [e1] at hs ⊢
    rw [e2]
    by_cases c : p (f i) = true
    · simp only [if_pos c] at hs ⊢
      exact ih (i + 1) (by omega) hs
    · simp only [if_neg c]
theorem skip_agree {f g : Nat → Nat} {n n' : Nat} (hn : n ≤ n') (h : ∀ j, j < n → g j = f j) (m : Nat) : ∀ i com, i + m = n → skip f n i com < n → skip g n' i com = skip f n i com := by
  induction m with
  | zero => intro i com hi hs; obtain rfl : i = n := by omega
            rw [skip_end] at hs; omega
  | succ m ih =>
    intro i com hi hs
    have e1 := skip_step f (n := n) (i := i) com (by omega)
    have e2 := skip_step g (n := n') (i := i) com (by omega)
    rw [h i (by omega)] at e2
    rw [e1] at hs ⊢
    rw [e2]
    by_cases c1 : f i = 10
    · simp only [if_pos c1] at hs ⊢
      exact ih (i + 1) _ (by omega) hs
    · simp only [if_neg c1] at hs ⊢
      by_cases c2 : f i = 35
      · simp only [if_pos c2] at hs ⊢
        exact ih (i + 1) _ (by omega) hs
      · simp only [if_neg c2] at hs ⊢
        by_cases c3 : com = false ∧ f i ≠ 32 ∧ f i ≠ 9
        · simp only [if_pos c3]
        · simp only [if_neg c3] at hs ⊢
          exact ih (i + 1) _ (by omega) hs
theorem tok_agree {f g : Nat → Nat} {n n' j : Nat} (hn : n ≤ n') (h : ∀ j, j < n → g j = f j) (hj : j < n) (he : tokEnd f n j < n) : tokErr g n' j = tokErr f n j ∧ tokEnd g n' j = tokEnd f n j := by
  have hgj := h j hj
  unfold tokErr
  unfold tokEnd at he ⊢
  rw [hgj]
  by_cases c1 : letB (f j) = true
  · simp only [if_pos c1] at he ⊢
    rw [stop_agree hn h (n - j) j (by omega) he]
    exact ⟨rfl, rfl⟩
  · simp only [if_neg c1] at he ⊢
    by_cases c2 : digB (f j) = true
    · simp only [if_pos c2] at he ⊢
      rw [stop_agree hn h (n - j) j (by omega) he]
      exact ⟨rfl, rfl⟩
    · simp only [if_neg c2] at he ⊢
      by_cases c3 : bigB (f j) = true
      · simp only [if_pos c3]
        exact ⟨trivial, trivial⟩
      · simp only [if_neg c3] at he ⊢
        have h1 : j + 1 < n := by
          by_cases c4 : j + 1 < n
          · exact c4
          · rw [if_neg (fun hh => c4 hh.1)] at he; omega
        refine ⟨trivial, ?_⟩
        rw [h (j + 1) h1]
        have h2 : j + 1 < n' := by omega
        simp only [h1, h2, true_and]
theorem tokErr_sign {f : Nat → Nat} {n j : Nat} : tokErr f n j = 100 ↔ letB (f j) = false ∧ digB (f j) = false ∧ bigB (f j) = false ∧ sgnB (f j) = false := by
  unfold tokErr
  by_cases c1 : letB (f j) = true
  · simp only [if_pos c1]
    exact ⟨fun h => by split at h <;> omega, fun h => by rw [c1] at h; cases h.1⟩
  · have d1 : letB (f j) = false := by simpa using c1
    simp only [if_neg c1]
    by_cases c2 : digB (f j) = true
    · simp only [if_pos c2]
      refine ⟨fun h => ?_, fun h => by rw [c2] at h; cases h.2.1⟩
      split at h
      · omega
      · split at h <;> omega
    · have d2 : digB (f j) = false := by simpa using c2
      simp only [if_neg c2]
      by_cases c3 : bigB (f j) = true
      · simp only [if_pos c3]
        exact ⟨(fun h => by cases h), fun h => by rw [c3] at h; cases h.2.2.1⟩
      · have d3 : bigB (f j) = false := by simpa using c3
        simp only [if_neg c3]
        by_cases c4 : sgnB (f j) = true
        · simp only [if_pos c4]
          exact ⟨(fun h => by cases h), fun h => by rw [c4] at h; cases h.2.2.2⟩
        · have d4 : sgnB (f j) = false := by simpa using c4
          simp only [if_neg c4]
          exact ⟨fun _ => ⟨d1, d2, d3, d4⟩, fun _ => trivial⟩
theorem lexGo_off (f : Nat → Nat) (n : Nat) (m : Nat) : ∀ (i : Nat) (acc : List Tok), i ≤ n → n < i + m → (lexGo f n m i acc).code ≠ 0 → i ≤ (lexGo f n m i acc).off ∧ (lexGo f n m i acc).off < n := by
  induction m with
  | zero => intro i acc hi hm; omega
  | succ m ih =>
    intro i acc hi hm hc
    have hs := skip_ge f (n := n) (i := i) false hi
    rw [lexGo] at hc ⊢
    by_cases c1 : skip f n i false = n
    · rw [if_pos c1] at hc; exact absurd rfl hc
    · rw [if_neg c1] at hc ⊢
      by_cases c2 : tokErr f n (skip f n i false) ≠ 0
      · rw [if_pos c2]; dsimp only; omega
      · rw [if_neg c2] at hc ⊢
        have ht := tokEnd_gt f (n := n) (i := skip f n i false) (by omega)
        have := ih _ _ (by omega) (by omega) hc
        omega
theorem lexGo_first {f g : Nat → Nat} {n n' : Nat} (hn : n ≤ n') (h : ∀ j, j < n → g j = f j) (m : Nat) : ∀ (m' i : Nat) (acc acc' : List Tok), i ≤ n → n < i + m → n' < i + m' → (lexGo f n m i acc).code = 100 →
    (lexGo g n' m' i acc').code = 100 ∧ (lexGo g n' m' i acc').off = (lexGo f n m i acc).off ∧ (lexGo f n m i acc).off < n := by
  induction m with
  | zero => intro m' i acc acc' hi hm; omega
  | succ m ih =>
    intro m' i acc acc' hi hm hm' hc
    obtain ⟨k, rfl⟩ : ∃ k, m' = k + 1 := ⟨m' - 1, by omega⟩
    have hs := skip_ge f (n := n) (i := i) false hi
    rw [lexGo] at hc
    rw [lexGo, lexGo]
    by_cases c1 : skip f n i false = n
    · rw [if_pos c1] at hc; exact absurd hc (show ¬ (0 : Nat) = 100 by decide)
    · have ha := skip_agree hn h (n - i) i false (by omega) (by omega)
      rw [ha]
      have c1' : ¬ skip f n i false = n' := by omega
      simp only [if_neg c1, if_neg c1'] at hc ⊢
      by_cases c2 : tokErr f n (skip f n i false) ≠ 0
      · simp only [if_pos c2] at hc ⊢
        have hj := h (skip f n i false) (by omega)
        have h3 : tokErr g n' (skip f n i false) = 100 := by
          rw [tokErr_sign, hj]; exact tokErr_sign.1 hc
        have c3 : tokErr g n' (skip f n i false) ≠ 0 := by omega
        simp only [if_pos c3]
        exact ⟨h3, trivial, by omega⟩
      · simp only [if_neg c2] at hc ⊢
        have ht := tokEnd_gt f (n := n) (i := skip f n i false) (by omega)
        have ho := lexGo_off f n m _ _ (by omega) (by omega) (show (lexGo f n m (tokEnd f n (skip f n i false)) (acc ++ [(tokKind (f (skip f n i false)), skip f n i false, tokEnd f n (skip f n i false))])).code ≠ 0 by omega)
        have hk := tok_agree hn h (j := skip f n i false) (by omega) (by omega)
        rw [hk.1, hk.2]
        simp only [if_neg c2]
        exact ih _ _ _ _ (by omega) (by omega) (by omega) hc
/-- What LexFirst asks. -/
theorem lexAll_first {f g : Nat → Nat} {n n' : Nat} (hn : n ≤ n') (hn' : n' ≤ 16384) (h : ∀ j, j < n → g j = f j) (hc : (lexAll f n).code = 100) : (lexAll g n').code = 100 ∧ (lexAll g n').off = (lexAll f n).off ∧ (lexAll f n).off < n := by
  unfold lexAll at hc ⊢
  rw [if_neg (by omega)] at hc
  rw [if_neg (by omega), if_neg (by omega)]
  exact lexGo_first hn h _ _ _ _ _ (Nat.zero_le _) (by omega) (by omega) hc
theorem posAt_agree {f g : Nat → Nat} {n : Nat} (h : ∀ j, j < n → g j = f j) (i : Nat) (hi : i ≤ n) : posAt g i = posAt f i := by
  induction i with
  | zero => rfl
  | succ i ih => rw [posAt, posAt, ih (by omega), h i (by omega)]
/-- A token of a text. -/
def Good (f : Nat → Nat) (n : Nat) (t : Tok) : Prop := t.2.1 < n ∧ tokErr f n t.2.1 = 0 ∧ t.2.2 = tokEnd f n t.2.1 ∧ t.1 = tokKind (f t.2.1)
/-- Tokens in order, from i on. -/
def Asc (n : Nat) : Nat → List Tok → Prop
  | _, [] => True
  | i, t :: ts => i ≤ t.2.1 ∧ t.2.1 < t.2.2 ∧ t.2.2 ≤ n ∧ Asc n t.2.2 ts
def lens (ts : List Tok) : Nat := (ts.map fun t => t.2.2 - t.2.1).sum
theorem Asc.lens {n : Nat} (ts : List Tok) : ∀ i, i ≤ n → Asc n i ts → ts.length ≤ Lx.lens ts ∧ i + Lx.lens ts ≤ n := by
  induction ts with
  | nil => intro i hi _; exact ⟨Nat.le_refl _, by show i + 0 ≤ n; omega⟩
  | cons t ts ih =>
    intro i hi h
    have k := ih t.2.2 h.2.2.1 h.2.2.2
    have e : Lx.lens (t :: ts) = t.2.2 - t.2.1 + Lx.lens ts := by simp [Lx.lens]
    rw [e]
    have h1 := h.1
    have h2 := h.2.1
    have h3 := h.2.2.1
    simp only [List.length_cons]
    omega
theorem lexGo_toks (f : Nat → Nat) (n : Nat) (m : Nat) : ∀ (i : Nat) (acc : List Tok), i ≤ n → n < i + m → (lexGo f n m i acc).code = 0 →
    ∃ ts, (lexGo f n m i acc).toks = acc ++ (ts ++ [(5, n, n)]) ∧ (∀ t ∈ ts, Good f n t) ∧ Asc n i ts := by
  induction m with
  | zero => intro i acc hi hm; omega
  | succ m ih =>
    intro i acc hi hm hc
    have hs := skip_ge f (n := n) (i := i) false hi
    rw [lexGo] at hc ⊢
    by_cases c1 : skip f n i false = n
    · rw [if_pos c1]
      exact ⟨[], rfl, (fun t ht => by cases ht), trivial⟩
    · rw [if_neg c1] at hc ⊢
      by_cases c2 : tokErr f n (skip f n i false) ≠ 0
      · rw [if_pos c2] at hc; exact absurd hc c2
      · rw [if_neg c2] at hc ⊢
        have ht := tokEnd_gt f (n := n) (i := skip f n i false) (by omega)
        obtain ⟨ts, h1, h2, h3⟩ := ih _ _ (by omega) (by omega) hc
        refine ⟨(tokKind (f (skip f n i false)), skip f n i false, tokEnd f n (skip f n i false)) :: ts, ?_, ?_, ?_⟩
        · rw [h1]; simp
        · intro t h
          rcases List.mem_cons.1 h with rfl | h
          · exact ⟨by dsimp only; omega, Decidable.not_not.1 c2, rfl, rfl⟩
          · exact h2 t h
        · exact ⟨hs.1, ht.1, ht.2, h3⟩
theorem lexGo_fail (f : Nat → Nat) (n : Nat) (m : Nat) : ∀ (i : Nat) (acc : List Tok), (lexGo f n m i acc).code ≠ 0 → (lexGo f n m i acc).toks = [] := by
  induction m with
  | zero => intro i acc hc; exact absurd rfl hc
  | succ m ih =>
    intro i acc hc
    rw [lexGo] at hc ⊢
    by_cases c1 : skip f n i false = n
    · rw [if_pos c1] at hc; exact absurd rfl hc
    · rw [if_neg c1] at hc ⊢
      by_cases c2 : tokErr f n (skip f n i false) ≠ 0
      · rw [if_pos c2]
      · rw [if_neg c2] at hc ⊢
        exact ih _ _ hc
theorem lexAll_toks {f : Nat → Nat} {n : Nat} (hc : (lexAll f n).code = 0) : n ≤ 16384 ∧ ∃ ts, (lexAll f n).toks = ts ++ [(5, n, n)] ∧ (∀ t ∈ ts, Good f n t) ∧ Asc n 0 ts := by
  unfold lexAll at hc ⊢
  by_cases c : 16384 < n
  · rw [if_pos c] at hc; cases hc
  · rw [if_neg c] at hc ⊢
    refine ⟨by omega, ?_⟩
    obtain ⟨ts, h1, h2, h3⟩ := lexGo_toks f n (n + 1) 0 [] (Nat.zero_le _) (by omega) hc
    exact ⟨ts, h1, h2, h3⟩
theorem lexAll_fail {f : Nat → Nat} {n : Nat} (hc : (lexAll f n).code ≠ 0) : (lexAll f n).toks = [] := by
  unfold lexAll at hc ⊢
  by_cases c : 16384 < n
  · rw [if_pos c]
  · rw [if_neg c] at hc ⊢
    exact lexGo_fail f n _ _ _ hc
end Go.Proofs.YtneiajkcikcnnaaDoor.Lx
/- What a parser may know of the tokens of a text. -/
namespace Go.Proofs.YtneiajkcikcnnaaDoor
open Go.RowKit
open Lx Ex

theorem stop_all (p : Nat → Bool) (f : Nat → Nat) {n : Nat} : ∀ (m i : Nat), n - i = m → i ≤ n → ∀ q, i ≤ q → q < stop p f n i → p (f q) = true := by
  intro m
  induction m with
  | zero =>
    intro i hm hi q h1 h2
    obtain rfl : i = n := by omega
    rw [stop_end] at h2
    omega
  | succ m ih =>
    intro i hm hi q h1 h2
    rw [stop_step p f (by omega)] at h2
    by_cases hp : p (f i) = true
    · rw [if_pos hp] at h2
      by_cases hq : q = i
      · rw [hq]; exact hp
      · exact ih (i + 1) (by omega) (by omega) q (by omega) h2
    · rw [if_neg hp] at h2
      omega
theorem allFrom_of (p : Nat → Bool) (s : ByteArray) : ∀ (m k : Nat), k + m = s.size → (∀ q, k ≤ q → q < s.size → p (byteAt s q) = true) → allFrom p s k = true := by
  intro m
  induction m with
  | zero => intro k hk _; obtain rfl : k = s.size := by omega
            exact allFrom_end p s
  | succ m ih =>
    intro k hk h
    rw [allFrom_step (p := p) (k := k) (by omega), h k (Nat.le_refl _) (by omega), ih (k + 1) (by omega) (fun q h1 h2 => h q (by omega) h2)]
    rfl
theorem good_num {s : ByteArray} {t : Tok} (h : Lx.Good (byteAt s) s.size t) (h3 : t.1 = 3) : rnumB (s.extract t.2.1 t.2.2) = true := by
  obtain ⟨h1, h2, h4, h5⟩ := h
  obtain ⟨k, i, E⟩ := t
  dsimp only at h1 h2 h4 h5 h3 ⊢
  subst h3
  have hl : letB (byteAt s i) = false := by
    cases hh : letB (byteAt s i) with
    | false => rfl
    | true => rw [tokKind, if_pos hh] at h5; cases h5
  have hd : digB (byteAt s i) = true := by
    rw [tokKind, if_neg (by rw [hl]; decide)] at h5
    cases hh : digB (byteAt s i) with
    | true => rfl
    | false =>
      rw [if_neg (by rw [hh]; decide)] at h5
      split at h5 <;> cases h5
  have hE : E = stop digB (byteAt s) s.size i := by rw [h4, tokEnd, if_neg (by rw [hl]; decide), if_pos hd]
  have hge := stop_ge digB (byteAt s) (n := s.size) (i := i) (by omega)
  have hgt := tokEnd_gt (byteAt s) h1
  rw [← h4] at hgt
  unfold tokErr at h2
  rw [if_neg (by rw [hl]; decide), if_pos hd, ← hE] at h2
  have hz : (s.extract i E).size = E - i := ext_size s i E (by omega) (by omega)
  have hb : ∀ q, q < E - i → byteAt (s.extract i E) q = byteAt s (i + q) := fun q hq => by
    have := ext_byte s i E q (by omega) (by omega)
    exact this
  have h60 : ¬ 60 < E - i := fun hh => by rw [if_pos hh] at h2; cases h2
  rw [if_neg h60] at h2
  have h48 : ¬ (1 < E - i ∧ byteAt s i = 48) := fun hh => by rw [if_pos hh] at h2; cases h2
  unfold rnumB
  rw [hz]
  have hall : allFrom digC (s.extract i E) 0 = true := by
    refine allFrom_of _ _ (E - i) 0 (by rw [hz]; omega) (fun q _ hq => ?_)
    rw [hz] at hq
    rw [digC_eq (byteAt_lt _ _), hb q hq]
    exact stop_all (n := s.size) digB (byteAt s) _ i rfl (by omega) (i + q) (by omega) (by rw [← hE]; omega)
  rw [hall, Bool.and_true]
  have e0 : byteAt (s.extract i E) 0 = byteAt s i := by rw [hb 0 (by omega)]; rfl
  rw [e0]
  simp
  refine ⟨⟨by omega, by omega⟩, ?_⟩
  rcases Nat.lt_or_ge 1 (E - i) with h9 | h9
  · exact Or.inr (fun hh => h48 ⟨h9, hh⟩)
  · exact Or.inl (by omega)
/-- The tokens that lex.All hands back. -/
def toksK (s : ByteArray) : List TK := (lexAll (byteAt s) s.size).toks.map (tk s)
theorem toksK_len (s : ByteArray) : (toksK s).length ≤ s.size + 1 := by
  unfold toksK
  rw [List.length_map]
  by_cases h : (lexAll (byteAt s) s.size).code = 0
  · obtain ⟨hn, ts, h1, -, h3⟩ := lexAll_toks h
    have := h3.lens ts 0 (Nat.zero_le _)
    rw [h1, List.length_append, List.length_cons, List.length_nil]
    omega
  · rw [lexAll_fail h]; exact Nat.zero_le _
theorem toksK_pos {s : ByteArray} (h : (lexAll (byteAt s) s.size).code = 0) : 0 < (toksK s).length := by
  unfold toksK
  obtain ⟨hn, ts, h1, -, h3⟩ := lexAll_toks h
  rw [List.length_map, h1]; simp
theorem toksK_ends (s : ByteArray) : EndsK (toksK s) := by
  intro t ht
  unfold toksK at ht
  by_cases hc : (lexAll (byteAt s) s.size).code = 0
  · obtain ⟨hn, ts, h1, -, -⟩ := lexAll_toks hc
    rw [h1] at ht
    simp at ht
    rw [← ht]; rfl
  · rw [lexAll_fail hc] at ht
    simp at ht
theorem toksK_mem {s : ByteArray} {t : TK} (h : t ∈ toksK s) : (t.kind = 3 → rnumB t.text = true) ∧ t.kind < 10 ∧ t.text.size ≤ s.size := by
  unfold toksK at h
  obtain ⟨u, hu, rfl⟩ := List.mem_map.1 h
  by_cases hc : (lexAll (byteAt s) s.size).code = 0
  · obtain ⟨hn, ts, h1, h2, -⟩ := lexAll_toks hc
    rw [h1] at hu
    rcases List.mem_append.1 hu with hu | hu
    · have hg := h2 u hu
      refine ⟨fun h3 => good_num hg h3, ?_, ?_⟩
      · show u.1 < 10
        rw [hg.2.2.2]; have := tokKind_lt (byteAt s u.2.1); omega
      · show (s.extract u.2.1 u.2.2).size ≤ s.size
        rw [ByteArray.size_extract]; omega
    · simp at hu
      subst hu
      refine ⟨(fun h3 => by cases h3), (by show 5 < 10; decide), ?_⟩
      show (s.extract s.size s.size).size ≤ s.size
      rw [ByteArray.size_extract]; omega
  · rw [lexAll_fail hc] at hu
    cases hu
end Go.Proofs.YtneiajkcikcnnaaDoor
/- What is parsed of a text is no great tree. -/
namespace Go.Proofs.YtneiajkcikcnnaaDoor
open Go.RowKit
open Lx Ex

theorem small_kids {k : Int} {kids : List GT} (hn : kids.length ≤ 2) (h : ∀ t ∈ kids, Small t) : Small (.mk k [] [] 0 ⟨#[]⟩ ⟨#[]⟩ kids) :=
  Small.mk k 0 [] [] _ _ kids (Nat.zero_le _) (Nat.zero_le _) (by omega) (fun j t hj => h t (List.mem_of_getElem? hj))
theorem small_gt (t : Tr) : ∀ lv, right lv t → Small (gt t) := by
  induction t with
  | leaf b => intro lv _; exact small_kids (by simp) (fun t ht => by cases ht)
  | cmp l op r =>
    intro lv h
    rw [right] at h
    exact Small.mk _ _ _ _ _ _ _ (by have := h.1.2.1; omega) (by have := h.2.2.2.1; omega) (by simp) (fun j t hj => by simp at hj)
  | deny a ih =>
    intro lv h
    rw [right] at h
    have h2 : ∃ l2, right l2 a := by
      split at h
      · exact ⟨_, h.2⟩
      · exact ⟨_, h.2⟩
    obtain ⟨l2, h2⟩ := h2
    exact small_kids (by simp) (fun t ht => by simp at ht; subst ht; exact ih l2 h2)
  | both a b iha ihb =>
    intro lv h
    rw [right] at h
    obtain ⟨h1, h2⟩ := h
    have e1 : ∃ l2, right l2 a := by
      split at h1
      · exact ⟨_, h1.2⟩
      · exact ⟨_, h1⟩
    have e2 : ∃ l2, right l2 b := by
      split at h2
      · exact ⟨_, h2.2⟩
      · exact ⟨_, h2⟩
    obtain ⟨l1, e1⟩ := e1
    obtain ⟨l2, e2⟩ := e2
    exact small_kids (by simp) (fun t ht => by
      simp at ht
      rcases ht with rfl | rfl
      · exact iha l1 e1
      · exact ihb l2 e2)
  | any a b iha ihb =>
    intro lv h
    rw [right] at h
    obtain ⟨h1, h2⟩ := h
    have e2 : ∃ l2, right l2 b := by
      split at h2
      · exact ⟨_, h2.2⟩
      · exact ⟨_, h2⟩
    obtain ⟨l2, e2⟩ := e2
    exact small_kids (by simp) (fun t ht => by
      simp at ht
      rcases ht with rfl | rfl
      · exact iha lv h1
      · exact ihb l2 e2)
theorem view_mem {ts : List TK} {i : Nat} {t : TK} (h : t ∈ view ts i) : t ∈ ts ∨ t = endK := by
  unfold view at h
  split at h
  · simp at h; exact Or.inr h
  · exact Or.inl (List.mem_of_mem_drop h)
theorem toksK_wf (s : ByteArray) (i : Nat) : WF (rd (toksK s) i) := by
  intro p hp h3
  unfold rd at hp
  obtain ⟨t, ht, rfl⟩ := List.mem_map.1 hp
  rcases view_mem ht with h | h
  · exact (toksK_mem h).1 h3
  · subst h; cases h3
/-- A condition that is parsed of a text's tokens. -/
theorem parsed_small {kn : ByteArray → Bool} {s : ByteArray} {i lv : Nat} {t : Tr} {r1 : List PT} (h : parsF kn .cond lv (rd (toksK s) i) = .ok t r1) : Small (gt t) :=
  small_gt t lv (cond_right (toksK_wf s i) h).1
theorem summed_small {kn : ByteArray → Bool} {s : ByteArray} {i : Nat} {l : List Mn} {r1 : List PT} (h : sumP kn (rd (toksK s) i) = .ok l r1) : l.length ≤ 64 :=
  (sum_right (toksK_wf s i) h).1.2.1
end Go.Proofs.YtneiajkcikcnnaaDoor
