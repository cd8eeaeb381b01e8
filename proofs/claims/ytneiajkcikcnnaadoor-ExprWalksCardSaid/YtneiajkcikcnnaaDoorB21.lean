/- Texts of one seat, put together: LexAgain LexW. -/
import Derived.Test.YtneiajkcikcnnaaDoorB19
import Derived.Test.YtneiajkcikcnnaaDoorB20
import Derived.Test.YtneiajkcikcnnaaDoorB05
import Derived.BigRegion
set_option linter.unusedVariables false
/- Texts that are put together of tokens and blanks have these tokens again. -/
namespace Go.Proofs.YtneiajkcikcnnaaDoor.Lx

def gL (L : List Nat) (j : Nat) : Nat := L.getD j 0
theorem gL_at (pre : List Nat) (c : Nat) (rest : List Nat) : gL (pre ++ c :: rest) pre.length = c := by unfold gL; simp
theorem gL_in (pre xs rest : List Nat) (j : Nat) (h : j < xs.length) : gL (pre ++ (xs ++ rest)) (pre.length + j) = gL xs j := by
  unfold gL
  simp [List.getD_eq_getElem?_getD, List.getElem?_append_right, List.getElem?_append_left h]
def blk (c : Nat) : Bool := c == 32 || c == 9 || c == 10 || c == 35
/-- Blanks and remarks that are whole. -/
def pass : List Nat → Bool → Bool
  | [], com => !com
  | c :: cs, com => if c = 10 then pass cs false else if c = 35 then pass cs true else if com = false ∧ c ≠ 32 ∧ c ≠ 9 then false else pass cs com
theorem pass_skip (sep : List Nat) : ∀ (L pre rest : List Nat) (com : Bool), L = pre ++ (sep ++ rest) → pass sep com = true → skip (gL L) L.length pre.length com = skip (gL L) L.length (pre.length + sep.length) false := by
  induction sep with
  | nil =>
    intro L pre rest com hL h
    have : com = false := by simpa [pass] using h
    subst this; rfl
  | cons c cs ih =>
    intro L pre rest com hL h
    have e := skip_step (gL L) (n := L.length) (i := pre.length) com (by rw [hL]; simp)
    have hc : gL L pre.length = c := by rw [hL]; exact gL_at _ _ _
    rw [hc] at e
    have hl : (pre ++ [c]).length = pre.length + 1 := by simp
    have k := fun com' hp => ih L (pre ++ [c]) rest com' (by rw [hL]; simp) hp
    rw [hl, show pre.length + 1 + cs.length = pre.length + (c :: cs).length by simp; omega] at k
    rw [pass] at h
    by_cases c1 : c = 10
    · rw [if_pos c1] at e h
      exact e.trans (k _ h)
    · rw [if_neg c1] at e h
      by_cases c2 : c = 35
      · rw [if_pos c2] at e h
        exact e.trans (k _ h)
      · rw [if_neg c2] at e h
        by_cases c3 : com = false ∧ c ≠ 32 ∧ c ≠ 9
        · rw [if_pos c3] at h; cases h
        · rw [if_neg c3] at e h
          exact e.trans (k _ h)
theorem pass_head {c : Nat} {cs : List Nat} (h : pass (c :: cs) false = true) : blk c = true := by
  rw [pass] at h
  unfold blk
  by_cases c1 : c = 10
  · subst c1; rfl
  · rw [if_neg c1] at h
    by_cases c2 : c = 35
    · subst c2; rfl
    · rw [if_neg c2] at h
      by_cases c3 : c = 32
      · subst c3; rfl
      · by_cases c4 : c = 9
        · subst c4; rfl
        · rw [if_pos ⟨rfl, c3, c4⟩] at h; cases h
theorem stop_again {p : Nat → Bool} {g : Nat → Nat} {N : Nat} (k : Nat) : ∀ P, (∀ j, j < k → p (g (P + j)) = true) → P + k ≤ N → (P + k = N ∨ p (g (P + k)) = false) → stop p g N P = P + k := by
  induction k with
  | zero =>
    intro P _ hN he
    rcases he with he | he
    · obtain rfl : P = N := he
      exact stop_end _ _ _
    · by_cases h : P = N
      · subst h; exact stop_end _ _ _
      · rw [stop_step _ _ (show P < N by omega), if_neg (by rw [show g P = g (P + 0) from rfl, he]; exact Bool.false_ne_true)]; rfl
  | succ k ih =>
    intro P h hN he
    rw [stop_step _ _ (show P < N by omega), if_pos (show p (g P) = true from h 0 (by omega))]
    rw [ih (P + 1) (fun j hj => by rw [show P + 1 + j = P + (j + 1) by omega]; exact h (j + 1) (by omega)) (by omega) (by rw [show P + 1 + k = P + (k + 1) by omega]; exact he)]
    omega
theorem stop_all (p : Nat → Bool) (f : Nat → Nat) {n : Nat} (m : Nat) : ∀ i, i + m = n → ∀ j, i ≤ j → j < stop p f n i → p (f j) = true := by
  induction m with
  | zero => intro i hi j h1 h2; obtain rfl : i = n := by omega
            rw [stop_end] at h2; omega
  | succ m ih =>
    intro i hi j h1 h2
    rw [stop_step p f (show i < n by omega)] at h2
    by_cases c : p (f i) = true
    · rw [if_pos c] at h2
      by_cases e : j = i
      · rw [e]; exact c
      · exact ih (i + 1) (by omega) j (by omega) h2
    · rw [if_neg c] at h2; omega
theorem blk_cases {c : Nat} (h : blk c = true) : c = 32 ∨ c = 9 ∨ c = 10 ∨ c = 35 := by
  unfold blk at h; simpa [or_assoc] using h
theorem blk_wrd {c : Nat} (h : blk c = true) : wrdB c = false := by rcases blk_cases h with rfl | rfl | rfl | rfl <;> rfl
theorem blk_dig {c : Nat} (h : blk c = true) : digB c = false := by rcases blk_cases h with rfl | rfl | rfl | rfl <;> rfl
theorem blk_two {x c : Nat} (h : blk c = true) : twoB x c = false := by rcases blk_cases h with rfl | rfl | rfl | rfl <;> simp [twoB]
theorem tok_blk {f : Nat → Nat} {n a : Nat} (he : tokErr f n a = 0) : blk (f a) = false := by
  cases hb : blk (f a) with
  | false => rfl
  | true =>
    have h100 : tokErr f n a = 100 := by
      rw [tokErr_sign]
      rcases blk_cases hb with h | h | h | h <;> rw [h] <;> decide
    omega
theorem tok_again {f : Nat → Nat} {n a b : Nat} {g : Nat → Nat} {N p : Nat} (ha : a < n) (he : tokErr f n a = 0) (hb : b = tokEnd f n a) (h0 : ∀ j, j < b - a → g (p + j) = f (a + j)) (hN : p + (b - a) ≤ N) (hE : p + (b - a) = N ∨ blk (g (p + (b - a))) = true) :
    tokErr g N p = 0 ∧ tokEnd g N p = p + (b - a) ∧ g p = f a := by
  have hgt := tokEnd_gt f ha
  rw [← hb] at hgt
  have hga : g p = f a := h0 0 (by omega)
  unfold tokErr at he ⊢
  unfold tokEnd at hb ⊢
  rw [hga]
  have hsub : p + (b - a) - p = b - a := by omega
  by_cases c1 : letB (f a) = true
  · simp only [if_pos c1] at he hb ⊢
    have hs : stop wrdB g N p = p + (b - a) := by
      refine stop_again (b - a) p (fun j hj => ?_) hN (hE.imp id blk_wrd)
      rw [h0 j hj]
      exact stop_all wrdB f (n := n) (n - a) a (by omega) _ (by omega) (by omega)
    rw [hs, hsub]
    rw [← hb] at he
    exact ⟨he, rfl, trivial⟩
  · simp only [if_neg c1] at he hb ⊢
    by_cases c2 : digB (f a) = true
    · simp only [if_pos c2] at he hb ⊢
      have hs : stop digB g N p = p + (b - a) := by
        refine stop_again (b - a) p (fun j hj => ?_) hN (hE.imp id blk_dig)
        rw [h0 j hj]
        exact stop_all digB f (n := n) (n - a) a (by omega) _ (by omega) (by omega)
      rw [hs, hsub]
      rw [← hb] at he
      exact ⟨he, rfl, trivial⟩
    · simp only [if_neg c2] at he hb ⊢
      by_cases c3 : bigB (f a) = true
      · simp only [if_pos c3] at hb ⊢
        subst hb
        exact ⟨trivial, by omega, trivial⟩
      · simp only [if_neg c3] at he hb ⊢
        refine ⟨he, ?_, trivial⟩
        by_cases c4 : a + 1 < n ∧ twoB (f a) (f (a + 1)) = true
        · rw [if_pos c4] at hb
          rw [h0 1 (by omega), if_pos ⟨by omega, c4.2⟩]
          omega
        · rw [if_neg c4] at hb
          have e1 : p + (b - a) = p + 1 := by omega
          rw [e1] at hE ⊢
          rw [if_neg]
          rintro ⟨h1, h2⟩
          rcases hE with hE | hE
          · omega
          · rw [blk_two hE] at h2; cases h2
def textF (f : Nat → Nat) (t : Tok) : List Nat := (List.range' t.2.1 (t.2.2 - t.2.1)).map f
theorem textF_len (f : Nat → Nat) (t : Tok) : (textF f t).length = t.2.2 - t.2.1 := by simp [textF]
theorem textF_get (f : Nat → Nat) (t : Tok) (j : Nat) (h : j < t.2.2 - t.2.1) : gL (textF f t) j = f (t.2.1 + j) := by
  unfold gL textF
  simp [List.getD_eq_getElem?_getD, h]
theorem textF_eq {f g : Nat → Nat} {t u : Tok} (hl : t.2.2 - t.2.1 = u.2.2 - u.2.1) (h : ∀ j, j < t.2.2 - t.2.1 → f (t.2.1 + j) = g (u.2.1 + j)) : textF f t = textF g u := by
  apply List.ext_getElem
  · rw [textF_len, textF_len, hl]
  · intro j h1 h2
    rw [textF_len] at h1
    simp only [textF, List.getElem_map, List.getElem_range', Nat.one_mul]
    exact h j h1
def partsL (f : Nat → Nat) (ps : List (List Nat × Tok)) : List Nat := (ps.map fun x => x.1 ++ textF f x.2).flatten
theorem skip_stay {g : Nat → Nat} {N q : Nat} (hq : q < N) (h : blk (g q) = false) : skip g N q false = q := by
  rw [skip_step g false hq]
  have h1 : g q ≠ 10 := fun e => by rw [e] at h; cases h
  have h2 : g q ≠ 35 := fun e => by rw [e] at h; cases h
  have h3 : g q ≠ 32 := fun e => by rw [e] at h; cases h
  have h4 : g q ≠ 9 := fun e => by rw [e] at h; cases h
  rw [if_neg h1, if_neg h2, if_pos ⟨rfl, h3, h4⟩]
theorem relex {f : Nat → Nat} {n : Nat} (last : List Nat) (hlast : pass last false = true) (ps : List (List Nat × Tok)) : ∀ (L pre : List Nat) (m : Nat) (acc : List Tok), L = pre ++ (partsL f ps ++ last) →
    (∀ x ∈ ps, Good f n x.2 ∧ pass x.1 false = true) → (∀ x ∈ ps.tail, x.1 ≠ []) → L.length < pre.length + m →
    ∃ ts', lexGo (gL L) L.length m pre.length acc = ⟨acc ++ (ts' ++ [(5, L.length, L.length)]), 0, 0⟩ ∧ ts'.map (fun t => (t.1, textF (gL L) t)) = ps.map (fun x => (x.2.1, textF f x.2)) ∧ (∀ t ∈ ts', t.2.1 ≤ t.2.2 ∧ t.2.2 ≤ L.length) := by
  induction ps with
  | nil =>
    intro L pre m acc hL _ _ hm
    have hge : pre.length ≤ L.length := by rw [hL, List.length_append]; omega
    obtain ⟨k, rfl⟩ : ∃ k, m = k + 1 := ⟨m - 1, by omega⟩
    refine ⟨[], ?_, rfl, (fun t ht => by cases ht)⟩
    have h1 := pass_skip last L pre [] false (by rw [hL]; simp [partsL]) hlast
    have h2 : pre.length + last.length = L.length := by rw [hL]; simp [partsL]
    rw [h2, skip_end] at h1
    rw [lexGo, if_pos h1]
    rfl
  | cons x ps ih =>
    intro L pre m acc hL hps hsep hm
    obtain ⟨⟨k0, a, b⟩, hx⟩ : ∃ t, x.2 = t := ⟨x.2, rfl⟩
    obtain ⟨sep, t⟩ := x
    dsimp only at hx
    subst hx
    have hge : pre.length ≤ L.length := by rw [hL, List.length_append]; omega
    obtain ⟨m, rfl⟩ : ∃ k, m = k + 1 := ⟨m - 1, by omega⟩
    obtain ⟨⟨ga, ge, gb, gk⟩, hp⟩ := hps (sep, k0, a, b) (List.mem_cons_self ..)
    dsimp only at ga ge gb gk hp
    have hgt := tokEnd_gt f ga
    rw [← gb] at hgt
    have hL1 : L = pre ++ (sep ++ (textF f (k0, a, b) ++ (partsL f ps ++ last))) := by rw [hL]; simp [partsL]
    have hL2 : L = (pre ++ sep) ++ (textF f (k0, a, b) ++ (partsL f ps ++ last)) := by rw [hL1]; simp
    have htl : (textF f (k0, a, b)).length = b - a := textF_len _ _
    have h1 := pass_skip sep L pre _ false hL1 hp
    have hq : (pre ++ sep).length = pre.length + sep.length := by simp
    obtain ⟨q, hqq⟩ : ∃ q, q = pre.length + sep.length := ⟨_, rfl⟩
    rw [← hqq] at h1 hq
    have hLl : L.length = q + (b - a) + (partsL f ps ++ last).length := by rw [hL2, List.length_append, hq, List.length_append, htl]; omega
    have h0 : ∀ j, j < b - a → gL L (q + j) = f (a + j) := by
      intro j hj
      rw [hL2, ← hq, gL_in _ _ _ _ (by rw [htl]; exact hj)]
      exact textF_get f (k0, a, b) j hj
    have hE : q + (b - a) = L.length ∨ blk (gL L (q + (b - a))) = true := by
      cases hr : partsL f ps ++ last with
      | nil => left; rw [hLl, hr]; rfl
      | cons c cs =>
        right
        have hc : gL L (q + (b - a)) = c := by
          have e : L = (pre ++ sep ++ textF f (k0, a, b)) ++ c :: cs := by rw [hL2, hr]; simp
          have el : (pre ++ sep ++ textF f (k0, a, b)).length = q + (b - a) := by rw [List.length_append, hq, htl]
          rw [e, ← el]
          exact gL_at _ _ _
        rw [hc]
        cases ps with
        | nil =>
          have : last = c :: cs := by simpa [partsL] using hr
          rw [this] at hlast
          exact pass_head hlast
        | cons y ys =>
          have hy := hsep y (List.mem_cons_self ..)
          have hyp := (hps y (List.mem_cons_of_mem _ (List.mem_cons_self ..))).2
          cases hys : y.1 with
          | nil => exact absurd hys hy
          | cons d ds =>
            have hd : d = c := by
              have : partsL f (y :: ys) ++ last = d :: (ds ++ (textF f y.2 ++ (partsL f ys ++ last))) := by simp [partsL, hys]
              rw [this] at hr
              exact (List.cons.inj hr).1
            rw [hys] at hyp
            rw [← hd]
            exact pass_head hyp
    obtain ⟨t1, t2, t3⟩ := tok_again ga ge gb h0 (by rw [hLl]; omega) hE
    have hnb : blk (gL L q) = false := by rw [t3]; exact tok_blk ge
    have hs : skip (gL L) L.length pre.length false = q := h1.trans (skip_stay (by rw [hLl]; omega) hnb)
    have hpl : (pre ++ (sep ++ textF f (k0, a, b))).length = q + (b - a) := by rw [← List.append_assoc, List.length_append, hq, htl]
    obtain ⟨ts', e1, e2, e3⟩ := ih L (pre ++ (sep ++ textF f (k0, a, b))) m (acc ++ [(tokKind (f a), q, q + (b - a))]) (by rw [hL1]; simp) (fun y hy => hps y (List.mem_cons_of_mem _ hy))
      (fun y hy => hsep y (List.mem_of_mem_tail hy)) (by rw [hpl]; omega)
    rw [hpl] at e1
    refine ⟨(k0, q, q + (b - a)) :: ts', ?_, ?_, ?_⟩
    · rw [lexGo, hs, if_neg (by rw [hLl]; omega), t1, if_neg (fun h => h rfl), t2, t3, e1, gk]
      simp
    · rw [List.map_cons, List.map_cons, e2]
      congr 2
      exact textF_eq (by dsimp only; omega) (fun j hj => h0 j (by dsimp only at hj; omega))
    · intro t ht
      rcases List.mem_cons.1 ht with rfl | ht
      · dsimp only; omega
      · exact e3 t ht
end Go.Proofs.YtneiajkcikcnnaaDoor.Lx
/- plumblineref10.All. -/
namespace Go.Proofs.YtneiajkcikcnnaaDoor
open Go.RowKit
open Lx

theorem cls5_eq {c : Nat} (hc : c < 256) : decide (clsB c = 5) = blk c := by
  have h : allC (fun c => decide (clsB c = 5) == blk c) 256 = true := by decide +kernel
  exact eq_of_beq (allC_spec h hc)
theorem cls_let {c : Nat} (h : letB c = true) : clsB c = 1 := by unfold clsB; rw [if_pos h]
theorem cls_dig {c : Nat} (hc : c < 256) (h : digB c = true) : clsB c = 2 := by
  have k : allC (fun c => !digB c || decide (clsB c = 2)) 256 = true := by decide +kernel
  have := allC_spec k hc
  rw [h] at this; simpa using this
theorem cls_big {c : Nat} (hc : c < 256) (h : bigB c = true) : clsB c = 4 := by
  have k : allC (fun c => !bigB c || decide (clsB c = 4)) 256 = true := by decide +kernel
  have := allC_spec k hc
  rw [h] at this; simpa using this
theorem cls_sgn {c : Nat} (hc : c < 256) (h : sgnB c = true) : clsB c = 6 := by
  have k : allC (fun c => !sgnB c || decide (clsB c = 6)) 256 = true := by decide +kernel
  have := allC_spec k hc
  rw [h] at this; simpa using this
theorem cls_none {c : Nat} (hc : c < 256) (h1 : letB c = false) (h2 : digB c = false) (h3 : bigB c = false) (h4 : sgnB c = false) (h5 : blk c = false) : clsB c = 0 ∨ clsB c = 3 := by
  have k : allC (fun c => letB c || digB c || bigB c || sgnB c || blk c || decide (clsB c = 0 ∨ clsB c = 3)) 256 = true := by decide +kernel
  have := allC_spec k hc
  rw [h1, h2, h3, h4, h5] at this; simpa using this
/-- What the loop of plumblineref10.All keeps: its list, its result's variable, and all that was there. -/
def RSt (s : ByteArray) (w wr : World) (c : Value) (acc : List Tok) : Prop :=
  LRow 58 4 wr (w.heap.size + 1) c acc.length (flatK (acc.map (tk s))) ∧ PBox wr w.heap.size (.int .i64 0) (.int .i64 0) ∧ Below w.heap.size w wr
theorem RSt.mk {s : ByteArray} {w wr : World} {c : Value} {acc : List Tok} (h1 : LRow 58 4 wr (w.heap.size + 1) c acc.length (flatK (acc.map (tk s)))) (h2 : PBox wr w.heap.size (.int .i64 0) (.int .i64 0)) (h3 : Below w.heap.size w wr) : RSt s w wr c acc := ⟨h1, h2, h3⟩
theorem RSt.next {s : ByteArray} {w wr wr' : World} {c : Value} {acc : List Tok} (h : RSt s w wr c acc) (hb : Below wr.heap.size wr wr') : RSt s w wr' c acc :=
  ⟨h.1.below hb, h.2.1.next hb, h.2.2.next hb⟩
def RAllPost (s : ByteArray) (w : World) (e : Ending) (w' : World) : Prop :=
  ∃ v, e = .returned (.tuple #[v, .agg #[.int .i64 ((resPos s (lexAll (byteAt s) s.size)).1 : Nat), .int .i64 ((resPos s (lexAll (byteAt s) s.size)).2 : Nat)], .int .i64 ((lexAll (byteAt s) s.size).code : Nat)]) ∧ Below w.heap.size w w' ∧
    LRow 58 4 w' w.heap.size v (lexAll (byteAt s) s.size).toks.length (flatK ((lexAll (byteAt s) s.size).toks.map (tk s)))
theorem go_err {f : Nat → Nat} {n m i j er : Nat} {acc : List Tok} (hs : skip f n i false = j) (hj : j < n) (hm : 0 < m) (he : tokErr f n j = er) (h0 : er ≠ 0) : lexGo f n m i acc = ⟨[], er, j⟩ := by
  obtain ⟨k, rfl⟩ : ∃ k, m = k + 1 := ⟨m - 1, by omega⟩
  rw [lexGo, hs, if_neg (by omega), he, if_pos h0]
theorem go_tok {f : Nat → Nat} {n m i j E kk : Nat} {acc : List Tok} (hs : skip f n i false = j) (hj : j < n) (hm : 0 < m) (he : tokErr f n j = 0) (hE : tokEnd f n j = E) (hk : tokKind (f j) = kk) : lexGo f n m i acc = lexGo f n (m - 1) E (acc ++ [(kk, j, E)]) := by
  obtain ⟨k, rfl⟩ : ∃ k, m = k + 1 := ⟨m - 1, by omega⟩
  rw [lexGo, hs, if_neg (by omega), he, if_neg (fun h => h rfl), hE, hk]
  rfl
theorem grown2 {w0 w w' : World} {row : Option Nat} (h : Below w0.heap.size w0 w) (k : w.grownBy w' row) : w0.grownBy w' row :=
  ⟨k.os.trans h.os, k.tape.trans h.tape, k.output.trans h.output, Nat.le_trans h.size k.size, fun i hi hne => (k.block i (Nat.lt_of_lt_of_le hi h.size) hne).trans (h.block i hi)⟩
theorem PBox.cells {w : World} {g : Nat} {x y : Value} (h : PBox w g x y) : w.cell? ⟨g, 0, none⟩ = some x ∧ w.cell? ⟨g, 1, none⟩ = some y := by
  unfold PBox at h
  constructor <;> simp [World.cell?, h]
set_option maxRecDepth 100000 in
set_option maxHeartbeats 2000000 in
theorem rall_long (s : ByteArray) (w : World) (hs : s.size ≤ 9223372036854775807) (hl : 16384 < s.size) : Calls Tryd.prog 6 #[.string s] w (RAllPost s w) := by
  have e : lexAll (byteAt s) s.size = ⟨[], 2, 0⟩ := if_pos hl
  have HP := hide (show ∀ v w', (v = .slice none 0 0) → Below w.heap.size w w' → RAllPost s w (.returned (.tuple #[v, .agg #[.int .i64 (1 : Int), .int .i64 (1 : Int)], .int .i64 (2 : Int)])) w' from by
    intro v w' hv hb
    subst hv
    refine ⟨.slice none 0 0, ?_, hb, ?_⟩
    · rw [e]; rfl
    · rw [e]; exact LRow.nil _ _ _ _)
  have x1 : (w.alloc (.cells #[.int .i64 0, .int .i64 0] 26)).heap[w.heap.size]? = some (.cells #[.int .i64 0, .int .i64 0] 26 (0, 0)) := heap_alloc_new w _
  have b0 := hide (bl_alloc w (.cells #[.int .i64 0, .int .i64 0] 26))
  clear e
  go_enter Tryd.func6, Tryd.ntmps6
  go_wp2_with (with_reducible refine wpList_store_row rfl 26 _ _ rfl w.heap.size #[.int .i64 (1 : Int), .int .i64 (1 : Int)] rfl rfl 26 #[.int .i64 0, .int .i64 0] x1 (by kernel_rfl) rfl (by simp [Value.oneCell']) ?_)
  refine bodyPost_all (g := w.heap.size) (x := .int .i64 (1 : Int)) (y := .int .i64 (1 : Int)) rfl rfl rfl rfl (setRow_heap _ _ _ _ _ _ x1) rfl ?_
  exact HP.out _ _ rfl (b0.out.trans ((only_setRow' _ _ _).below b0.out.size (Nat.le_refl _)))
end Go.Proofs.YtneiajkcikcnnaaDoor
