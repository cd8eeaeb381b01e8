/- Texts of one seat, put together: ExprMem BoxG ExprCur. -/
import Derived.Test.YtneiajkcikcnnaaDoorB04
import Derived.Test.YtneiajkcikcnnaaDoorB06
set_option linter.unusedVariables false
/- Sums and trees in memory; what is left of a list of tokens. -/
namespace Go.Proofs.YtneiajkcikcnnaaDoor
open Go.RowKit
open Lx Ex

def pt (t : TK) : PT := (t.kind, t.text)
def endK : TK := ⟨5, ⟨#[]⟩, 0, 0⟩
/-- What is left from i on: the last one stays. -/
def view (ts : List TK) (i : Nat) : List TK := if ts.length = 0 then [endK] else ts.drop (min i (ts.length - 1))
def rd (ts : List TK) (i : Nat) : List PT := (view ts i).map pt
def hd (ts : List TK) (i : Nat) : TK := (view ts i).headD endK
/-- The last one is an End. -/
def EndsK (ts : List TK) : Prop := ∀ t, ts[ts.length - 1]? = some t → t.kind = 5
theorem view_ne (ts : List TK) (i : Nat) : 0 < (view ts i).length := by
  unfold view
  split
  · simp
  · rw [List.length_drop]; omega
theorem rd_len (ts : List TK) (i : Nat) : (rd ts i).length = (view ts i).length := by simp [rd]
theorem rd_pos (ts : List TK) (i : Nat) : 0 < (rd ts i).length := by rw [rd_len]; exact view_ne ts i
theorem rd_cons (ts : List TK) (i : Nat) : rd ts i = pt (hd ts i) :: (rd ts i).tail := by
  unfold rd hd
  have := view_ne ts i
  cases hv : view ts i with
  | nil => rw [hv] at this; simp at this
  | cons t r => rfl
theorem hd_in (ts : List TK) (i : Nat) (h : 0 < ts.length) : ts[min i (ts.length - 1)]? = some (hd ts i) := by
  have hl : min i (ts.length - 1) < ts.length := by omega
  unfold hd view
  rw [if_neg (by omega), List.drop_eq_getElem_cons hl, List.getElem?_eq_getElem hl]
  rfl
theorem hd_nil (ts : List TK) (i : Nat) (h : ts.length = 0) : hd ts i = endK := by
  unfold hd view
  rw [if_pos h]; rfl
theorem rd_step {ts : List TK} {i : Nat} (he : EndsK ts) (hk : (hd ts i).kind ≠ 5) : rd ts (i + 1) = (rd ts i).tail ∧ (rd ts (i + 1)).length + 1 = (rd ts i).length ∧ i + 1 < ts.length := by
  have h0 : ts.length ≠ 0 := fun h => hk (by rw [hd_nil ts i h]; rfl)
  have h1 : i < ts.length - 1 := by
    rcases Nat.lt_or_ge i (ts.length - 1) with h | h
    · exact h
    · have h2 := hd_in ts i (by omega)
      rw [Nat.min_eq_right h] at h2
      exact absurd (he _ h2) hk
  have e1 : rd ts i = (ts.drop i).map pt := by
    unfold rd view
    rw [if_neg h0, Nat.min_eq_left (by omega)]
  have e2 : rd ts (i + 1) = (ts.drop (i + 1)).map pt := by
    unfold rd view
    rw [if_neg h0, Nat.min_eq_left (by omega)]
  rw [e1, e2]
  refine ⟨?_, ?_, by omega⟩
  · rw [List.drop_eq_getElem_cons (show i < ts.length by omega)]; rfl
  · simp; omega
theorem isT_hd (s : ByteArray) (ts : List TK) (i : Nat) : isT s (rd ts i) = (decide ((hd ts i).text = s) && ((hd ts i).kind == 1 || (hd ts i).kind == 2 || (hd ts i).kind == 4)) := by
  rw [rd_cons]; rfl
theorem isT_step {ts : List TK} {i : Nat} (he : EndsK ts) {s : ByteArray} (h : isT s (rd ts i) = true) : rd ts (i + 1) = (rd ts i).tail ∧ (rd ts (i + 1)).length + 1 = (rd ts i).length ∧ i + 1 < ts.length := by
  refine rd_step he (fun h5 => ?_)
  rw [isT_hd, h5] at h
  simp at h

/-- A sum's cells. -/
def Ex.Mn.cells (m : Mn) : List Value := [.bool m.neg, .string m.num, .string m.var]
def flatM (l : List Mn) : List Value := (l.map Ex.Mn.cells).flatten
theorem flatM_append (ps qs : List Mn) : flatM (ps ++ qs) = flatM ps ++ flatM qs := by unfold flatM; rw [List.map_append, List.flatten_append]
theorem flatM_cons (t : Mn) (ts : List Mn) : flatM (t :: ts) = t.cells ++ flatM ts := rfl
theorem flatM_len (l : List Mn) : (flatM l).length = 3 * l.length := by
  induction l with
  | nil => rfl
  | cons m l ih => rw [flatM_cons, List.length_append, ih, List.length_cons]; show 3 + _ = _; omega
theorem flatM_mem {ps : List Mn} {u : Value} (hu : u ∈ flatM ps) : (∃ z : Bool, u = .bool z) ∨ ∃ s, u = .string s := by
  unfold flatM at hu
  obtain ⟨l, hl, hu⟩ := List.mem_flatten.1 hu
  obtain ⟨p, -, rfl⟩ := List.mem_map.1 hl
  simp [Mn.cells] at hu
  rcases hu with rfl | rfl | rfl
  · exact Or.inl ⟨_, rfl⟩
  · exact Or.inr ⟨_, rfl⟩
  · exact Or.inr ⟨_, rfl⟩
theorem flatM_one (ps : List Mn) : ∀ u ∈ flatM ps, u.oneCell' = true := by
  intro u hu
  rcases flatM_mem hu with ⟨z, rfl⟩ | ⟨s, rfl⟩ <;> rfl
theorem flatM_nls (ps : List Mn) : NLs (flatM ps) := by
  intro u hu
  rcases flatM_mem hu with ⟨z, rfl⟩ | ⟨s, rfl⟩
  · exact NL.bool _
  · intro z h; cases h
theorem flatM_get (l : List Mn) (i : Nat) (m : Mn) (h : l[i]? = some m) : (flatM l)[3 * i]? = some (.bool m.neg) ∧ (flatM l)[3 * i + 1]? = some (.string m.num) ∧ (flatM l)[3 * i + 2]? = some (.string m.var) := by
  induction l generalizing i with
  | nil => simp at h
  | cons q ts ih =>
    rw [flatM_cons]
    cases i with
    | zero =>
      simp at h; subst h
      exact ⟨rfl, rfl, rfl⟩
    | succ i =>
      have h2 := ih i (by simpa using h)
      have hl : q.cells.length = 3 := rfl
      rw [show 3 * (i + 1) = q.cells.length + 3 * i by rw [hl]; omega, show q.cells.length + 3 * i + 1 = q.cells.length + (3 * i + 1) by omega, show q.cells.length + 3 * i + 2 = q.cells.length + (3 * i + 2) by omega,
        List.getElem?_append_right (by omega), List.getElem?_append_right (by omega), List.getElem?_append_right (by omega)]
      simpa using h2
/-- The blocks of S that were there are as they were. -/
def Keep (S : Nat → Prop) (w w' : World) : Prop := w.heap.size ≤ w'.heap.size ∧ ∀ b, S b → b < w.heap.size → w'.heap[b]? = w.heap[b]?
/-- The blocks from B on. -/
def From (B b : Nat) : Prop := B ≤ b
theorem Keep.of_below {S : Nat → Prop} {w w' : World} (h : Below w.heap.size w w') : Keep S w w' := ⟨h.size, fun b _ hb => h.block b hb⟩
theorem Keep.of_only' {S : Nat → Prop} {g : Nat} {w w' : World} (h : Only g w w') (hg : ¬ S g) : Keep S w w' := ⟨h.size, fun b hB hb => h.block b hb (fun e => by injection e with e; subst e; exact hg hB)⟩
theorem Keep.of_only {B g : Nat} {w w' : World} (h : Only g w w') (hg : g < B) : Keep (From B) w w' := Keep.of_only' h (fun hh => by unfold From at hh; omega)
theorem Keep.refl (S : Nat → Prop) (w : World) : Keep S w w := ⟨Nat.le_refl _, fun _ _ _ => rfl⟩
theorem Keep.trans {S : Nat → Prop} {a b c : World} (h : Keep S a b) (k : Keep S b c) : Keep S a c := ⟨Nat.le_trans h.1 k.1, fun i hB hi => (k.2 i hB (Nat.lt_of_lt_of_le hi h.1)).trans (h.2 i hB hi)⟩
/-- A slice of a sum's parts, from block B on. -/
def MIn (S : Nat → Prop) (w : World) (A : Option Addr) (n : Nat) (l : List Mn) : Prop :=
  l.length = n ∧ (0 < n → ∃ b o, A = some ⟨b, o, none⟩ ∧ S b ∧ b < w.heap.size ∧ ∀ j u, (flatM l)[j]? = some u → w.cell? ⟨b, o + j, none⟩ = some u)
theorem MIn.keep {S : Nat → Prop} {w w' : World} {A : Option Addr} {n : Nat} {l : List Mn} (h : MIn S w A n l) (k : Keep S w w') : MIn S w' A n l := by
  refine ⟨h.1, fun hn => ?_⟩
  obtain ⟨b, o, e, hB, hlt, hc⟩ := h.2 hn
  exact ⟨b, o, e, hB, Nat.lt_of_lt_of_le hlt k.1, fun j u hu => (World.cell?_of_block (w := w) (a := ⟨b, o + j, none⟩) (k.2 b hB hlt)).trans (hc j u hu)⟩
theorem MIn.sub {S S' : Nat → Prop} {w : World} {A : Option Addr} {n : Nat} {l : List Mn} (h : MIn S w A n l) (hB : ∀ b, S b → S' b) : MIn S' w A n l := by
  refine ⟨h.1, fun hn => ?_⟩
  obtain ⟨b, o, e, h1, hlt, hc⟩ := h.2 hn
  exact ⟨b, o, e, hB b h1, hlt, hc⟩
theorem MIn.mono {B B' : Nat} {w : World} {A : Option Addr} {n : Nat} {l : List Mn} (h : MIn (From B) w A n l) (hB : B' ≤ B) : MIn (From B') w A n l := h.sub (fun b hb => Nat.le_trans hB hb)
theorem MIn.nil (S : Nat → Prop) (w : World) (A : Option Addr) : MIn S w A 0 [] := ⟨rfl, fun h => absurd h (by omega)⟩
theorem MIn.at_ {S : Nat → Prop} {w : World} {A : Option Addr} {n i : Nat} {l : List Mn} (h : MIn S w A n l) (hi : i < n) : ∃ b o m, A = some ⟨b, o, none⟩ ∧ b < w.heap.size ∧ l[i]? = some m ∧ w.cell? ⟨b, o + i * 3, none⟩ = some (.bool m.neg) ∧ w.cell? ⟨b, o + i * 3 + 1, none⟩ = some (.string m.num) ∧ w.cell? ⟨b, o + i * 3 + 2, none⟩ = some (.string m.var) := by
  obtain ⟨b, o, e, hB, hlt, hc⟩ := h.2 (by omega)
  have hl : i < l.length := by rw [h.1]; exact hi
  obtain ⟨g0, g1, g2⟩ := flatM_get l i l[i] (List.getElem?_eq_getElem hl)
  refine ⟨b, o, l[i], e, hlt, List.getElem?_eq_getElem hl, ?_, ?_, ?_⟩
  · rw [show o + i * 3 = o + 3 * i by omega]; exact hc _ _ g0
  · rw [show o + i * 3 + 1 = o + (3 * i + 1) by omega]; exact hc _ _ g1
  · rw [show o + i * 3 + 2 = o + (3 * i + 2) by omega]; exact hc _ _ g2
theorem LRow.min {T : TypeId} {w : World} {base : Nat} {v : Value} {l : List Mn} (h : LRow T 3 w base v l.length (flatM l)) : ∃ A c, v = .slice A l.length c ∧ l.length ≤ c ∧ c ≤ 9223372036854775807 ∧ MIn (From base) w A l.length l := by
  obtain ⟨A, c, rfl, h1, h2, h3⟩ := h.len
  refine ⟨A, c, rfl, h1, h2, rfl, fun hn => ?_⟩
  obtain ⟨g, rfl, hb, hlt, hc⟩ := h.cell hn
  exact ⟨g, 0, rfl, hb, hlt, fun j u hu => by rw [Nat.zero_add]; exact (hc j u hu).1⟩

/-- A tree, whatever it holds. -/
inductive GT where
  | mk (kind : Int) (l r : List Mn) (op : Int) (proc loc : ByteArray) (kids : List GT)
def sl (A : Option Addr) (n c : Nat) : Value := .slice A n c
/-- The seven cells of a tree in memory, from block B on. -/
inductive TIn (S : Nat → Prop) (w : World) : GT → List Value → Prop where
  | mk (k op : Int) (l r : List Mn) (p q : ByteArray) (kids : List GT) (Al Ar A : Option Addr) (nl cl nr cr n c : Nat) (b o : Nat) (cs : Nat → List Value) :
      MIn S w Al nl l → MIn S w Ar nr r → kids.length = n → nl ≤ cl → cl ≤ 9223372036854775807 → nr ≤ cr → cr ≤ 9223372036854775807 → n ≤ c → c ≤ 9223372036854775807 →
      (0 < n → A = some ⟨b, o, none⟩ ∧ S b ∧ b < w.heap.size) →
      (∀ j, j < n → (cs j).length = 7 ∧ ∀ m u, (cs j)[m]? = some u → w.cell? ⟨b, o + j * 7 + m, none⟩ = some u) →
      (∀ j t, kids[j]? = some t → TIn S w t (cs j)) →
      TIn S w (.mk k l r op p q kids) [.int .i64 k, .slice Al nl cl, .slice Ar nr cr, .int .i64 op, .string p, .string q, .slice A n c]
theorem TIn.keep {S : Nat → Prop} {w w' : World} {t : GT} {vs : List Value} (h : TIn S w t vs) (k : Keep S w w') : TIn S w' t vs := by
  induction h with
  | mk kd op l r p q kids Al Ar A nl cl nr cr n c b o cs h1 h2 h3 h4 h5 h6 h7 h8 h9 h10 h11 h12 ih =>
    refine TIn.mk kd op l r p q kids Al Ar A nl cl nr cr n c b o cs (h1.keep k) (h2.keep k) h3 h4 h5 h6 h7 h8 h9 (fun hn => ⟨(h10 hn).1, (h10 hn).2.1, Nat.lt_of_lt_of_le (h10 hn).2.2 k.1⟩) (fun j hj => ⟨(h11 j hj).1, fun m u hu => ?_⟩) ih
    have hb := h10 (by omega)
    exact (World.cell?_of_block (w := w) (a := ⟨b, o + j * 7 + m, none⟩) (k.2 b hb.2.1 hb.2.2)).trans ((h11 j hj).2 m u hu)
theorem TIn.sub {S S' : Nat → Prop} {w : World} {t : GT} {vs : List Value} (h : TIn S w t vs) (hB : ∀ b, S b → S' b) : TIn S' w t vs := by
  induction h with
  | mk kd op l r p q kids Al Ar A nl cl nr cr n c b o cs h1 h2 h3 h4 h5 h6 h7 h8 h9 h10 h11 h12 ih =>
    exact TIn.mk kd op l r p q kids Al Ar A nl cl nr cr n c b o cs (h1.sub hB) (h2.sub hB) h3 h4 h5 h6 h7 h8 h9 (fun hn => ⟨(h10 hn).1, hB _ (h10 hn).2.1, (h10 hn).2.2⟩) h11 ih
theorem TIn.mono {B B' : Nat} {w : World} {t : GT} {vs : List Value} (h : TIn (From B) w t vs) (hB : B' ≤ B) : TIn (From B') w t vs := h.sub (fun b hb => Nat.le_trans hB hb)
/-- What is parsed, as a tree. -/
def gt : Tr → GT
  | .leaf b => .mk (if b then 0 else 1) [] [] 0 ⟨#[]⟩ ⟨#[]⟩ []
  | .cmp l op r => .mk 2 l r (op : Int) ⟨#[]⟩ ⟨#[]⟩ []
  | .deny t => .mk 3 [] [] 0 ⟨#[]⟩ ⟨#[]⟩ [gt t]
  | .both a b => .mk 4 [] [] 0 ⟨#[]⟩ ⟨#[]⟩ [gt a, gt b]
  | .any a b => .mk 5 [] [] 0 ⟨#[]⟩ ⟨#[]⟩ [gt a, gt b]
def nul : Value := .slice none 0 0
def leafV (k : Int) : List Value := [.int .i64 k, .slice none 0 0, .slice none 0 0, .int .i64 0, .string ⟨#[]⟩, .string ⟨#[]⟩, .slice none 0 0]
theorem TIn.leaf (S : Nat → Prop) (w : World) (k : Int) : TIn S w (.mk k [] [] 0 ⟨#[]⟩ ⟨#[]⟩ []) (leafV k) :=
  TIn.mk k 0 [] [] _ _ [] none none none 0 0 0 0 0 0 0 0 (fun _ => []) (MIn.nil _ _ _) (MIn.nil _ _ _) rfl (by omega) (by omega) (by omega) (by omega) (by omega) (by omega) (fun h => absurd h (by omega)) (fun j h => absurd h (by omega)) (fun j t h => by simp at h)
theorem TIn.cmp {S : Nat → Prop} {w : World} {Al Ar : Option Addr} {nl cl nr cr : Nat} {l r : List Mn} (k op : Int) (h1 : MIn S w Al nl l) (h2 : MIn S w Ar nr r) (h3 : nl ≤ cl) (h4 : cl ≤ 9223372036854775807) (h5 : nr ≤ cr) (h6 : cr ≤ 9223372036854775807) :
    TIn S w (.mk k l r op ⟨#[]⟩ ⟨#[]⟩ []) [.int .i64 k, .slice Al nl cl, .slice Ar nr cr, .int .i64 op, .string ⟨#[]⟩, .string ⟨#[]⟩, .slice none 0 0] :=
  TIn.mk k op l r _ _ [] Al Ar none nl cl nr cr 0 0 0 0 (fun _ => []) h1 h2 rfl h3 h4 h5 h6 (by omega) (by omega) (fun h => absurd h (by omega)) (fun j h => absurd h (by omega)) (fun j t h => by simp at h)
theorem TIn.len {S : Nat → Prop} {w : World} {t : GT} {vs : List Value} (h : TIn S w t vs) : vs.length = 7 := by cases h; rfl
/-- A tree whose kids lie in a block of their own. -/
theorem TIn.kids {S : Nat → Prop} {g : Nat} {w : World} {T : TypeId} (k : Int) (kids : List GT) (css : List (List Value)) (hl : kids.length = css.length) (hB : S g) (hg : w.heap[g]? = some (.cells css.flatten.toArray T (0, 0)))
    (hk : ∀ (j : Nat) (t : GT), kids[j]? = some t → ∃ cs : List Value, css[j]? = some cs ∧ TIn S w t cs) (hn : kids.length ≤ 1000) :
    TIn S w (.mk k [] [] 0 ⟨#[]⟩ ⟨#[]⟩ kids) [.int .i64 k, .slice none 0 0, .slice none 0 0, .int .i64 0, .string ⟨#[]⟩, .string ⟨#[]⟩, .slice (some ⟨g, 0, none⟩) kids.length kids.length] := by
  have hlen : ∀ cs ∈ css, cs.length = 7 := by
    intro cs hc
    obtain ⟨j, hj, he⟩ := List.mem_iff_getElem.1 hc
    obtain ⟨cs', h1, h2⟩ := hk j kids[j] (List.getElem?_eq_getElem (by omega))
    rw [List.getElem?_eq_getElem hj, he] at h1
    injection h1 with h1; subst h1
    exact h2.len
  refine TIn.mk k 0 [] [] _ _ kids none none (some ⟨g, 0, none⟩) 0 0 0 0 kids.length kids.length g 0 (fun j => css.getD j []) (MIn.nil _ _ _) (MIn.nil _ _ _) rfl (by omega) (by omega) (by omega) (by omega) (Nat.le_refl _) (by omega)
    (fun _ => ⟨rfl, hB, (Array.getElem?_eq_some_iff.1 hg).1⟩) (fun j hj => ?_) (fun j t ht => ?_)
  · have hj' : j < css.length := by omega
    have e : css.getD j [] = css[j] := by simp [hj']
    have h7 : (css[j]).length = 7 := hlen _ (List.getElem_mem hj')
    refine ⟨by rw [e]; exact h7, fun m u hu => ?_⟩
    rw [e] at hu
    have hm : m < 7 := by
      rcases Nat.lt_or_ge m 7 with h | h
      · exact h
      · rw [List.getElem?_eq_none (by omega)] at hu; cases hu
    rw [cell_of_row w g _ _ _ _ hg]
    have hf : ∀ (xs : List (List Value)) (j : Nat) (h : j < xs.length), (∀ cs ∈ xs, cs.length = 7) → (xs[j])[m]? = some u → xs.flatten[j * 7 + m]? = some u := by
      intro xs
      induction xs with
      | nil => intro j h; simp at h
      | cons x xs ih =>
        intro j h ha hu
        have hx : x.length = 7 := ha x (by simp)
        rw [List.flatten_cons]
        cases j with
        | zero => rw [List.getElem?_append_left (by omega)]; simpa using hu
        | succ j =>
          rw [List.getElem?_append_right (by omega), hx, show (j + 1) * 7 + m - 7 = j * 7 + m by omega]
          exact ih j (by simpa using h) (fun cs hc => ha cs (by simp [hc])) (by simpa using hu)
    simpa using hf css j hj' hlen hu
  · obtain ⟨cs, h1, h2⟩ := hk j t ht
    have : css.getD j [] = cs := by rw [List.getD_eq_getElem?_getD, h1]; rfl
    rw [this]; exact h2
end Go.Proofs.YtneiajkcikcnnaaDoor
/- Boxes of whatever struct. -/
namespace Go.Proofs.YtneiajkcikcnnaaDoor
open Go.RowKit

theorem only_setRow2 (w : World) (g : Nat) (cs : Array Value) : Only g w (w.setRow g cs) :=
  ⟨rfl, rfl, rfl, by simp [World.setRow], fun k _ hne => setRow_other w g k cs (fun hh => hne (by rw [hh]))⟩
theorem size_alloc2 (w : World) (o : Obj) : (w.alloc o).heap.size = w.heap.size + 1 := by
  show (w.heap.push o).size = _
  simp
/-- Block g is a variable of type T of these cells. -/
def Box (T : TypeId) (w : World) (g : Nat) (cs : Array Value) : Prop := w.heap[g]? = some (.cells cs T (0, 0))
section
variable {T : TypeId} {w w' : World} {g k : Nat} {cs : Array Value} {x y z : Value}
theorem Box.lt (h : Box T w g cs) : g < w.heap.size := (Array.getElem?_eq_some_iff.1 h).1
theorem Box.cell (h : Box T w g cs) (i : Nat) (v : Value) (hv : cs[i]? = some v) : w.cell? ⟨g, i, none⟩ = some v := by
  rw [cell_of_row w g i _ _ _ h]; exact hv
theorem Box.c0 (h : Box T w g #[x, y, z]) : w.cell? ⟨g, 0, none⟩ = some x := h.cell 0 x rfl
theorem Box.c1 (h : Box T w g #[x, y, z]) : w.cell? ⟨g, 1, none⟩ = some y := h.cell 1 y rfl
theorem Box.c2 (h : Box T w g #[x, y, z]) : w.cell? ⟨g, 2, none⟩ = some z := h.cell 2 z rfl
theorem Box.fr (h : Box T w g cs) (i : Nat) : w.frozen? ⟨g, i, none⟩ = false := by unfold Box at h; simp [World.frozen?, h]
theorem Box.below {B : Nat} (h : Box T w g cs) (hb : Below B w w') (hg : g < B) : Box T w' g cs := (hb.block g hg).trans h
theorem Box.next (h : Box T w g cs) (hb : Below w.heap.size w w') : Box T w' g cs := h.below hb h.lt
theorem Box.new (T : TypeId) (w : World) (cs : Array Value) : Box T (w.alloc (.cells cs T)) w.heap.size cs := heap_alloc_new w _
theorem Box.alloc (h : Box T w g cs) (o : Obj) : Box T (w.alloc o) g cs := h.next (bl_alloc w o)
theorem Box.drew (h : Box T w g cs) : Box T w.drew g cs := h
theorem Box.other (h : Box T w g cs) (ho : Only k w w') (hne : g ≠ k) : Box T w' g cs := (ho.block g h.lt (fun hh => hne (by injection hh))).trans h
theorem Box.grown {row : Option Nat} (h : Box T w g cs) (ho : w.grownBy w' row) (hne : some g ≠ row) : Box T w' g cs := (ho.block g h.lt hne).trans h
theorem Box.set3 (h : Box T w g #[x, y, z]) (x' y' z' : Value) : Box T (((w.setCell ⟨g, 0, none⟩ x').setCell ⟨g, 1, none⟩ y').setCell ⟨g, 2, none⟩ z') g #[x', y', z'] := by
  unfold Box at h ⊢
  simp [World.setCell, Array.getElem?_modify, h]
theorem Box.set_0 (h : Box T w g #[x, y, z]) (x' : Value) : Box T (w.setCell ⟨g, 0, none⟩ x') g #[x', y, z] := by
  unfold Box at h ⊢
  simp [World.setCell, Array.getElem?_modify, h]
theorem only_set3 (w : World) (g : Nat) (x y z : Value) : Only g w (((w.setCell ⟨g, 0, none⟩ x).setCell ⟨g, 1, none⟩ y).setCell ⟨g, 2, none⟩ z) := (((Only.refl g w).setCell 0 x).setCell 1 y).setCell 2 z
theorem only_set1 (w : World) (g i : Nat) (x : Value) : Only g w (w.setCell ⟨g, i, none⟩ x) := (Only.refl g w).setCell i x
theorem Box.kp (h : Box T w g cs) (hn : NLs cs.toList) (ho : Only g w w') : Kp w w' := Kp.block h hn ho
theorem nl3 (hx : NL x) (hy : NL y) (hz : NL z) : NLs (#[x, y, z] : Array Value).toList := by
  intro u hu
  simp at hu
  rcases hu with rfl | rfl | rfl <;> assumption
theorem nl2 (hx : NL x) (hy : NL y) : NLs (#[x, y] : Array Value).toList := by
  intro u hu
  simp at hu
  rcases hu with rfl | rfl <;> assumption
theorem bstart1 (T : TypeId) (w : World) (X : Array Value) : Box T (w.alloc (.cells X T)) w.heap.size X ∧ Below w.heap.size w (w.alloc (.cells X T)) ∧ (w.alloc (.cells X T)).heap.size = w.heap.size + 1 :=
  ⟨Box.new T w X, bl_alloc w _, size_alloc2 w _⟩
theorem bstart2 (T U : TypeId) (w : World) (X Y : Array Value) : Box T ((w.alloc (.cells X T)).alloc (.cells Y U)) w.heap.size X ∧ Box U ((w.alloc (.cells X T)).alloc (.cells Y U)) (w.heap.size + 1) Y ∧
    Below w.heap.size w ((w.alloc (.cells X T)).alloc (.cells Y U)) ∧ ((w.alloc (.cells X T)).alloc (.cells Y U)).heap.size = w.heap.size + 2 := by
  obtain ⟨h1, h2, h3⟩ := bstart1 T w X
  obtain ⟨k1, k2, k3⟩ := bstart1 U (w.alloc (.cells X T)) Y
  rw [h3] at k1 k3
  exact ⟨h1.alloc _, k1, h2.next (bl_alloc _ _), by omega⟩
theorem bstart3 (T U V : TypeId) (w : World) (X Y Z : Array Value) : Box T (((w.alloc (.cells X T)).alloc (.cells Y U)).alloc (.cells Z V)) w.heap.size X ∧ Box U (((w.alloc (.cells X T)).alloc (.cells Y U)).alloc (.cells Z V)) (w.heap.size + 1) Y ∧
    Box V (((w.alloc (.cells X T)).alloc (.cells Y U)).alloc (.cells Z V)) (w.heap.size + 1 + 1) Z ∧ Below w.heap.size w (((w.alloc (.cells X T)).alloc (.cells Y U)).alloc (.cells Z V)) ∧ (((w.alloc (.cells X T)).alloc (.cells Y U)).alloc (.cells Z V)).heap.size = w.heap.size + 3 := by
  obtain ⟨h1, h2, h3, h4⟩ := bstart2 T U w X Y
  obtain ⟨k1, k2, k3⟩ := bstart1 V ((w.alloc (.cells X T)).alloc (.cells Y U)) Z
  rw [h4] at k1 k3
  have e2 : w.heap.size + 2 = w.heap.size + 1 + 1 := rfl
  rw [e2] at k1
  exact ⟨h1.alloc _, h2.alloc _, k1, h3.next (bl_alloc _ _), by omega⟩
theorem bstart4 (T U V X : TypeId) (w : World) (a b c d : Array Value) : Box T ((((w.alloc (.cells a T)).alloc (.cells b U)).alloc (.cells c V)).alloc (.cells d X)) w.heap.size a ∧ Box U ((((w.alloc (.cells a T)).alloc (.cells b U)).alloc (.cells c V)).alloc (.cells d X)) (w.heap.size + 1) b ∧
    Box V ((((w.alloc (.cells a T)).alloc (.cells b U)).alloc (.cells c V)).alloc (.cells d X)) (w.heap.size + 1 + 1) c ∧ Box X ((((w.alloc (.cells a T)).alloc (.cells b U)).alloc (.cells c V)).alloc (.cells d X)) (w.heap.size + 1 + 1 + 1) d ∧
    Below w.heap.size w ((((w.alloc (.cells a T)).alloc (.cells b U)).alloc (.cells c V)).alloc (.cells d X)) ∧ ((((w.alloc (.cells a T)).alloc (.cells b U)).alloc (.cells c V)).alloc (.cells d X)).heap.size = w.heap.size + 4 := by
  obtain ⟨h1, h2, h3, h4, h5⟩ := bstart3 T U V w a b c
  obtain ⟨k1, k2, k3⟩ := bstart1 X (((w.alloc (.cells a T)).alloc (.cells b U)).alloc (.cells c V)) d
  rw [h5] at k1 k3
  have e2 : w.heap.size + 3 = w.heap.size + 1 + 1 + 1 := rfl
  rw [e2] at k1
  exact ⟨h1.alloc _, h2.alloc _, h3.alloc _, k1, h4.next (bl_alloc _ _), by omega⟩
end
/-- A store of a whole struct into its variable. -/
theorem wpList_store_box {P : Program} {w : World} {ops : Array Oper} {rest : List Oper} {o : Oper} {a : Act} {Q : Exit → Act → World → Prop} (hgd : o.guard = none) (T : TypeId) (x y : Operand) (ho : o.op = .store T x y)
    (g : Nat) (cells : Array Value) (hx : a.eval x = .pointer (some ⟨g, 0, none⟩)) (hy : a.eval y = .agg cells) (old : Array Value) (hb : Box T w g old) (hi : (P.info? T).map (·.size) = some cells.size) (hold : old.size = cells.size) (h1 : cells.all (·.oneCell') = true)
    (h : ∀ w', Box T w' g cells → Only g w w' → wpList P ops Q rest (a.put o.dst undef) w') : wpList P ops Q (o :: rest) a w := by
  refine wpList_store_row hgd T x y ho g cells hx hy T old hb hi hold h1 ?_
  refine h _ ?_ (only_setRow2 w g _)
  exact setRow_heap w g old cells _ _ hb
end Go.Proofs.YtneiajkcikcnnaaDoor
/- A cursor in memory. -/
namespace Go.Proofs.YtneiajkcikcnnaaDoor
open Go.RowKit
open Lx Ex

def memS (s : ByteArray) (xs : List ByteArray) : Bool := xs.any fun x => decide (x = s)
/-- What a cursor is over: its tokens, its names. -/
structure CD where
  A : Option Addr
  n : Nat
  c : Nat
  ts : List TK
  V : Option Addr
  m : Nat
  d : Nat
  vars : List ByteArray
  known : Bool
def CD.kn (D : CD) (s : ByteArray) : Bool := !D.known || memS s D.vars
structure CGood (D : CD) (g : Nat) : Prop where
  ends : EndsK D.ts
  apA : 0 < D.n → ∀ a, D.A = some a → a.block ≠ g
  apV : 0 < D.m → ∀ a, D.V = some a → a.block ≠ g
  nc : D.n ≤ D.c
  cm : D.c ≤ 9223372036854775807
  md : D.m ≤ D.d
  dm : D.d ≤ 9223372036854775807
  few : D.n ≤ 1000000
  small : ∀ t ∈ D.ts, t.text.size ≤ 4611686018427387904
  kinds : ∀ t ∈ D.ts, t.kind < 10
  wf : ∀ t ∈ D.ts, t.kind = 3 → rnumB t.text = true
structure Cur (D : CD) (g : Nat) (w : World) (i : Nat) : Prop where
  box : Box 35 w g #[.slice D.A D.n D.c, .int .i64 (i : Int), .slice D.V D.m D.d, .bool D.known]
  kin : KIn w D.A D.n D.ts
  sin : SIn w D.V D.m D.vars
  good : CGood D g
  fits : i + (rd D.ts i).length ≤ 1099511627776
section
variable {D : CD} {g i : Nat} {w w' : World}
theorem Cur.below (h : Cur D g w i) (hb : Below w.heap.size w w') : Cur D g w' i := ⟨h.box.next hb, h.kin.below hb, h.sin.below hb, h.good, h.fits⟩
theorem Cur.lt (h : Cur D g w i) : g < w.heap.size := h.box.lt
theorem Cur.c0 (h : Cur D g w i) : w.cell? ⟨g, 0, none⟩ = some (.slice D.A D.n D.c) := h.box.cell 0 _ rfl
theorem Cur.c1 (h : Cur D g w i) : w.cell? ⟨g, 1, none⟩ = some (.int .i64 (i : Int)) := h.box.cell 1 _ rfl
theorem Cur.c2 (h : Cur D g w i) : w.cell? ⟨g, 2, none⟩ = some (.slice D.V D.m D.d) := h.box.cell 2 _ rfl
theorem Cur.c3 (h : Cur D g w i) : w.cell? ⟨g, 3, none⟩ = some (.bool D.known) := h.box.cell 3 _ rfl
theorem Cur.len (h : Cur D g w i) : D.ts.length = D.n := h.kin.1
theorem only_set (w : World) (g j : Nat) (u : Value) : Only g w (w.setCell ⟨g, j, none⟩ u) := (Only.refl g w).setCell j u
theorem Cur.set (h : Cur D g w i) (k : Nat) (hf : k + (rd D.ts k).length ≤ 1099511627776) : Cur D g (w.setCell ⟨g, 1, none⟩ (.int .i64 (k : Int))) k := by
  refine ⟨?_, h.kin.only (only_set w g 1 _) h.good.apA, h.sin.only (only_set w g 1 _) h.good.apV, h.good, hf⟩
  have hb := h.box
  unfold Box at hb ⊢
  simp [World.setCell, Array.getElem?_modify, hb]
end
theorem Only.fresh {g r : Nat} {a b c : World} (h : Only g a b) (k : Only r b c) (hr : a.heap.size ≤ r) : Only g a c :=
  ⟨k.os.trans h.os, k.tape.trans h.tape, k.output.trans h.output, Nat.le_trans h.size k.size, fun i hi hne => (k.block i (Nat.lt_of_lt_of_le hi h.size) (fun e => by injection e with e; omega)).trans (h.block i hi hne)⟩
theorem Cur.fresh {D : CD} {g r i i0 : Nat} {a b c : World} (h0 : Cur D g a i0) (h : Cur D g b i) (k : Only r b c) (hr : a.heap.size ≤ r) : Cur D g c i := by
  have hg := h0.lt
  refine ⟨h.box.other k (by omega), h.kin.only k (fun hn x e => ?_), h.sin.only k (fun hn x e => ?_), h.good, h.fits⟩
  · obtain ⟨b0, o, e2, hlt, _⟩ := h0.kin.2 hn
    rw [e2] at e; injection e with e; subst e
    show b0 ≠ r
    omega
  · obtain ⟨b0, o, e2, hlt, _⟩ := h0.sin.2 hn
    rw [e2] at e; injection e with e; subst e
    show b0 ≠ r
    omega
theorem only_of_below {g : Nat} {w w' : World} (h : Below w.heap.size w w') : Only g w w' :=
  ⟨h.os, h.tape, h.output, h.size, fun k hk _ => h.block k hk⟩
theorem Only.next {g : Nat} {a b c : World} (h : Only g a b) (k : Below b.heap.size b c) : Only g a c := h.trans (only_of_below k)
theorem hd_mem (ts : List TK) (i : Nat) : hd ts i ∈ ts ∨ hd ts i = endK := by
  rcases Nat.eq_zero_or_pos ts.length with h | h
  · exact Or.inr (hd_nil ts i h)
  · exact Or.inl (List.mem_of_getElem? (hd_in ts i h))
theorem CGood.hd_small {D : CD} {g : Nat} (h : CGood D g) (i : Nat) : (hd D.ts i).text.size ≤ 4611686018427387904 := by
  rcases hd_mem D.ts i with q | q
  · exact h.small _ q
  · rw [q]; exact Nat.zero_le _
theorem CGood.hd_wf {D : CD} {g : Nat} (h : CGood D g) (i : Nat) (h3 : (hd D.ts i).kind = 3) : rnumB (hd D.ts i).text = true := by
  rcases hd_mem D.ts i with q | q
  · exact h.wf _ q h3
  · rw [q] at h3; cases h3
/-- Where the cursor stands now: what is left, and that nothing was lost. -/
def Stands (D : CD) (i : Nat) (r : List PT) (i' : Nat) : Prop := rd D.ts i' = r ∧ i' + r.length = i + (rd D.ts i).length
theorem Stands.refl (D : CD) (i : Nat) : Stands D i (rd D.ts i) i := ⟨rfl, rfl⟩
theorem Stands.trans {D : CD} {i i' i2 : Nat} {r r2 : List PT} (h : Stands D i r i') (k : Stands D i' r2 i2) : Stands D i r2 i2 := by
  obtain ⟨h1, h2⟩ := h
  obtain ⟨k1, k2⟩ := k
  refine ⟨k1, ?_⟩
  rw [h1] at k2
  omega
theorem Stands.trans' {D : CD} {i i' i2 : Nat} {r r2 : List PT} (h : Stands D i r i') (e : rd D.ts i2 = r2) (k : i2 + r2.length = i' + (rd D.ts i').length) : Stands D i r2 i2 := h.trans ⟨e, k⟩
theorem Stands.step {D : CD} {i : Nat} (he : EndsK D.ts) (hk : (hd D.ts i).kind ≠ 5) : Stands D i (rd D.ts i).tail (i + 1) := by
  obtain ⟨h1, h2, _⟩ := rd_step he hk
  refine ⟨h1, ?_⟩
  rw [← h1]; omega
theorem Stands.fits {D : CD} {i i' : Nat} {r : List PT} (h : Stands D i r i') (hf : i + (rd D.ts i).length ≤ 1099511627776) : i' + (rd D.ts i').length ≤ 1099511627776 := by
  obtain ⟨h1, h2⟩ := h
  rw [h1]; omega
end Go.Proofs.YtneiajkcikcnnaaDoor
