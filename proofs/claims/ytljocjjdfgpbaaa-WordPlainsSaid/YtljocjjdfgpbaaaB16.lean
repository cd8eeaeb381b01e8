/- Texts of one seat, put together: WordP WordInL. -/
import Derived.Test.YtljocjjdfgpbaaaB13
import Derived.Test.YtljocjjdfgpbaaaB14
import Derived.Test.YtljocjjdfgpbaaaB15
set_option linter.unusedVariables false
/- What track.truths needs. -/
namespace Go.Proofs.Ytljocjjdfgpbaaa
open Go.RowKit Go.Shelf
open Wo

/-- What a property says at each letter, as a list. -/
def row (L : List (List Bool)) (b : Nat) (f : Pr) : List Bool := (List.range L.length).map (H L.length (ltrOf L b) f)
def TruthsPost (L : List (List Bool)) (b : Nat) (t : LT) (w : World) (e : Ending) (w' : World) : Prop :=
  ∃ g, e = .returned (.slice (some ⟨g, 0, none⟩) L.length L.length) ∧ ABox w' g (row L b (norm t)) ∧ w.heap.size ≤ g ∧ Below w.heap.size w w'
theorem row_len (L : List (List Bool)) (b : Nat) (f : Pr) : (row L b f).length = L.length := by simp [row]
theorem row_getD {L : List (List Bool)} {b : Nat} {f : Pr} {j : Nat} (hj : j < L.length) : (row L b f).getD j false = H L.length (ltrOf L b) f j := by simp [row, List.getD_eq_getElem?_getD, hj]
/-- One of the kids' lists: there already, or not yet. -/
def KA (L : List (List Bool)) (b : Nat) (f : Pr) (B : Nat) (there : Bool) (W : World) (s : Value) : Prop :=
  if there = true then ∃ g, s = .slice (some ⟨g, 0, none⟩) L.length L.length ∧ ABox W g (row L b f) ∧ B ≤ g else s = .slice none 0 0
theorem KA.next {L : List (List Bool)} {b : Nat} {f : Pr} {B : Nat} {th : Bool} {W W' : World} {s : Value} (h : KA L b f B th W s) (hb : Below W.heap.size W W') : KA L b f B th W' s := by
  unfold KA at h ⊢
  cases th with
  | false => exact h
  | true =>
    obtain ⟨g, e, ha, hB⟩ := h
    exact ⟨g, e, Box.next ha hb, hB⟩
theorem KA.only {L : List (List Bool)} {b : Nat} {f : Pr} {B k : Nat} {th : Bool} {W W' : World} {s : Value} (h : KA L b f B th W s) (hb : Only k W W') (hk : k < B) : KA L b f B th W' s := by
  unfold KA at h ⊢
  cases th with
  | false => exact h
  | true =>
    obtain ⟨g, e, ha, hB⟩ := h
    exact ⟨g, e, Box.other ha hb (by omega), hB⟩
/-- What stands while the kids are gone through: q of them are done. -/
structure TK1 (S : Nat → Prop) (L : List (List Bool)) (b : Nat) (A1 : Option Addr) (c1 : Nat) (ct : LT) (k p : Int) (A : Option Addr) (n c : Nat) (N g5 q : Nat) (W : World) (s0 s1 : Value) : Prop where
  x2 : Box 53 W N #[.slice A1 L.length c1, .int .i64 (b : Int)]
  x3 : Box 24 W (N + 1) #[.int .i64 k, .int .i64 p, .slice A n c]
  x5 : Box 63 W g5 #[s0, s1]
  k0 : KA L b (norm (ct.kid 0)) (g5 + 1) (decide (0 < q)) W s0
  k1 : KA L b (norm (ct.kid 1)) (g5 + 1) (decide (1 < q)) W s1
  ks : KsIn S W A n ct.kids
  ls : LsIn S W A1 L.length L
  ok : ¬ S g5
theorem TK1.next {S : Nat → Prop} {L : List (List Bool)} {b : Nat} {A1 : Option Addr} {c1 : Nat} {ct : LT} {k p : Int} {A : Option Addr} {n c N g5 q : Nat} {W W' : World} {s0 s1 : Value} (h : TK1 S L b A1 c1 ct k p A n c N g5 q W s0 s1) (hb : Below W.heap.size W W') : TK1 S L b A1 c1 ct k p A n c N g5 q W' s0 s1 :=
  ⟨h.x2.next hb, h.x3.next hb, h.x5.next hb, h.k0.next hb, h.k1.next hb, h.ks.keep (Keep.of_below hb), h.ls.keep (Keep.of_below hb), h.ok⟩
theorem box_set2 {T : TypeId} {w : World} {g : Nat} {x y : Value} (h : Box T w g #[x, y]) (u : Value) : Box T (w.setCell ⟨g, 0, none⟩ u) g #[u, y] ∧ Box T (w.setCell ⟨g, 1, none⟩ u) g #[x, u] := by
  unfold Box at h ⊢
  constructor <;> simp [World.setCell, Array.getElem?_modify, h]
/-- One more kid is done. -/
theorem TK1.step {S : Nat → Prop} {L : List (List Bool)} {b : Nat} {A1 : Option Addr} {c1 : Nat} {ct : LT} {k p : Int} {A : Option Addr} {n c N g5 q g : Nat} {W : World} {s0 s1 : Value} (h : TK1 S L b A1 c1 ct k p A n c N g5 q W s0 s1) (hN : N + 1 < g5) (hq : q < 2) (hg : g5 + 1 ≤ g) (ha : ABox W g (row L b (norm (ct.kid q)))) :
    ∃ s0' s1', TK1 S L b A1 c1 ct k p A n c N g5 (q + 1) (W.setCell ⟨g5, q, none⟩ (.slice (some ⟨g, 0, none⟩) L.length L.length)) s0' s1' := by
  have ho := only_set1 W g5 q (.slice (some ⟨g, 0, none⟩) L.length L.length)
  have hk := Keep.of_only ho h.ok
  have ha' := Box.other ha ho (by omega)
  match q, hq with
  | 0, _ =>
    refine ⟨_, _, h.x2.other ho (by omega), h.x3.other ho (by omega), (box_set2 h.x5 _).1, ?_, ?_, h.ks.keep hk, h.ls.keep hk, h.ok⟩
    · exact ⟨g, rfl, ha', hg⟩
    · exact h.k1.only ho (by omega)
  | 1, _ =>
    refine ⟨_, _, h.x2.other ho (by omega), h.x3.other ho (by omega), (box_set2 h.x5 _).2, ?_, ?_, h.ks.keep hk, h.ls.keep hk, h.ok⟩
    · exact h.k0.only ho (by omega)
    · exact ⟨g, rfl, ha', hg⟩
/-- A property whose kids are there. -/
theorem cnt_kinds (t : LT) : ((cnt t).k = 0 ∧ (cnt t).kids = []) ∨ ((cnt t).k = 1 ∧ (cnt t).kids = []) ∨ ((cnt t).k = 2 ∧ (cnt t).kids = []) ∨ (0 < arity (cnt t).k ∧ (cnt t).kids.length = arity (cnt t).k) := by
  unfold cnt
  split
  · exact .inl ⟨rfl, rfl⟩
  · split
    · exact .inr (.inl ⟨rfl, rfl⟩)
    · split
      · exact .inr (.inr (.inl ⟨rfl, rfl⟩))
      · split
        · rename_i h
          exact .inr (.inr (.inr ⟨h, pad_len (by have := arity_le t.k; omega)⟩))
        · exact .inr (.inl ⟨rfl, rfl⟩)
theorem cnt_few (t : LT) : (cnt t).kids.length ≤ 2 := by
  rcases cnt_kinds t with ⟨-, h⟩ | ⟨-, h⟩ | ⟨-, h⟩ | ⟨-, h⟩
  · rw [h]; decide
  · rw [h]; decide
  · rw [h]; decide
  · rw [h]; exact arity_le _
theorem cnt_small {t : LT} {q Z : Nat} (hz : (norm t).size ≤ Z + 1) (hq : q < (cnt t).kids.length) : (norm ((cnt t).kid q)).size ≤ Z := by
  rcases cnt_kinds t with ⟨-, h⟩ | ⟨-, h⟩ | ⟨-, h⟩ | ⟨h, hl⟩
  · rw [h] at hq; exact absurd hq (by simp)
  · rw [h] at hq; exact absurd hq (by simp)
  · rw [h] at hq; exact absurd hq (by simp)
  · rw [← norm_cnt, norm_eq (cnt t)] at hz
    have h0 : ¬ (cnt t).k = 0 := fun e => by rw [e] at h; exact absurd h (by decide)
    have h2 : ¬ (cnt t).k = 2 := fun e => by rw [e] at h; exact absurd h (by decide)
    have h9 := arity_le (cnt t).k
    rw [if_neg h0, if_neg h2] at hz
    by_cases h1 : arity (cnt t).k = 1
    · rw [if_pos h1, Pr.size] at hz
      obtain rfl : q = 0 := by omega
      omega
    · rw [if_neg h1, if_pos (by omega), Pr.size] at hz
      match q, hq with
      | 0, _ => omega
      | 1, _ => omega
      | q + 2, hq => omega
/-- Two passes backwards say what holds. -/
theorem two_cnt {L : List (List Bool)} {b j : Nat} (hbL : b < L.length) (hj : j < L.length) (t : LT) (h2 : (cnt t).k ≠ 2) (h8 : (cnt t).k ≠ 8) :
    GE (cnt t).k.toNat (H L.length (ltrOf L b) (norm ((cnt t).kid 0))) (H L.length (ltrOf L b) (norm ((cnt t).kid 1))) (GE (cnt t).k.toNat (H L.length (ltrOf L b) (norm ((cnt t).kid 0))) (H L.length (ltrOf L b) (norm ((cnt t).kid 1))) (e0 (cnt t).k.toNat) (L.length - b) b) (L.length - j) j = H L.length (ltrOf L b) (norm t) j := by
  rw [← norm_cnt t, norm_eq (cnt t), if_neg h2]
  have hlen : L.length = b + (L.length - b) := by omega
  rcases cnt_kinds t with ⟨h, -⟩ | ⟨h, -⟩ | ⟨h, -⟩ | ⟨h, -⟩
  · rw [if_pos h, h]
    exact GE_one (V := fun _ => true) (fun x nx => rfl) _ (by omega)
  · rw [h]
    exact GE_one (V := fun _ => false) (fun x nx => rfl) _ (by omega)
  · exact absurd h h2
  · have h0 : ¬ (cnt t).k = 0 := fun e => by rw [e] at h; exact absurd h (by decide)
    have h9 := arity_le (cnt t).k
    rw [if_neg h0]
    generalize (cnt t).kid 0 = K0 at *
    generalize (cnt t).kid 1 = K1 at *
    by_cases h1 : arity (cnt t).k = 1
    · rw [if_pos h1]
      have hk := arity_one h1
      have := two_una (b := b) (c := L.length - b) (j := j) (ltrOf_per L b) (by omega) (by omega) (k := (cnt t).k.toNat) (a := norm K0) (H L.length (ltrOf L b) (norm K1)) (by omega)
      rwa [← hlen] at this
    · rw [if_neg h1, if_pos (by omega)]
      have hk := arity_two (k := (cnt t).k) (by omega)
      have := two_bin (b := b) (c := L.length - b) (j := j) (ltrOf_per L b) (by omega) (by omega) (k := (cnt t).k.toNat) (a := norm K0) (a' := norm K1) (by omega)
      rwa [← hlen] at this
/-- The list when m of its places, from behind, have been gone through. -/
def stage (n kk : Nat) (A B : Nat → Bool) (e : Bool) (l : List Bool) (m : Nat) : List Bool := (List.range n).map fun j => if j < n - m then l.getD j false else GE kk A B e (n - j) j
theorem stage_len (n kk : Nat) (A B : Nat → Bool) (e : Bool) (l : List Bool) (m : Nat) : (stage n kk A B e l m).length = n := by simp [stage]
theorem stage_getD {n kk : Nat} {A B : Nat → Bool} {e : Bool} {l : List Bool} {m j : Nat} (hj : j < n) : (stage n kk A B e l m).getD j false = if j < n - m then l.getD j false else GE kk A B e (n - j) j := by simp [stage, List.getD_eq_getElem?_getD, hj]
theorem stage_zero {n kk : Nat} {A B : Nat → Bool} {e : Bool} {l : List Bool} (hl : l.length = n) : stage n kk A B e l 0 = l := by
  apply List.ext_getElem?
  intro j
  rcases Nat.lt_or_ge j n with h | h
  · simp [stage, h, List.getD_eq_getElem?_getD, List.getElem?_eq_getElem (hl.symm ▸ h : j < l.length)]
  · rw [List.getElem?_eq_none (by rw [stage_len]; exact h), List.getElem?_eq_none (by rw [hl]; exact h)]
theorem stage_all (n kk : Nat) (A B : Nat → Bool) (e : Bool) (l : List Bool) : stage n kk A B e l n = (List.range n).map fun j => GE kk A B e (n - j) j := by
  apply List.map_congr_left
  intro j hj
  have := List.mem_range.1 hj
  rw [if_neg (by omega)]
theorem stage_step {n kk b : Nat} {A B : Nat → Bool} {l : List Bool} {m : Nat} (hb : b < n) (hm : m < n) :
    (stage n kk A B (l.getD b false) l m).set (n - 1 - m) (truthB kk (A (n - 1 - m)) (B (n - 1 - m)) ((stage n kk A B (l.getD b false) l m).getD (nxt b n (n - 1 - m)) false)) = stage n kk A B (l.getD b false) l (m + 1) := by
  apply List.ext_getElem?
  intro j
  rcases Nat.lt_or_ge j n with h | h
  · rw [List.getElem?_set]
    by_cases hj : n - 1 - m = j
    · subst hj
      rw [if_pos rfl, if_pos (by rw [stage_len]; exact h)]
      have e1 : (stage n kk A B (l.getD b false) l (m + 1))[n - 1 - m]? = some (GE kk A B (l.getD b false) (n - (n - 1 - m)) (n - 1 - m)) := by
        unfold stage
        simp only [List.getElem?_map, List.getElem?_range h, Option.map_some]
        rw [if_neg (by omega)]
      rw [e1, show n - (n - 1 - m) = m + 1 by omega, GE]
      congr 2
      unfold nxt
      split
      · rename_i he
        obtain rfl : m = 0 := by omega
        rw [stage_getD hb, if_pos (by omega), GE]
      · rename_i he
        rw [stage_getD (by omega), if_neg (by omega), show n - (n - 1 - m + 1) = m by omega]
    · rw [if_neg hj]
      unfold stage
      simp only [List.getElem?_map, List.getElem?_range h, Option.map_some]
      by_cases h1 : j < n - m
      · rw [if_pos h1, if_pos (by omega)]
      · rw [if_neg h1, if_neg (by omega)]
  · rw [List.getElem?_eq_none (by rw [List.length_set, stage_len]; exact h), List.getElem?_eq_none (by rw [stage_len]; exact h)]
/-- The order in which the indices come. -/
theorem downs_snoc {n m : Nat} {l : List Nat} {x : Nat} (hm : l.length = m) (h : l ++ [x] = downs n (m + 1)) : l = downs n m ∧ x = n - 1 - m := by
  rw [downs_succ] at h
  have := List.append_inj h (by rw [hm]; simp [downs])
  exact ⟨this.1, by simpa using this.2⟩
theorem kid_ff {t : LT} {q : Nat} (h : t.kids.length ≤ q) (n : Nat) (ltr : Nat → List Bool) (x : Nat) : H n ltr (norm (t.kid q)) x = false := by
  unfold LT.kid
  rw [List.getD_eq_getElem?_getD, List.getElem?_eq_none h]
  show H n ltr (norm lff) x = false
  rw [norm_lff]; rfl
/-- What stands while a pass goes on: the list, in its box. -/
structure TP (wr : World) (g g8 n : Nat) (l : List Bool) (W : World) : Prop where
  b : Below wr.heap.size wr W
  x8 : Box 47 W g8 #[.slice (some ⟨g, 0, none⟩) n n]
  a : ABox W g l
  hg : wr.heap.size ≤ g
  h8 : g < g8
theorem TP.next {wr W W' : World} {g g8 n : Nat} {l : List Bool} (h : TP wr g g8 n l W) (hb : Below W.heap.size W W') : TP wr g g8 n l W' := ⟨h.b.next hb, h.x8.next hb, Box.next h.a hb, h.hg, h.h8⟩
theorem TP.set {wr W : World} {g g8 n : Nat} {l : List Bool} (h : TP wr g g8 n l W) (i : Nat) (v : Bool) : TP wr g g8 n (l.set i v) (W.setCell ⟨g, i, none⟩ (.bool v)) :=
  ⟨h.b.trans ((only_set1 W g i (.bool v)).below h.b.size h.hg), h.x8.other (only_set1 W g i (.bool v)) (by have := h.h8; omega), h.a.set i v, h.hg, h.h8⟩
/-- Another block from wr on is written. -/
theorem TP.only {wr W W' : World} {g g8 n k : Nat} {l : List Bool} (h : TP wr g g8 n l W) (ho : Only k W W') (hk : g8 < k) : TP wr g g8 n l W' :=
  ⟨h.b.trans (ho.below h.b.size (by have := h.hg; have := h.h8; omega)), h.x8.other ho (by omega), Box.other h.a ho (by have := h.h8; omega), h.hg, h.h8⟩
/-- A turn of the law's own blocks. -/
theorem TP.own {wr W W' : World} {g g8 n B : Nat} {l : List Bool} {row : Option Nat} (h : TP wr g g8 n l W) (hg : W.grownBy W' row) (hB : g8 < B) (hr : ∀ r, row = some r → B ≤ r) : TP wr g g8 n l W' := by
  have h1 := h.hg
  have h2 := h.h8
  refine ⟨h.b.grown hg h.b.size (fun k e => by have := hr k e; omega), ?_, ?_, h.hg, h.h8⟩
  · exact (hg.block g8 h.x8.lt (fun e => by have := hr _ e.symm; omega)).trans h.x8
  · exact (hg.block g (Box.lt h.a) (fun e => by have := hr _ e.symm; omega)).trans h.a
theorem KpB.trans {Bs g n : Nat} {A B C : World} (h : KpB Bs g n A B) (k : KpB Bs g n B C) : KpB Bs g n A C := ⟨fun e => k.1 (h.1 e), fun e => k.2 (h.2 e)⟩
theorem KpB.put {Bs g n : Nat} {W : World} {l : Nat} (o' : Obj) (h1 : Bs < l) (h2 : g < l) : KpB Bs g n W (W.putObj l o') := by
  refine ⟨fun e => ?_, fun ⟨ls, e, ha⟩ => ⟨ls, e, ?_⟩⟩
  · rw [World.cell?_of_block (World.putObj_heap_other (by show Bs ≠ l; omega))]; exact e
  · exact (World.putObj_heap_other (by omega)).trans ha
theorem KpB.step {Bs g n : Nat} {W W1 W2 : World} {l : List Bool} (hb : Below W.heap.size W W1) (ho : Only g W1 W2) (hne : Bs ≠ g) (hl : l.length = n) (ha : ABox W2 g l) : KpB Bs g n W W2 := by
  refine ⟨fun e => ?_, fun _ => ⟨l, hl, ha⟩⟩
  have hlt : Bs < W.heap.size := by
    rcases Nat.lt_or_ge Bs W.heap.size with h | h
    · exact h
    · rw [World.cell?, Array.getElem?_eq_none h] at e; cases e
  have hlt1 := Nat.lt_of_lt_of_le hlt hb.size
  rw [World.cell?_of_block (ho.block Bs hlt1 (fun e => hne (by injection e))), hb.cell hlt]
  exact e
theorem keepsOthers_below {W W' : World} (h : Below W.heap.size W W') : KeepsOthers W W' := ⟨h.size, fun k _ hk _ => (h.block k (Array.getElem?_eq_some_iff.1 hk).1).trans hk⟩
/-- A kid's list. -/
theorem TK1.kid {S : Nat → Prop} {L : List (List Bool)} {b : Nat} {A1 : Option Addr} {c1 : Nat} {ct : LT} {k p : Int} {A : Option Addr} {n c : Nat} {N g5 q : Nat} {W : World} {s0 s1 : Value} (h : TK1 S L b A1 c1 ct k p A n c N g5 q W s0 s1) {j : Nat} (hj : j < q) (hq : q ≤ 2) :
    ∃ ga, W.cell? ⟨g5, j, none⟩ = some (.slice (some ⟨ga, 0, none⟩) L.length L.length) ∧ ABox W ga (row L b (norm (ct.kid j))) := by
  match j, hj with
  | 0, hj =>
    have h0 := h.k0
    unfold KA at h0
    rw [decide_eq_true hj, if_pos rfl] at h0
    obtain ⟨ga, rfl, ha, -⟩ := h0
    exact ⟨ga, h.x5.cell 0 _ rfl, ha⟩
  | 1, hj =>
    have h0 := h.k1
    unfold KA at h0
    rw [decide_eq_true hj, if_pos rfl] at h0
    obtain ⟨ga, rfl, ha, -⟩ := h0
    exact ⟨ga, h.x5.cell 1 _ rfl, ha⟩
  | j + 2, hj => omega
end Go.Proofs.Ytljocjjdfgpbaaa
/- The same with a last operation that waits for all others. -/
namespace Go.Proofs.Ytljocjjdfgpbaaa
open Go.RowKit

section
variable {P : Program} {ops : Array Oper} {Q : Exit → Act → World → Prop} {l n : Nat}
theorem stepG_nextIn {a0 : Act} {T : World → World → Prop} {F : Nat → Value → World → Prop} {G : Array Bool → (Nat → Value) → World → Prop} {R : Act → World → Prop} (ho : ownB ops a0.tmps.size = true) (hpl : plainB ops = true) (hla : lastB ops = true) (hF : ∀ j v w w', T w w' → F j v w → F j v w')
    (hstep : EachB (StepG P ops a0 T F G) 0 ops.toList) (hlast : ∀ o, ops[ops.size - 1]? = some o → StepL P ops a0 F G R o) {K : Act → World → Prop} {i : Nat} {o : Oper} {listed : Array Bool} {σ : Nat → Value} {w : World} (hio : ops[i]? = some o) (hs : listed.size = ops.size) (hl : listed.getD i true = false) (hc : ClosedL .any ops listed)
    (hp : ∀ e ∈ o.after, Region.binds .any e = true → listed.getD e.on false = true) (hun : listed.getD (ops.size - 1) false = false) (hG : G listed σ w) (hF1 : ∀ j, listed.getD j false = true → F j (σ j) w)
    (hK : ∀ σ' w', i ≠ ops.size - 1 → G (listed.setIfInBounds i true) σ' w' → (∀ j, (listed.setIfInBounds i true).getD j false = true → F j (σ' j) w') → K (mid ops σ' (listed.setIfInBounds i true) a0) w')
    (hR : ∀ a w', i = ops.size - 1 → R a w' → K a w') : wpOpIn (rnd l) n P ops Q i K (mid ops σ listed a0) w := by
  have hlt : i < ops.size := (Array.getElem?_eq_some_iff.1 hio).1
  have hd : o.dst = dstOf ops i := by simp [dstOf, hio]
  by_cases hi : i = ops.size - 1
  · subst hi
    have hall := lastB_spec hla hio hc hp
    refine Guarded.stepIn hio (plainB_spec hpl hio) (hlast o hio listed σ w (mid ops σ listed a0) hall (fun j t hd hj => mid_in ho hd (hall j hj)) (fun t ht => mid_un (fun j hj => by rw [ht j hj]; exact hun)) hG (fun j hj => hF1 j (hall j hj))) ?_
    intro v w' h
    rw [hd, show (mid ops σ listed a0).put (dstOf ops (ops.size - 1)) v = mid ops (upd σ (ops.size - 1) v) (listed.setIfInBounds (ops.size - 1) true) a0 from (fill_set ho hlt hl _ _ List.nodup_range (fun j hj => List.mem_range.1 hj) (List.mem_range.2 hlt)).symm]
    refine hR _ _ rfl ?_
    rw [mid_all (fun j hj => by
      by_cases he : j = ops.size - 1
      · subst he
        simp [hs, hlt]
      · rw [getD_set_ne false (Ne.symm he)]
        exact hall j (by omega)), fin_eq (by omega)]
    exact h
  · have h1 := EachB.get ops.toList 0 hstep i o (by simp; omega) (by simpa using hio)
    rw [Nat.zero_add] at h1
    refine Guarded.stepIn hio (plainB_spec hpl hio) (h1 listed σ w (mid ops σ listed a0) (fun j t hd hj => mid_in ho hd hj) (fun t ht => mid_un ht) (unlisted hl) hun hs hc hp hG hF1) ?_
    rintro v w' ⟨hT, hFi, hG'⟩
    rw [hd, show (mid ops σ listed a0).put (dstOf ops i) v = mid ops (upd σ i v) (listed.setIfInBounds i true) a0 from (fill_set ho hlt hl _ _ List.nodup_range (fun j hj => List.mem_range.1 hj) (List.mem_range.2 hlt)).symm]
    refine hK _ _ hi hG' (fun j hj => ?_)
    by_cases hji : j = i
    · subst hji; rw [upd_self]; exact hFi
    · rw [upd_ne σ v hji]
      rw [getD_set_ne false (Ne.symm hji)] at hj
      exact hF j _ _ _ hT (hF1 j hj)
/-- wp_drawnL in a round. -/
theorem wpIn_drawnL {id : Nat} {a0 : Act} {w : World} (hm : P.follows .mixedOrders = true) (hb : backB ops = true) (ho : ownB ops a0.tmps.size = true) (hpl : plainB ops = true) (hla : lastB ops = true) (T : World → World → Prop) (F : Nat → Value → World → Prop) (G : Array Bool → (Nat → Value) → World → Prop)
    (hF : ∀ j v w w', T w w' → F j v w → F j v w') (h0 : ∀ σ, G (Array.replicate ops.size false) σ w.drew) (hstep : EachB (StepG P ops a0 T F G) 0 ops.toList) (hlast : ∀ o, ops[ops.size - 1]? = some o → StepL P ops a0 F G (Q .normal) o) : (Code.region id ops true).wpIn (rnd l) n P Q a0 w := by
  have hpos : 0 < ops.size := by
    rcases Nat.eq_zero_or_pos ops.size with h | h
    · unfold lastB at hla
      rw [Array.getElem?_eq_none (by omega)] at hla
      cases hla
    · exact h
  refine wpIn_region_inv hm hb (fun listed a w => (listed.getD (ops.size - 1) false = false ∧ ∃ σ, a = mid ops σ listed a0 ∧ G listed σ w ∧ ∀ j, listed.getD j false = true → F j (σ j) w) ∨ (listed.getD (ops.size - 1) false = true ∧ Q .normal a w)) ?_ ?_ ?_
  · exact .inl ⟨rep_false _ _, fun _ => undef, (mid_none a0).symm, h0 _, fun j hj => by rw [rep_false] at hj; cases hj⟩
  · rintro i o listed a w hio hs hl hc hp (⟨hun, σ, rfl, hG, hF1⟩ | ⟨hon, hQ⟩)
    · refine stepG_nextIn ho hpl hla hF hstep hlast hio hs hl hc hp hun hG hF1 (fun σ' w' hne hG' hF' => .inl ⟨?_, σ', rfl, hG', hF'⟩) (fun a w' he h => .inr ⟨?_, h⟩)
      · rw [getD_set_ne false hne]; exact hun
      · subst he
        have hq : ops.size - 1 < ops.size := by omega
        simp [hs, hq]
    · exfalso
      have hlt : i < ops.size := (Array.getElem?_eq_some_iff.1 hio).1
      have hlo : ops[ops.size - 1]? = some ops[ops.size - 1] := Array.getElem?_eq_getElem (by omega)
      by_cases hi : i = ops.size - 1
      · subst hi; exact (getD_flip hon hl).elim
      · have := lastB_spec hla hlo hc (hc _ _ hlo hon) i (by omega)
        exact (getD_flip this hl).elim
  · rintro listed a w hs hall (⟨hun, -⟩ | ⟨-, hQ⟩)
    · rw [hall _ (by omega)] at hun; cases hun
    · exact hQ
end
end Go.Proofs.Ytljocjjdfgpbaaa
