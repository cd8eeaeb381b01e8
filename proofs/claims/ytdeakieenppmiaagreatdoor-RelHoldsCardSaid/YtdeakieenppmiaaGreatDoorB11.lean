/- Texts of one seat, put together: ZBox Late. -/
import Derived.Test.YtdeakieenppmiaaGreatDoorB10
set_option linter.unusedVariables false
/- The boxes of a law's numbers, as a list: where each lies and what it holds. -/
namespace Go.Proofs.YtdeakieenppmiaaGreatDoor
open Go.RowKit

/-- Nothing that was there in w has turned in W, and the boxes of L lie in W, all of them new since w. -/
def Keeps (w : World) (L : List (Nat × Value × Value)) (W : World) : Prop := Below w.heap.size w W ∧ ∀ p ∈ L, Blk W p.1 #[p.2.1, p.2.2] ∧ w.heap.size ≤ p.1
variable {w W W' : World} {L : List (Nat × Value × Value)} {g : Nat} {a b : Value}
theorem Keeps.old (h : Keeps w L W) : Below w.heap.size w W := h.1
theorem Keeps.blk (h : Keeps w L W) (hm : (g, a, b) ∈ L) : Blk W g #[a, b] := (h.2 _ hm).1
theorem Keeps.nil (h : Below w.heap.size w W) : Keeps w [] W := ⟨h, fun p hp => by cases hp⟩
theorem Keeps.add (h : Keeps w L W) (hb : Blk W g #[a, b]) (hg : w.heap.size ≤ g) : Keeps w ((g, a, b) :: L) W :=
  ⟨h.1, fun p hp => by
    rcases List.mem_cons.1 hp with rfl | hp
    · exact ⟨hb, hg⟩
    · exact h.2 p hp⟩
theorem Keeps.drew (h : Keeps w L W) : Keeps w L W.drew := ⟨h.1.drew, fun p hp => h.2 p hp⟩
theorem Keeps.call (h : Keeps w L W) (k : Below W.heap.size W W') : Keeps w L W' := ⟨h.1.next k, fun p hp => ⟨(h.2 p hp).1.next k, (h.2 p hp).2⟩⟩
theorem Keeps.alloc (h : Keeps w L W) (o : Obj) : Keeps w L (W.alloc o) := h.call (bl_alloc W o)
theorem Keeps.far (h : Keeps w L W) (ho : Only g W W') (hg : w.heap.size ≤ g) (hne : ∀ p ∈ L, p.1 ≠ g) : Keeps w L W' :=
  ⟨zback h.1 hg ho, fun p hp => ⟨(h.2 p hp).1.other ho (hne p hp), (h.2 p hp).2⟩⟩
theorem Keeps.lt (h : Keeps w L W) : ∀ p ∈ L, p.1 < W.heap.size := fun p hp => (h.2 p hp).1.lt
theorem Keeps.ne (h : Keeps w L W) (hg : W.heap.size ≤ g) : ∀ p ∈ L, p.1 ≠ g := fun p hp => by have := h.lt p hp; omega
theorem Keeps.size (h : Keeps w L W) : w.heap.size ≤ W.heap.size := h.1.size
/-- Two new boxes are filled one after the other. -/
theorem Keeps.two {g k : Nat} {u v u' v' x y x' y' : Value} (h : Keeps w L W) (hg : Blk W g #[u, v]) (hk : Blk W k #[u', v']) (hne : g ≠ k) (h0 : w.heap.size ≤ g) (h1 : w.heap.size ≤ k) (hL : ∀ p ∈ L, p.1 ≠ g ∧ p.1 ≠ k) :
    Keeps w ((g, x, y) :: (k, x', y') :: L) ((((W.setCell ⟨g, 0, none⟩ x).setCell ⟨g, 1, none⟩ y).setCell ⟨k, 0, none⟩ x').setCell ⟨k, 1, none⟩ y') := by
  have o1 := only_set2 W g x y
  have o2 := only_set2 ((W.setCell ⟨g, 0, none⟩ x).setCell ⟨g, 1, none⟩ y) k x' y'
  have k1 := h.far o1 h0 (fun p hp => (hL p hp).1)
  have k2 := k1.far o2 h1 (fun p hp => (hL p hp).2)
  exact (k2.add ((hk.other o1 (Ne.symm hne)).set2 x' y') h1).add ((hg.set2 x y).other o2 hne) h0
theorem Keeps.one {g : Nat} {u v x y : Value} (h : Keeps w L W) (hg : Blk W g #[u, v]) (h0 : w.heap.size ≤ g) (hL : ∀ p ∈ L, p.1 ≠ g) :
    Keeps w ((g, x, y) :: L) ((W.setCell ⟨g, 0, none⟩ x).setCell ⟨g, 1, none⟩ y) :=
  (h.far (only_set2 W g x y) h0 hL).add (hg.set2 x y) h0
/-- A number is what it was behind stores into boxes. -/
theorem ZRes.set2 {v : Value} {Z : Int} {k : Nat} {s : Bool} {B : Option Addr} {m d : Nat} (h : ZRes W v Z k) (hb : Blk W g #[.bool s, .slice B m d]) (x y : Value) : ZRes ((W.setCell ⟨g, 0, none⟩ x).setCell ⟨g, 1, none⟩ y) v Z k := h.only hb (only_set2 W g x y)
theorem ZRes.two {v : Value} {Z : Int} {j g k : Nat} {s t : Bool} {A B : Option Addr} {n m c d : Nat} (h : ZRes W v Z j) (hg : Blk W g #[.bool s, .slice A n c]) (hk : Blk W k #[.bool t, .slice B m d]) (hne : g ≠ k) (x y x' y' : Value) :
    ZRes ((((W.setCell ⟨g, 0, none⟩ x).setCell ⟨g, 1, none⟩ y).setCell ⟨k, 0, none⟩ x').setCell ⟨k, 1, none⟩ y') v Z j :=
  (h.set2 hg x y).set2 (hk.other (only_set2 W g x y) (Ne.symm hne)) x' y'

/-- The same, where a region began at B cells' blocks: what it makes lies behind them. -/
def KeepsB (w : World) (B : Nat) (L : List (Nat × Value × Value)) (W : World) : Prop := Keeps w L W ∧ B ≤ W.heap.size ∧ w.heap.size ≤ B ∧ ∀ p ∈ L, p.1 < B
variable {B : Nat}
theorem Keeps.begin (h : Keeps w L W) : KeepsB w W.heap.size L W := ⟨h, Nat.le_refl _, h.size, h.lt⟩
theorem KeepsB.keeps (h : KeepsB w B L W) : Keeps w L W := h.1
theorem KeepsB.old (h : KeepsB w B L W) : Below w.heap.size w W := h.1.1
theorem KeepsB.size (h : KeepsB w B L W) : B ≤ W.heap.size := h.2.1
theorem KeepsB.drew (h : KeepsB w B L W) : KeepsB w B L W.drew := ⟨h.1.drew, h.2⟩
theorem KeepsB.call (h : KeepsB w B L W) (k : Below W.heap.size W W') : KeepsB w B L W' := ⟨h.1.call k, Nat.le_trans h.2.1 k.size, h.2.2⟩
theorem KeepsB.alloc (h : KeepsB w B L W) (o : Obj) : KeepsB w B L (W.alloc o) := h.call (bl_alloc W o)
theorem KeepsB.far (h : KeepsB w B L W) (ho : Only g W W') (hg : B ≤ g) : KeepsB w B L W' :=
  ⟨h.1.far ho (by have := h.2.2.1; omega) (fun p hp => by have := h.2.2.2 p hp; omega), Nat.le_trans h.2.1 (ho.below (B := 0) (Nat.zero_le _) (Nat.zero_le _)).size, h.2.2⟩
theorem KeepsB.far1 (h : KeepsB w B L W) (x y : Value) (hg : B ≤ g) : KeepsB w B L ((W.setCell ⟨g, 0, none⟩ x).setCell ⟨g, 1, none⟩ y) := h.far (only_set2 W g x y) hg
theorem KeepsB.far2 {k : Nat} (h : KeepsB w B L W) (x y x' y' : Value) (hg : B ≤ g) (hk : B ≤ k) : KeepsB w B L ((((W.setCell ⟨g, 0, none⟩ x).setCell ⟨g, 1, none⟩ y).setCell ⟨k, 0, none⟩ x').setCell ⟨k, 1, none⟩ y') := (h.far1 x y hg).far1 x' y' hk
/-- Both cells of a box are written. -/
def st2 (W : World) (g : Nat) (x y : Value) : World := (W.setCell ⟨g, 0, none⟩ x).setCell ⟨g, 1, none⟩ y
theorem st2_def (W : World) (g : Nat) (x y : Value) : (W.setCell ⟨g, 0, none⟩ x).setCell ⟨g, 1, none⟩ y = st2 W g x y := rfl
theorem KeepsB.st (h : KeepsB w B L W) (x y : Value) (hg : B ≤ g) : KeepsB w B L (st2 W g x y) := h.far (only_set2 W g x y) hg
theorem KeepsB.two {g k : Nat} {u v u' v' x y x' y' : Value} (h : KeepsB w B L W) (hg : Blk W g #[u, v]) (hk : Blk W k #[u', v']) (hne : g ≠ k) (h0 : B ≤ g) (h1 : B ≤ k) :
    Keeps w ((g, x, y) :: (k, x', y') :: L) ((((W.setCell ⟨g, 0, none⟩ x).setCell ⟨g, 1, none⟩ y).setCell ⟨k, 0, none⟩ x').setCell ⟨k, 1, none⟩ y') :=
  h.1.two hg hk hne (Nat.le_trans h.2.2.1 h0) (Nat.le_trans h.2.2.1 h1) (fun p hp => by have := h.2.2.2 p hp; omega)
theorem KeepsB.one {g : Nat} {u v x y : Value} (h : KeepsB w B L W) (hg : Blk W g #[u, v]) (h0 : B ≤ g) :
    Keeps w ((g, x, y) :: L) ((W.setCell ⟨g, 0, none⟩ x).setCell ⟨g, 1, none⟩ y) :=
  h.1.one hg (Nat.le_trans h.2.2.1 h0) (fun p hp => by have := h.2.2.2 p hp; omega)
theorem st2_size (W : World) (g : Nat) (x y : Value) : (st2 W g x y).heap.size = W.heap.size := by simp [st2, World.setCell]
theorem Blk.newAt (W : World) (cs : Array Value) (h : g = W.heap.size) : Blk (W.alloc (.cells cs 26)) g cs := h ▸ Blk.new W cs
theorem Blk.stSame {x y : Value} (h : Blk W g #[.bool false, .slice none 0 0]) : Blk (st2 W g x y) g #[x, y] := h.set2 x y
theorem Blk.stOther {k : Nat} {cs : Array Value} {x y : Value} (h : Blk W k cs) (hne : k ≠ g) : Blk (st2 W g x y) k cs := h.other (only_set2 W g x y) hne
theorem ZRes.alloc {v : Value} {Z : Int} {k : Nat} (h : ZRes W v Z k) (o : Obj) : ZRes (W.alloc o) v Z k := h.below (bl_alloc W o)
theorem ZRes.st {v : Value} {Z : Int} {k : Nat} {s : Bool} {A : Option Addr} {m d : Nat} {x y : Value} (h : ZRes W v Z k) (hb : Blk W g #[.bool s, .slice A m d]) : ZRes (st2 W g x y) v Z k := h.set2 hb x y
theorem KeepsB.add2 {k : Nat} {a' b' : Value} (h : KeepsB w B L W) (hg : Blk W g #[a, b]) (hk : Blk W k #[a', b']) (h0 : B ≤ g) (h1 : B ≤ k) : Keeps w ((g, a, b) :: (k, a', b') :: L) W :=
  (h.1.add hk (Nat.le_trans h.2.2.1 h1)).add hg (Nat.le_trans h.2.2.1 h0)
theorem KeepsB.add1 (h : KeepsB w B L W) (hg : Blk W g #[a, b]) (h0 : B ≤ g) : Keeps w ((g, a, b) :: L) W := h.1.add hg (Nat.le_trans h.2.2.1 h0)
theorem KeepsB.mk2 {g k : Nat} {a' b' : Value} (h : Keeps w [(g, a, b), (k, a', b')] W) (h1 : B ≤ W.heap.size) (h2 : w.heap.size ≤ B) (h3 : g < B) (h4 : k < B) : KeepsB w B [(g, a, b), (k, a', b')] W :=
  ⟨h, h1, h2, fun p hp => by
    rcases List.mem_cons.1 hp with rfl | hp
    · exact h3
    · rcases List.mem_cons.1 hp with rfl | hp
      · exact h4
      · cases hp⟩
theorem Keeps.tail {p : Nat × Value × Value} (h : Keeps w (p :: L) W) : Keeps w L W := ⟨h.1, fun q hq => h.2 q (List.Mem.tail _ hq)⟩
/-- Two boxes are written anew, one behind the other; two others stay. -/
theorem Keeps.swap2 {g k x y : Nat} {u v u' v' a b c d p q p' q' : Value} {W1 W2 : World} (h : Keeps w [(g, u, v), (k, u', v'), (x, a, b), (y, c, d)] W) (h1 : Only g W W1) (h2 : Only k W1 W2) (hg : Blk W1 g #[p, q]) (hk : Blk W2 k #[p', q']) (hne : g ≠ k)
    (hx : x ≠ g ∧ x ≠ k) (hy : y ≠ g ∧ y ≠ k) : Keeps w [(g, p, q), (k, p', q'), (x, a, b), (y, c, d)] W2 := by
  have hgw : w.heap.size ≤ g := (h.2 _ (List.Mem.head _)).2
  have hkw : w.heap.size ≤ k := (h.2 _ (List.Mem.tail _ (List.Mem.head _))).2
  have ht : Keeps w [(x, a, b), (y, c, d)] W2 := ((Keeps.tail (Keeps.tail h)).far h1 hgw (fun r hr => by
    rcases List.mem_cons.1 hr with rfl | hr
    · exact hx.1
    · rcases List.mem_cons.1 hr with rfl | hr
      · exact hy.1
      · cases hr)).far h2 hkw (fun r hr => by
    rcases List.mem_cons.1 hr with rfl | hr
    · exact hx.2
    · rcases List.mem_cons.1 hr with rfl | hr
      · exact hy.2
      · cases hr)
  exact (ht.add hk hkw).add (hg.other h2 hne) hgw
end Go.Proofs.YtdeakieenppmiaaGreatDoor
/- A region that draws its order and whose stores come last: a load may be taken first although a store of the region writes its cell, where that store waits for the load. -/
namespace Go.Proofs.YtdeakieenppmiaaGreatDoor
open Go.RowKit

section
variable {P : Program} {ops : Array Oper} {Q : Exit → Act → World → Prop} {md : Region.Mode} {S : World → Prop} {late : List Nat}

/-- Every order from here on; behind an operation that is not among the late ones S holds. -/
def AnyL (P : Program) (md : Region.Mode) (ops : Array Oper) (Q : Exit → Act → World → Prop) (S : World → Prop) (late : List Nat) : Nat → Array Bool → Act → World → Prop
  | 0, listed, a, w => Region.ready md ops listed = [] ∧ Q .normal a w
  | fuel + 1, listed, a, w => (Region.ready md ops listed = [] → Q .normal a w) ∧
    ∀ i ∈ Region.ready md ops listed, wpOp P ops Q i (fun a' w' => (i ∉ late → S w') ∧ AnyL P md ops Q S late fuel (listed.setIfInBounds i true) a' w') a w
theorem AnyL.any : ∀ (fuel : Nat) (listed : Array Bool) (a : Act) (w : World), AnyL P md ops Q S late fuel listed a w → wpAny P md ops Q fuel listed a w
  | 0, _, _, _, h => h
  | fuel + 1, _, _, _, h => ⟨h.1, fun i hi => wpOp_mono (fun a' w' k => AnyL.any fuel _ a' w' k.2) (h.2 i hi)⟩

/-- What has come up has come up behind all that it waits for. -/
def ClosedL (md : Region.Mode) (ops : Array Oper) (listed : Array Bool) : Prop :=
  ∀ k o, ops[k]? = some o → listed.getD k false = true → ∀ e ∈ o.after, Region.binds md e = true → listed.getD e.on false = true
/-- Each late operation waits for operation i, or for one that waits for it. -/
def lateFor (md : Region.Mode) (ops : Array Oper) (late : List Nat) (i : Nat) : Bool :=
  late.all fun j => match ops[j]? with
    | none => true
    | some oj => oj.after.any fun e => Region.binds md e && (e.on == i || match ops[e.on]? with
      | none => false
      | some ok => ok.after.any fun e2 => Region.binds md e2 && e2.on == i)
theorem lateFor_spec {i j : Nat} {oj : Oper} (h : lateFor md ops late i = true) (hj : j ∈ late) (ho : ops[j]? = some oj) :
    ∃ e ∈ oj.after, Region.binds md e = true ∧ (e.on = i ∨ ∃ ok, ops[e.on]? = some ok ∧ ∃ e2 ∈ ok.after, Region.binds md e2 = true ∧ e2.on = i) := by
  have h1 := List.all_eq_true.1 h j hj
  rw [ho] at h1
  obtain ⟨x, hx, h2⟩ := Array.any_eq_true.1 h1
  simp only [Bool.and_eq_true, Bool.or_eq_true, beq_iff_eq] at h2
  refine ⟨_, Array.getElem_mem hx, h2.1, h2.2.imp id fun h3 => ?_⟩
  split at h3
  · cases h3
  · rename_i ok hok
    obtain ⟨y, hy, h4⟩ := Array.any_eq_true.1 h3
    simp only [Bool.and_eq_true, beq_iff_eq] at h4
    exact ⟨ok, hok, _, Array.getElem_mem hy, h4.1, h4.2⟩

theorem getD_flip {listed : Array Bool} {k : Nat} (h1 : listed.getD k false = true) (h0 : listed.getD k true = false) : False := by
  rcases Nat.lt_or_ge k listed.size with h | h
  · simp [h] at h0 h1; rw [h0] at h1; cases h1
  · simp [Array.getElem?_eq_none h] at h1
theorem ClosedL.next {listed : Array Bool} {j : Nat} (hc : ClosedL md ops listed) (hr : j ∈ Region.ready md ops listed) : ClosedL md ops (listed.setIfInBounds j true) := by
  intro k o ho hk e he hb
  obtain ⟨-, oj, hoj, hall⟩ := mem_ready.1 hr
  by_cases hjk : j = k
  · subst hjk
    rw [hoj] at ho
    injection ho with ho
    subst ho
    exact getD_set_true (hall e he hb)
  · rw [getD_set_ne false hjk] at hk
    exact getD_set_true (hc k o ho hk e he hb)
/-- A late one cannot come up while i has not. -/
theorem not_late {i j : Nat} {listed : Array Bool} (hl : lateFor md ops late i = true) (hc : ClosedL md ops listed) (hi : listed.getD i true = false) (hj : j ∈ Region.ready md ops listed) : j ∉ late := by
  intro hm
  obtain ⟨-, oj, hoj, hall⟩ := mem_ready.1 hj
  obtain ⟨e, he, hb, h⟩ := lateFor_spec hl hm hoj
  rcases h with h | ⟨ok, hok, e2, he2, hb2, h⟩
  · exact getD_flip (h ▸ hall e he hb) hi
  · exact getD_flip (h ▸ hc _ ok hok (hall e he hb) e2 he2 hb2) hi

theorem AnyL.first {i : Nat} {oi : Oper} {v : Value} (hi : ops[i]? = some oi) (hsel : ∀ (j : Nat) (o : Oper) cs b, ops[j]? = some o → o.op ≠ .select cs b)
    (hQ : ∀ c a w, Q (.panic c) (a.put oi.dst v) w → Q (.panic c) a w) (hlate : lateFor md ops late i = true) (hnl : i ∉ late) :
    ∀ (fuel : Nat) (listed : Array Bool) (a : Act) (w : World),
      (∀ j oj, ops[j]? = some oj → j ≠ i → listed.getD j true = false → (∀ e ∈ oj.after, Region.binds md e = true → e.on ≠ i) → oi.apart ops oj = true) →
      ClosedL md ops listed → i ∈ Region.ready md ops listed → YieldsIf P ops S oi v a → S w →
      AnyL P md ops Q S late fuel (listed.setIfInBounds i true) (a.put oi.dst v) w → AnyL P md ops Q S late (fuel + 1) listed a w := by
  intro fuel
  induction fuel with
  | zero =>
    intro listed a w _ _ hr hy hS H
    refine ⟨fun h => (by rw [h] at hr; cases hr), fun j hj => ?_⟩
    by_cases hji : j = i
    · subst hji; exact hy.wpOp hi hS ⟨fun _ => hS, H⟩
    · have := ready_mono hj hji
      rw [H.1] at this
      cases this
  | succ fuel ih =>
    intro listed a w hfree hc hr hy hS H
    refine ⟨fun h => (by rw [h] at hr; cases hr), fun j hj => ?_⟩
    have hi0 := (mem_ready.1 hr).1
    by_cases hji : j = i
    · subst hji; exact hy.wpOp hi hS ⟨fun _ => hS, H⟩
    · have hjl := not_late hlate hc hi0 hj
      obtain ⟨hjun, oj, hoj, hall⟩ := mem_ready.1 hj
      have hno : ∀ e ∈ oj.after, Region.binds md e = true → e.on ≠ i := fun e he hb heq => getD_flip (heq ▸ hall e he hb) hi0
      refine wpOp_mono (fun a' w' k => ⟨fun _ => k.2.1 hjl, ?_⟩) (wpOp_putIf hoj (hfree j oj hoj hji hjun hno) (fun cs b => hsel i oi cs b hi) (fun cs b => hsel j oj cs b hoj) hQ hy (H.2 j (ready_mono hj hji)))
      refine ih (listed.setIfInBounds j true) a' w' (fun m om hm hmi hun hn => hfree m om hm hmi ?_ hn) (hc.next hj) (ready_mono hr (Ne.symm hji)) k.1 (k.2.1 hjl) ?_
      · by_cases hjm : j = m
        · subst hjm; exact hjun
        · rw [getD_set_ne true hjm] at hun; exact hun
      · rw [Array.setIfInBounds_comm _ _ hji]
        exact k.2.2

theorem AnyL.take {i : Nat} {oi : Oper} {v : Value} {fuel : Nat} {listed : Array Bool} {a : Act} {w : World} (hi : ops[i]? = some oi)
    (hs : Region.noSelect ops = true) (hf : Region.free md ops listed i = true) (hr : (Region.ready md ops listed).contains i = true) (hl : (lateFor md ops late i && !late.contains i) = true)
    (hQ : ∀ c a w, Q (.panic c) (a.put oi.dst v) w → Q (.panic c) a w) (hc : ClosedL md ops listed) (hy : YieldsIf P ops S oi v a) (hS : S w)
    (h : ClosedL md ops (listed.setIfInBounds i true) → AnyL P md ops Q S late fuel (listed.setIfInBounds i true) (a.put oi.dst v) w) : AnyL P md ops Q S late (fuel + 1) listed a w := by
  simp only [Bool.and_eq_true, Bool.not_eq_true', List.contains_eq_mem, decide_eq_false_iff_not] at hl
  have hm : i ∈ Region.ready md ops listed := by simpa using hr
  exact AnyL.first hi (Region.noSelect_spec hs) hQ hl.1 hl.2 fuel listed a w (Region.free_spec hi hf) hc hm hy hS (h (hc.next hm))
/-- One alone may come up. -/
theorem AnyL.one {i : Nat} {oi : Oper} {fuel : Nat} {listed : Array Bool} {a : Act} {w : World} (hr : Region.ready md ops listed = [i]) (hi : ops[i]? = some oi) (hw : Region.wanted oi (yielded ops a.tmps) = true)
    (h : ∀ K : Act → World → Prop, Hid (∀ a' w', (i ∉ late → S w') → AnyL P md ops Q S late fuel (listed.setIfInBounds i true) a' w' → K a' w') → Oper.wp P oi a w K Q) : AnyL P md ops Q S late (fuel + 1) listed a w :=
  ⟨fun h0 => (by rw [h0] at hr; cases hr), fun j hj => by
    rw [hr] at hj
    obtain rfl := List.mem_singleton.1 hj
    exact wpOp_step hi (fun K hK => by rw [if_pos hw]; exact h K (fun a' w' h1 h2 => hK a' w' ⟨h1, h2⟩))⟩
theorem AnyL.oneC {i : Nat} {oi : Oper} {fuel : Nat} {listed : Array Bool} {a : Act} {w : World} (hr : Region.ready md ops listed = [i]) (hi : ops[i]? = some oi) (hw : Region.wanted oi (yielded ops a.tmps) = true) (hc : ClosedL md ops listed)
    (h : ∀ K : Act → World → Prop, Hid (∀ a' w', (i ∉ late → S w') → (ClosedL md ops (listed.setIfInBounds i true) → AnyL P md ops Q S late fuel (listed.setIfInBounds i true) a' w') → K a' w') → Oper.wp P oi a w K Q) : AnyL P md ops Q S late (fuel + 1) listed a w :=
  AnyL.one hr hi hw (fun K hK => h K (fun a' w' h1 h2 => hK.out a' w' h1 (h2 (hc.next (by rw [hr]; exact List.mem_singleton.2 rfl)))))
theorem AnyL.done {listed : Array Bool} {a : Act} {w : World} {fuel : Nat} (hr : Region.ready md ops listed = []) (h : Q .normal a w) : AnyL P md ops Q S late fuel listed a w := by
  cases fuel with
  | zero => exact ⟨hr, h⟩
  | succ n => exact ⟨fun _ => h, by rw [hr]; simp⟩
theorem ClosedL.zero (n : Nat) : ClosedL md ops (Array.replicate n false) := by
  intro k o _ hk
  rcases Nat.lt_or_ge k n with h | h
  · simp [h] at hk
  · simp [Nat.not_lt.2 h] at hk
theorem wp_region_late {id : Nat} {a : Act} {w : World} (hm : P.follows .mixedOrders = true) (late : List Nat) (S : World → Prop)
    (h : ClosedL .any ops (Array.replicate ops.size false) → AnyL P .any ops Q S late ops.size (Array.replicate ops.size false) a w.drew) : (Code.region id ops true).wp P Q a w :=
  wp_region_any hm (AnyL.any _ _ _ _ (h (ClosedL.zero _)))
end
end Go.Proofs.YtdeakieenppmiaaGreatDoor
