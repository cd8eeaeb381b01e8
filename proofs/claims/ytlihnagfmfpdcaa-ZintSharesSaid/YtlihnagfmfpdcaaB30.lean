/- Texts of one seat, put together: Triple. -/
import Derived.Test.YtlihnagfmfpdcaaB29
/- Blocks that hold a zint.triple: three numbers, six cells. -/
namespace Go.Proofs.Ytlihnagfmfpdcaa
open Go.RowKit

/-- Block g holds a triple of these cells. -/
def BT (w : World) (g : Nat) (a b c d e f : Value) : Prop := w.heap[g]? = some (.cells #[a, b, c, d, e, f] 72 (0, 0))
section
variable {w w' : World} {g k : Nat} {a b c d e f a' b' c' d' e' f' : Value}
theorem BT.lt (h : BT w g a b c d e f) : g < w.heap.size := by
  rcases Nat.lt_or_ge g w.heap.size with hlt | hge
  · exact hlt
  · unfold BT at h; rw [Array.getElem?_eq_none hge] at h; cases h
theorem BT.c0 (h : BT w g a b c d e f) : w.cell? ⟨g, 0, none⟩ = some a := by rw [cell_of_row w g 0 _ _ _ h]; rfl
theorem BT.c1 (h : BT w g a b c d e f) : w.cell? ⟨g, 1, none⟩ = some b := by rw [cell_of_row w g 1 _ _ _ h]; rfl
theorem BT.c2 (h : BT w g a b c d e f) : w.cell? ⟨g, 2, none⟩ = some c := by rw [cell_of_row w g 2 _ _ _ h]; rfl
theorem BT.c3 (h : BT w g a b c d e f) : w.cell? ⟨g, 3, none⟩ = some d := by rw [cell_of_row w g 3 _ _ _ h]; rfl
theorem BT.c4 (h : BT w g a b c d e f) : w.cell? ⟨g, 4, none⟩ = some e := by rw [cell_of_row w g 4 _ _ _ h]; rfl
theorem BT.c5 (h : BT w g a b c d e f) : w.cell? ⟨g, 5, none⟩ = some f := by rw [cell_of_row w g 5 _ _ _ h]; rfl
theorem BT.fr (h : BT w g a b c d e f) (i : Nat) : w.frozen? ⟨g, i, none⟩ = false := by unfold BT at h; simp [World.frozen?, h]
theorem BT.below {B : Nat} (h : BT w g a b c d e f) (hb : Below B w w') (hg : g < B) : BT w' g a b c d e f := (hb.block g hg).trans h
theorem BT.next (h : BT w g a b c d e f) (hb : Below w.heap.size w w') : BT w' g a b c d e f := h.below hb h.lt
theorem BT.drew (h : BT w g a b c d e f) : BT w.drew g a b c d e f := h
theorem BT.new (w : World) (a b c d e f : Value) : BT (w.alloc (.cells #[a, b, c, d, e, f] 72)) w.heap.size a b c d e f := heap_alloc_new w _
theorem BT.alloc (h : BT w g a b c d e f) (o : Obj) : BT (w.alloc o) g a b c d e f := h.next (bl_alloc w o)
theorem BT.other (h : BT w g a b c d e f) (ho : Only k w w') (hne : g ≠ k) : BT w' g a b c d e f :=
  (ho.block g h.lt (fun hh => hne (by injection hh))).trans h
theorem BT.neBlk {cs : Array Value} (h : BT w g a b c d e f) (h' : Blk w k cs) : g ≠ k := by
  rintro rfl
  unfold BT at h; unfold Blk at h'
  rw [h] at h'
  injection h' with h'
  injection h' with _ ht
  exact absurd ht (by decide)
def st6 (w : World) (g : Nat) (a b c d e f : Value) : World := (((((w.setCell ⟨g, 0, none⟩ a).setCell ⟨g, 1, none⟩ b).setCell ⟨g, 2, none⟩ c).setCell ⟨g, 3, none⟩ d).setCell ⟨g, 4, none⟩ e).setCell ⟨g, 5, none⟩ f
theorem st6_def (w : World) (g : Nat) (a b c d e f : Value) : (((((w.setCell ⟨g, 0, none⟩ a).setCell ⟨g, 1, none⟩ b).setCell ⟨g, 2, none⟩ c).setCell ⟨g, 3, none⟩ d).setCell ⟨g, 4, none⟩ e).setCell ⟨g, 5, none⟩ f = st6 w g a b c d e f := rfl
theorem BT.set6 (h : BT w g a b c d e f) (a' b' c' d' e' f' : Value) : BT (st6 w g a' b' c' d' e' f') g a' b' c' d' e' f' := by
  unfold BT at h ⊢
  simp [st6, World.setCell, Array.getElem?_modify, h]
theorem only_st6 (w : World) (g : Nat) (a b c d e f : Value) : Only g w (st6 w g a b c d e f) := ((((((Only.refl g w).setCell 0 a).setCell 1 b).setCell 2 c).setCell 3 d).setCell 4 e).setCell 5 f
theorem Nums.offT {A : Option Addr} {n : Nat} {xs : List Nat} {s t u : Bool} {B C D : Option Addr} {m p q m' p' q' : Nat} (h : Nums w A n xs) (hb : BT w g (.bool s) (.slice B m m') (.bool t) (.slice C p p') (.bool u) (.slice D q q')) : 0 < n → Apart A g := by
  intro hn ad had he
  obtain ⟨b, o, e, hc⟩ := h.2.2 hn
  have h0 := hc 0 hn
  rw [had] at e
  injection e with e
  subst e
  have he' : b = g := he
  subst he'
  rw [cell_of_row w b _ _ _ _ hb] at h0
  match o, h0 with
  | 0, h0 => simp at h0
  | 1, h0 => simp at h0
  | 2, h0 => simp at h0
  | 3, h0 => simp at h0
  | 4, h0 => simp at h0
  | 5, h0 => simp at h0
  | o + 6, h0 => simp at h0
theorem ZRes.onlyT {v : Value} {Z : Int} {j : Nat} {s t u : Bool} {B C D : Option Addr} {m p q m' p' q' : Nat} (h : ZRes w v Z j) (hb : BT w g (.bool s) (.slice B m m') (.bool t) (.slice C p p') (.bool u) (.slice D q q')) (ho : Only g w w') : ZRes w' v Z j := by
  obtain ⟨A, n, c, rfl, h1, h2, h3, h4⟩ := h
  exact ⟨A, n, c, rfl, h1.only ho (h1.offT hb), h2, h3, h4⟩
end
/-- A triple's numbers. -/
def TRes (w : World) (g : Nat) (X Y Z : Int) (k : Nat) : Prop := ∃ s A n n' t B m m' u C p p', BT w g (.bool s) (.slice A n n') (.bool t) (.slice B m m') (.bool u) (.slice C p p') ∧ ZRes w (.agg #[.bool s, .slice A n n']) X k ∧ ZRes w (.agg #[.bool t, .slice B m m']) Y k ∧ ZRes w (.agg #[.bool u, .slice C p p']) Z k
theorem TRes.next {w w' : World} {g k : Nat} {X Y Z : Int} (h : TRes w g X Y Z k) (hb : Below w.heap.size w w') : TRes w' g X Y Z k := by
  obtain ⟨s, A, n, n', t, B, m, m', u, C, p, p', h1, h2, h3, h4⟩ := h
  exact ⟨s, A, n, n', t, B, m, m', u, C, p, p', h1.next hb, h2.below hb, h3.below hb, h4.below hb⟩
theorem fold5 (w : World) (X Y : Array Value) : ∃ W, W = (((((w.alloc (.cells X 38)).alloc (.cells Y 38)).alloc (.cells #[.bool false, .slice none 0 0] 38)).alloc (.cells #[.bool false, .slice none 0 0] 38)).alloc (.cells #[.bool false, .slice none 0 0] 38)) ∧
    Blk W w.heap.size X ∧ Blk W (w.heap.size + 1) Y ∧ Blk W (w.heap.size + 1 + 1) #[.bool false, .slice none 0 0] ∧ Blk W (w.heap.size + 1 + 1 + 1) #[.bool false, .slice none 0 0] ∧ Blk W (w.heap.size + 1 + 1 + 1 + 1) #[.bool false, .slice none 0 0] ∧ Below w.heap.size w W ∧ W.heap.size = w.heap.size + 5 := by
  obtain ⟨h1, h2, h3, h4, h5, h6⟩ := zstart4 w X Y #[.bool false, .slice none 0 0] #[.bool false, .slice none 0 0]
  obtain ⟨k1, k2, k3⟩ := zstart1 ((((w.alloc (.cells X 38)).alloc (.cells Y 38)).alloc (.cells #[.bool false, .slice none 0 0] 38)).alloc (.cells #[.bool false, .slice none 0 0] 38)) #[.bool false, .slice none 0 0]
  rw [h6] at k1 k3
  have e2 : w.heap.size + 4 = w.heap.size + 1 + 1 + 1 + 1 := rfl
  rw [e2] at k1
  exact ⟨_, rfl, h1.alloc _, h2.alloc _, h3.alloc _, h4.alloc _, k1, h5.next (bl_alloc _ _), by omega⟩
section
variable {W w : World} {g k : Nat} {s t u : Bool} {A B C : Option Addr} {n n' m m' p p' : Nat} {X Y Z : Int}
theorem bz_relA (T : Below W.heap.size W w) (h1 : ZRes w (.agg #[.bool s, .slice A n n']) X k) (h2 : ZRes w (.agg #[.bool t, .slice B m m']) Y k) (h3 : ZRes w (.agg #[.bool u, .slice C p p']) Z k) :
    W.heap.size ≤ w.heap.size ∧ TRes (w.alloc (.cells #[.bool s, .slice A n n', .bool t, .slice B m m', .bool u, .slice C p p'] 72)) w.heap.size X Y Z k ∧ Below W.heap.size W (w.alloc (.cells #[.bool s, .slice A n n', .bool t, .slice B m m', .bool u, .slice C p p'] 72)) :=
  ⟨T.size, ⟨s, A, n, n', t, B, m, m', u, C, p, p', BT.new _ _ _ _ _ _ _, h1.alloc _, h2.alloc _, h3.alloc _⟩, T.next (bl_alloc w _)⟩
theorem bz_relB (T : Below W.heap.size W w) (q : BT w g (.bool false) (.slice none 0 0) (.bool false) (.slice none 0 0) (.bool false) (.slice none 0 0)) (hg : W.heap.size ≤ g) (h1 : ZRes w (.agg #[.bool s, .slice A n n']) X k) (h2 : ZRes w (.agg #[.bool t, .slice B m m']) Y k) (h3 : ZRes w (.agg #[.bool u, .slice C p p']) Z k) :
    W.heap.size ≤ g ∧ TRes (st6 w g (.bool s) (.slice A n n') (.bool t) (.slice B m m') (.bool u) (.slice C p p')) g X Y Z k ∧ Below W.heap.size W (st6 w g (.bool s) (.slice A n n') (.bool t) (.slice B m m') (.bool u) (.slice C p p')) :=
  ⟨hg, ⟨s, A, n, n', t, B, m, m', u, C, p, p', q.set6 _ _ _ _ _ _, h1.onlyT q (only_st6 _ _ _ _ _ _ _ _), h2.onlyT q (only_st6 _ _ _ _ _ _ _ _), h3.onlyT q (only_st6 _ _ _ _ _ _ _ _)⟩, zback T hg (only_st6 _ _ _ _ _ _ _ _)⟩
end
theorem ZRes.st6 {W : World} {v : Value} {Z : Int} {j g : Nat} {s t u : Bool} {B C D : Option Addr} {m p q m' p' q' : Nat} {a b c d e f : Value} (h : ZRes W v Z j) (hb : BT W g (.bool s) (.slice B m m') (.bool t) (.slice C p p') (.bool u) (.slice D q q')) : ZRes (st6 W g a b c d e f) v Z j :=
  h.onlyT hb (only_st6 _ _ _ _ _ _ _ _)
/-- Both triples are written anew. -/
theorem bz_swap {w0 W : World} {L : List (Nat × Value × Value)} {gL gN k : Nat} {s t u s' t' u' s1 t1 u1 s2 t2 u2 : Bool} {A B C A' B' C' A1 B1 C1 A2 B2 C2 : Option Addr} {n n' m m' p p' i i' j j' l l' n1 n1' m1 m1' p1 p1' n2 n2' m2 m2' p2 p2' : Nat} {X1 Y1 Z1 X2 Y2 Z2 : Int}
    (K : Keeps w0 L W) (bL : BT W gL (.bool s) (.slice A n n') (.bool t) (.slice B m m') (.bool u) (.slice C p p')) (bN : BT W gN (.bool s') (.slice A' i i') (.bool t') (.slice B' j j') (.bool u') (.slice C' l l')) (hne : gL ≠ gN) (hL : ∀ p ∈ L, p.1 ≠ gL) (hN : ∀ p ∈ L, p.1 ≠ gN) (h0 : w0.heap.size ≤ gL) (h1 : w0.heap.size ≤ gN)
    (n1h : ZRes W (.agg #[.bool s1, .slice A1 n1 n1']) X1 k) (n2h : ZRes W (.agg #[.bool t1, .slice B1 m1 m1']) Y1 k) (n3h : ZRes W (.agg #[.bool u1, .slice C1 p1 p1']) Z1 k)
    (a1h : ZRes W (.agg #[.bool s2, .slice A2 n2 n2']) X2 k) (a2h : ZRes W (.agg #[.bool t2, .slice B2 m2 m2']) Y2 k) (a3h : ZRes W (.agg #[.bool u2, .slice C2 p2 p2']) Z2 k) :
    TRes (st6 (st6 W gL (.bool s1) (.slice A1 n1 n1') (.bool t1) (.slice B1 m1 m1') (.bool u1) (.slice C1 p1 p1')) gN (.bool s2) (.slice A2 n2 n2') (.bool t2) (.slice B2 m2 m2') (.bool u2) (.slice C2 p2 p2')).drew gL X1 Y1 Z1 k ∧
    TRes (st6 (st6 W gL (.bool s1) (.slice A1 n1 n1') (.bool t1) (.slice B1 m1 m1') (.bool u1) (.slice C1 p1 p1')) gN (.bool s2) (.slice A2 n2 n2') (.bool t2) (.slice B2 m2 m2') (.bool u2) (.slice C2 p2 p2')).drew gN X2 Y2 Z2 k ∧
    Keeps w0 L (st6 (st6 W gL (.bool s1) (.slice A1 n1 n1') (.bool t1) (.slice B1 m1 m1') (.bool u1) (.slice C1 p1 p1')) gN (.bool s2) (.slice A2 n2 n2') (.bool t2) (.slice B2 m2 m2') (.bool u2) (.slice C2 p2 p2')).drew := by
  have bN1 := bN.other (only_st6 W gL (.bool s1) (.slice A1 n1 n1') (.bool t1) (.slice B1 m1 m1') (.bool u1) (.slice C1 p1 p1')) (Ne.symm hne)
  have o1 := only_st6 W gL (.bool s1) (.slice A1 n1 n1') (.bool t1) (.slice B1 m1 m1') (.bool u1) (.slice C1 p1 p1')
  have o2 := only_st6 (st6 W gL (.bool s1) (.slice A1 n1 n1') (.bool t1) (.slice B1 m1 m1') (.bool u1) (.slice C1 p1 p1')) gN (.bool s2) (.slice A2 n2 n2') (.bool t2) (.slice B2 m2 m2') (.bool u2) (.slice C2 p2 p2')
  refine ⟨TRes.next ⟨_, _, _, _, _, _, _, _, _, _, _, _, (bL.set6 _ _ _ _ _ _).other o2 hne, (n1h.onlyT bL o1).onlyT bN1 o2, (n2h.onlyT bL o1).onlyT bN1 o2, (n3h.onlyT bL o1).onlyT bN1 o2⟩ (bl_drewN _ 1), TRes.next ⟨_, _, _, _, _, _, _, _, _, _, _, _, bN1.set6 _ _ _ _ _ _, (a1h.onlyT bL o1).onlyT bN1 o2, (a2h.onlyT bL o1).onlyT bN1 o2, (a3h.onlyT bL o1).onlyT bN1 o2⟩ (bl_drewN _ 1), ((K.far o1 h0 hL).far o2 h1 hN).drew⟩
theorem results_zzz {fn : Func} {p q r : Tmp} (h : fn.results = #[.cell p 38, .cell q 38, .cell r 38]) (tmps : Array Value) (w : World) (g k l : Nat) (x y x' y' x2 y2 : Value)
    (hp : tmps.getD p undef = .pointer (some ⟨g, 0, none⟩)) (hq : tmps.getD q undef = .pointer (some ⟨k, 0, none⟩)) (hr : tmps.getD r undef = .pointer (some ⟨l, 0, none⟩)) (hg : Blk w g #[x, y]) (hk : Blk w k #[x', y']) (hl : Blk w l #[x2, y2]) :
    (results fn tmps).run Try.prog w = .ok (.tuple #[.agg #[x, y], .agg #[x', y'], .agg #[x2, y2]]) w := by
  have hp' : tmps[p]?.getD undef = .pointer (some ⟨g, 0, none⟩) := by simpa using hp
  have hq' : tmps[q]?.getD undef = .pointer (some ⟨k, 0, none⟩) := by simpa using hq
  have hr' : tmps[r]?.getD undef = .pointer (some ⟨l, 0, none⟩) := by simpa using hr
  simp [results, h, hp', hq', hr', asAddr, run_loadVar_row w g 38 38 #[x, y] (0, 0) _ hg Try.underlying38 rfl (by kernel_rfl), run_loadVar_row w k 38 38 #[x', y'] (0, 0) _ hk Try.underlying38 rfl (by kernel_rfl), run_loadVar_row w l 38 38 #[x2, y2] (0, 0) _ hl Try.underlying38 rfl (by kernel_rfl)]
theorem bodyPost_zzz {fn : Func} {R : Ending → World → Prop} {a : Act} {w : World} {g k l p q r : Nat} {x y x' y' x2 y2 : Value} (hres : fn.results = #[.cell p 38, .cell q 38, .cell r 38]) (hp : a.tmps.getD p undef = .pointer (some ⟨g, 0, none⟩)) (hq : a.tmps.getD q undef = .pointer (some ⟨k, 0, none⟩))
    (hr : a.tmps.getD r undef = .pointer (some ⟨l, 0, none⟩)) (hb : Blk w g #[x, y]) (hk : Blk w k #[x', y']) (hl : Blk w l #[x2, y2]) (hd : a.defers = []) (hR : R (.returned (.tuple #[.agg #[x, y], .agg #[x', y'], .agg #[x2, y2]])) w) : bodyPost Try.prog fn R .ret a w :=
  bodyPost_ret (results_zzz hres _ _ g k l x y x' y' x2 y2 hp hq hr hb hk hl) hd hR
theorem three_out {w W : World} {L : List (Nat × Value × Value)} {s t u : Bool} {A B C : Option Addr} {n n' m m' p p' j : Nat} {X Y Z : Int}
    (K : Keeps w L W) (q : Blk W (w.heap.size + 1 + 1) #[.bool false, .slice none 0 0]) (r : Blk W (w.heap.size + 1 + 1 + 1) #[.bool false, .slice none 0 0]) (o : Blk W (w.heap.size + 1 + 1 + 1 + 1) #[.bool false, .slice none 0 0])
    (h1 : ZRes W (.agg #[.bool s, .slice A n n']) X j) (h2 : ZRes W (.agg #[.bool t, .slice B m m']) Y j) (h3 : ZRes W (.agg #[.bool u, .slice C p p']) Z j) :
    Blk (st2 (st2 (st2 W (w.heap.size + 1 + 1) (.bool s) (.slice A n n')) (w.heap.size + 1 + 1 + 1) (.bool t) (.slice B m m')) (w.heap.size + 1 + 1 + 1 + 1) (.bool u) (.slice C p p')).drew (w.heap.size + 1 + 1) #[.bool s, .slice A n n'] ∧
    Blk (st2 (st2 (st2 W (w.heap.size + 1 + 1) (.bool s) (.slice A n n')) (w.heap.size + 1 + 1 + 1) (.bool t) (.slice B m m')) (w.heap.size + 1 + 1 + 1 + 1) (.bool u) (.slice C p p')).drew (w.heap.size + 1 + 1 + 1) #[.bool t, .slice B m m'] ∧
    Blk (st2 (st2 (st2 W (w.heap.size + 1 + 1) (.bool s) (.slice A n n')) (w.heap.size + 1 + 1 + 1) (.bool t) (.slice B m m')) (w.heap.size + 1 + 1 + 1 + 1) (.bool u) (.slice C p p')).drew (w.heap.size + 1 + 1 + 1 + 1) #[.bool u, .slice C p p'] ∧
    ZRes (st2 (st2 (st2 W (w.heap.size + 1 + 1) (.bool s) (.slice A n n')) (w.heap.size + 1 + 1 + 1) (.bool t) (.slice B m m')) (w.heap.size + 1 + 1 + 1 + 1) (.bool u) (.slice C p p')).drew (.agg #[.bool s, .slice A n n']) X j ∧
    ZRes (st2 (st2 (st2 W (w.heap.size + 1 + 1) (.bool s) (.slice A n n')) (w.heap.size + 1 + 1 + 1) (.bool t) (.slice B m m')) (w.heap.size + 1 + 1 + 1 + 1) (.bool u) (.slice C p p')).drew (.agg #[.bool t, .slice B m m']) Y j ∧
    ZRes (st2 (st2 (st2 W (w.heap.size + 1 + 1) (.bool s) (.slice A n n')) (w.heap.size + 1 + 1 + 1) (.bool t) (.slice B m m')) (w.heap.size + 1 + 1 + 1 + 1) (.bool u) (.slice C p p')).drew (.agg #[.bool u, .slice C p p']) Z j ∧
    Below w.heap.size w (st2 (st2 (st2 W (w.heap.size + 1 + 1) (.bool s) (.slice A n n')) (w.heap.size + 1 + 1 + 1) (.bool t) (.slice B m m')) (w.heap.size + 1 + 1 + 1 + 1) (.bool u) (.slice C p p')).drew := by
  have r1 : Blk (st2 W (w.heap.size + 1 + 1) (.bool s) (.slice A n n')) (w.heap.size + 1 + 1 + 1) #[.bool false, .slice none 0 0] := r.stOther (by omega)
  have o1 : Blk (st2 W (w.heap.size + 1 + 1) (.bool s) (.slice A n n')) (w.heap.size + 1 + 1 + 1 + 1) #[.bool false, .slice none 0 0] := o.stOther (by omega)
  have o2 : Blk (st2 (st2 W (w.heap.size + 1 + 1) (.bool s) (.slice A n n')) (w.heap.size + 1 + 1 + 1) (.bool t) (.slice B m m')) (w.heap.size + 1 + 1 + 1 + 1) #[.bool false, .slice none 0 0] := o1.stOther (by omega)
  refine ⟨((q.stSame.stOther (by omega)).stOther (by omega)).drew, (r1.stSame.stOther (by omega)).drew, o2.stSame.drew, ZRes.below (((h1.st q).st r1).st o2) (bl_drewN _ 1), ZRes.below (((h2.st q).st r1).st o2) (bl_drewN _ 1), ZRes.below (((h3.st q).st r1).st o2) (bl_drewN _ 1), ?_⟩
  exact (zback (zback (zback K.old (by omega) (only_set2 _ _ _ _)) (by omega) (only_set2 _ _ _ _)) (by omega) (only_set2 _ _ _ _)).drew
theorem BT.setY {w : World} {g : Nat} {a b c d e f : Value} (h : BT w g a b c d e f) (c' d' : Value) : BT ((w.setCell ⟨g, 2, none⟩ c').setCell ⟨g, 3, none⟩ d') g a b c' d' e f := by
  unfold BT at h ⊢
  simp [World.setCell, Array.getElem?_modify, h]
theorem BT.setZ {w : World} {g : Nat} {a b c d e f : Value} (h : BT w g a b c d e f) (e' f' : Value) : BT ((w.setCell ⟨g, 4, none⟩ e').setCell ⟨g, 5, none⟩ f') g a b c d e' f' := by
  unfold BT at h ⊢
  simp [World.setCell, Array.getElem?_modify, h]
theorem only_setY (w : World) (g : Nat) (x y : Value) : Only g w ((w.setCell ⟨g, 2, none⟩ x).setCell ⟨g, 3, none⟩ y) := ((Only.refl g w).setCell 2 x).setCell 3 y
theorem only_setZ (w : World) (g : Nat) (x y : Value) : Only g w ((w.setCell ⟨g, 4, none⟩ x).setCell ⟨g, 5, none⟩ y) := ((Only.refl g w).setCell 4 x).setCell 5 y
theorem nat_fdiv (a b : Nat) (h : b ≠ 0) : ((a : Int).fdiv (b : Int) = ((a / b : Nat) : Int)) ∧ ((a : Int).fmod (b : Int) = ((a % b : Nat) : Int)) := by
  have := divz_same false a b (Nat.pos_of_ne_zero h)
  simpa [sg] using this
end Go.Proofs.Ytlihnagfmfpdcaa
