/- The boxes of a law's numbers, as a list: where each lies and what it holds. -/
import Derived.Test.YtpocaopiaggbmaaZintC
namespace Go.Proofs.Ytpocaopiaggbmaa
open Go.RowKit

/-- Nothing that was there in w has turned in W, and the boxes of L lie in W, all of them new since w. -/
def Keeps (w : World) (L : List (Nat × Value × Value)) (W : World) : Prop := Below w.heap.size w W ∧ ∀ p ∈ L, Blk W p.1 #[p.2.1, p.2.2] ∧ w.heap.size ≤ p.1
variable {w W W' : World} {L : List (Nat × Value × Value)} {g : Nat} {a b : Value}
theorem Keeps.old (h : Keeps w L W) : Below w.heap.size w W := h.1
theorem Keeps.blk (h : Keeps w L W) (hm : (g, a, b) ∈ L) : Blk W g #[a, b] := (h.2 _ hm).1
theorem Keeps.nil (h : Below w.heap.size w W) : Keeps w [] W := ⟨h, fun p hp => by cases hp⟩
theorem Keeps.add (h : Keeps w L W) (hb : Blk W g #[a, b]) (hg : w.heap.size ≤ g) : Keeps w ((g, a, b) :: L) W :=
  ⟨h.1, fun p hp => by
    rcases List.mem_cons.1 hp with rfl | hp
    · exact ⟨hb, hg⟩
    · exact h.2 p hp⟩
theorem Keeps.drew (h : Keeps w L W) : Keeps w L W.drew := ⟨h.1.drew, fun p hp => h.2 p hp⟩
theorem Keeps.call (h : Keeps w L W) (k : Below W.heap.size W W') : Keeps w L W' := ⟨h.1.next k, fun p hp => ⟨(h.2 p hp).1.next k, (h.2 p hp).2⟩⟩
theorem Keeps.alloc (h : Keeps w L W) (o : Obj) : Keeps w L (W.alloc o) := h.call (bl_alloc W o)
theorem Keeps.far (h : Keeps w L W) (ho : Only g W W') (hg : w.heap.size ≤ g) (hne : ∀ p ∈ L, p.1 ≠ g) : Keeps w L W' :=
  ⟨zback h.1 hg ho, fun p hp => ⟨(h.2 p hp).1.other ho (hne p hp), (h.2 p hp).2⟩⟩
theorem Keeps.lt (h : Keeps w L W) : ∀ p ∈ L, p.1 < W.heap.size := fun p hp => (h.2 p hp).1.lt
theorem Keeps.ne (h : Keeps w L W) (hg : W.heap.size ≤ g) : ∀ p ∈ L, p.1 ≠ g := fun p hp => by have := h.lt p hp; omega
theorem Keeps.size (h : Keeps w L W) : w.heap.size ≤ W.heap.size := h.1.size
/-- Two new boxes are filled one after the other. -/
theorem Keeps.two {g k : Nat} {u v u' v' x y x' y' : Value} (h : Keeps w L W) (hg : Blk W g #[u, v]) (hk : Blk W k #[u', v']) (hne : g ≠ k) (h0 : w.heap.size ≤ g) (h1 : w.heap.size ≤ k) (hL : ∀ p ∈ L, p.1 ≠ g ∧ p.1 ≠ k) :
    Keeps w ((g, x, y) :: (k, x', y') :: L) ((((W.setCell ⟨g, 0, none⟩ x).setCell ⟨g, 1, none⟩ y).setCell ⟨k, 0, none⟩ x').setCell ⟨k, 1, none⟩ y') := by
  have o1 := only_set2 W g x y
  have o2 := only_set2 ((W.setCell ⟨g, 0, none⟩ x).setCell ⟨g, 1, none⟩ y) k x' y'
  have k1 := h.far o1 h0 (fun p hp => (hL p hp).1)
  have k2 := k1.far o2 h1 (fun p hp => (hL p hp).2)
  exact (k2.add ((hk.other o1 (Ne.symm hne)).set2 x' y') h1).add ((hg.set2 x y).other o2 hne) h0
theorem Keeps.one {g : Nat} {u v x y : Value} (h : Keeps w L W) (hg : Blk W g #[u, v]) (h0 : w.heap.size ≤ g) (hL : ∀ p ∈ L, p.1 ≠ g) :
    Keeps w ((g, x, y) :: L) ((W.setCell ⟨g, 0, none⟩ x).setCell ⟨g, 1, none⟩ y) :=
  (h.far (only_set2 W g x y) h0 hL).add (hg.set2 x y) h0
/-- A number is what it was behind stores into boxes. -/
theorem ZRes.set2 {v : Value} {Z : Int} {k : Nat} {s : Bool} {B : Option Addr} {m d : Nat} (h : ZRes W v Z k) (hb : Blk W g #[.bool s, .slice B m d]) (x y : Value) : ZRes ((W.setCell ⟨g, 0, none⟩ x).setCell ⟨g, 1, none⟩ y) v Z k := h.only hb (only_set2 W g x y)
theorem ZRes.two {v : Value} {Z : Int} {j g k : Nat} {s t : Bool} {A B : Option Addr} {n m c d : Nat} (h : ZRes W v Z j) (hg : Blk W g #[.bool s, .slice A n c]) (hk : Blk W k #[.bool t, .slice B m d]) (hne : g ≠ k) (x y x' y' : Value) :
    ZRes ((((W.setCell ⟨g, 0, none⟩ x).setCell ⟨g, 1, none⟩ y).setCell ⟨k, 0, none⟩ x').setCell ⟨k, 1, none⟩ y') v Z j :=
  (h.set2 hg x y).set2 (hk.other (only_set2 W g x y) (Ne.symm hne)) x' y'

/-- The same, where a region began at B cells' blocks: what it makes lies behind them. -/
def KeepsB (w : World) (B : Nat) (L : List (Nat × Value × Value)) (W : World) : Prop := Keeps w L W ∧ B ≤ W.heap.size ∧ w.heap.size ≤ B ∧ ∀ p ∈ L, p.1 < B
variable {B : Nat}
theorem Keeps.begin (h : Keeps w L W) : KeepsB w W.heap.size L W := ⟨h, Nat.le_refl _, h.size, h.lt⟩
theorem KeepsB.keeps (h : KeepsB w B L W) : Keeps w L W := h.1
theorem KeepsB.old (h : KeepsB w B L W) : Below w.heap.size w W := h.1.1
theorem KeepsB.size (h : KeepsB w B L W) : B ≤ W.heap.size := h.2.1
theorem KeepsB.drew (h : KeepsB w B L W) : KeepsB w B L W.drew := ⟨h.1.drew, h.2⟩
theorem KeepsB.call (h : KeepsB w B L W) (k : Below W.heap.size W W') : KeepsB w B L W' := ⟨h.1.call k, Nat.le_trans h.2.1 k.size, h.2.2⟩
theorem KeepsB.alloc (h : KeepsB w B L W) (o : Obj) : KeepsB w B L (W.alloc o) := h.call (bl_alloc W o)
theorem KeepsB.far (h : KeepsB w B L W) (ho : Only g W W') (hg : B ≤ g) : KeepsB w B L W' :=
  ⟨h.1.far ho (by have := h.2.2.1; omega) (fun p hp => by have := h.2.2.2 p hp; omega), Nat.le_trans h.2.1 (ho.below (B := 0) (Nat.zero_le _) (Nat.zero_le _)).size, h.2.2⟩
theorem KeepsB.far1 (h : KeepsB w B L W) (x y : Value) (hg : B ≤ g) : KeepsB w B L ((W.setCell ⟨g, 0, none⟩ x).setCell ⟨g, 1, none⟩ y) := h.far (only_set2 W g x y) hg
theorem KeepsB.far2 {k : Nat} (h : KeepsB w B L W) (x y x' y' : Value) (hg : B ≤ g) (hk : B ≤ k) : KeepsB w B L ((((W.setCell ⟨g, 0, none⟩ x).setCell ⟨g, 1, none⟩ y).setCell ⟨k, 0, none⟩ x').setCell ⟨k, 1, none⟩ y') := (h.far1 x y hg).far1 x' y' hk
/-- Both cells of a box are written. -/
def st2 (W : World) (g : Nat) (x y : Value) : World := (W.setCell ⟨g, 0, none⟩ x).setCell ⟨g, 1, none⟩ y
theorem st2_def (W : World) (g : Nat) (x y : Value) : (W.setCell ⟨g, 0, none⟩ x).setCell ⟨g, 1, none⟩ y = st2 W g x y := rfl
theorem KeepsB.st (h : KeepsB w B L W) (x y : Value) (hg : B ≤ g) : KeepsB w B L (st2 W g x y) := h.far (only_set2 W g x y) hg
theorem KeepsB.two {g k : Nat} {u v u' v' x y x' y' : Value} (h : KeepsB w B L W) (hg : Blk W g #[u, v]) (hk : Blk W k #[u', v']) (hne : g ≠ k) (h0 : B ≤ g) (h1 : B ≤ k) :
    Keeps w ((g, x, y) :: (k, x', y') :: L) ((((W.setCell ⟨g, 0, none⟩ x).setCell ⟨g, 1, none⟩ y).setCell ⟨k, 0, none⟩ x').setCell ⟨k, 1, none⟩ y') :=
  h.1.two hg hk hne (Nat.le_trans h.2.2.1 h0) (Nat.le_trans h.2.2.1 h1) (fun p hp => by have := h.2.2.2 p hp; omega)
theorem KeepsB.one {g : Nat} {u v x y : Value} (h : KeepsB w B L W) (hg : Blk W g #[u, v]) (h0 : B ≤ g) :
    Keeps w ((g, x, y) :: L) ((W.setCell ⟨g, 0, none⟩ x).setCell ⟨g, 1, none⟩ y) :=
  h.1.one hg (Nat.le_trans h.2.2.1 h0) (fun p hp => by have := h.2.2.2 p hp; omega)
theorem st2_size (W : World) (g : Nat) (x y : Value) : (st2 W g x y).heap.size = W.heap.size := by simp [st2, World.setCell]
theorem Blk.newAt (W : World) (cs : Array Value) (h : g = W.heap.size) : Blk (W.alloc (.cells cs 42)) g cs := h ▸ Blk.new W cs
theorem Blk.stSame {x y : Value} (h : Blk W g #[.bool false, .slice none 0 0]) : Blk (st2 W g x y) g #[x, y] := h.set2 x y
theorem Blk.stOther {k : Nat} {cs : Array Value} {x y : Value} (h : Blk W k cs) (hne : k ≠ g) : Blk (st2 W g x y) k cs := h.other (only_set2 W g x y) hne
theorem ZRes.alloc {v : Value} {Z : Int} {k : Nat} (h : ZRes W v Z k) (o : Obj) : ZRes (W.alloc o) v Z k := h.below (bl_alloc W o)
theorem ZRes.st {v : Value} {Z : Int} {k : Nat} {s : Bool} {A : Option Addr} {m d : Nat} {x y : Value} (h : ZRes W v Z k) (hb : Blk W g #[.bool s, .slice A m d]) : ZRes (st2 W g x y) v Z k := h.set2 hb x y
theorem KeepsB.add2 {k : Nat} {a' b' : Value} (h : KeepsB w B L W) (hg : Blk W g #[a, b]) (hk : Blk W k #[a', b']) (h0 : B ≤ g) (h1 : B ≤ k) : Keeps w ((g, a, b) :: (k, a', b') :: L) W :=
  (h.1.add hk (Nat.le_trans h.2.2.1 h1)).add hg (Nat.le_trans h.2.2.1 h0)
theorem KeepsB.add1 (h : KeepsB w B L W) (hg : Blk W g #[a, b]) (h0 : B ≤ g) : Keeps w ((g, a, b) :: L) W := h.1.add hg (Nat.le_trans h.2.2.1 h0)
theorem KeepsB.mk2 {g k : Nat} {a' b' : Value} (h : Keeps w [(g, a, b), (k, a', b')] W) (h1 : B ≤ W.heap.size) (h2 : w.heap.size ≤ B) (h3 : g < B) (h4 : k < B) : KeepsB w B [(g, a, b), (k, a', b')] W :=
  ⟨h, h1, h2, fun p hp => by
    rcases List.mem_cons.1 hp with rfl | hp
    · exact h3
    · rcases List.mem_cons.1 hp with rfl | hp
      · exact h4
      · cases hp⟩
theorem Keeps.tail {p : Nat × Value × Value} (h : Keeps w (p :: L) W) : Keeps w L W := ⟨h.1, fun q hq => h.2 q (List.Mem.tail _ hq)⟩
/-- Two boxes are written anew, one behind the other; two others stay. -/
theorem Keeps.swap2 {g k x y : Nat} {u v u' v' a b c d p q p' q' : Value} {W1 W2 : World} (h : Keeps w [(g, u, v), (k, u', v'), (x, a, b), (y, c, d)] W) (h1 : Only g W W1) (h2 : Only k W1 W2) (hg : Blk W1 g #[p, q]) (hk : Blk W2 k #[p', q']) (hne : g ≠ k)
    (hx : x ≠ g ∧ x ≠ k) (hy : y ≠ g ∧ y ≠ k) : Keeps w [(g, p, q), (k, p', q'), (x, a, b), (y, c, d)] W2 := by
  have hgw : w.heap.size ≤ g := (h.2 _ (List.Mem.head _)).2
  have hkw : w.heap.size ≤ k := (h.2 _ (List.Mem.tail _ (List.Mem.head _))).2
  have ht : Keeps w [(x, a, b), (y, c, d)] W2 := ((Keeps.tail (Keeps.tail h)).far h1 hgw (fun r hr => by
    rcases List.mem_cons.1 hr with rfl | hr
    · exact hx.1
    · rcases List.mem_cons.1 hr with rfl | hr
      · exact hy.1
      · cases hr)).far h2 hkw (fun r hr => by
    rcases List.mem_cons.1 hr with rfl | hr
    · exact hx.2
    · rcases List.mem_cons.1 hr with rfl | hr
      · exact hy.2
      · cases hr)
  exact (ht.add hk hkw).add (hg.other h2 hne) hgw
end Go.Proofs.Ytpocaopiaggbmaa
