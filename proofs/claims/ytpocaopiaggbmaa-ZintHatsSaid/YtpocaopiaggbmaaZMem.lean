/- Blocks that hold an api.Int: a parameter's own, a result's own; a store into one, and what a call hands back out of one. -/
import Derived.Test.YtpocaopiaggbmaaBitsAny
import Derived.Test.YtpocaopiaggbmaaMulD
import Derived.Deep.RegionHeld3
namespace Go.Proofs.Ytpocaopiaggbmaa
open Go.RowKit

/-- Block g holds an api.Int of the cells cs. -/
def Blk (w : World) (g : Nat) (cs : Array Value) : Prop := w.heap[g]? = some (.cells cs 42 (0, 0))
theorem Blk.lt {w : World} {g : Nat} {cs : Array Value} (h : Blk w g cs) : g < w.heap.size := by
  rcases Nat.lt_or_ge g w.heap.size with hlt | hge
  · exact hlt
  · unfold Blk at h; rw [Array.getElem?_eq_none hge] at h; cases h
theorem Blk.c0 {w : World} {g : Nat} {x y : Value} (h : Blk w g #[x, y]) : w.cell? ⟨g, 0, none⟩ = some x := by
  rw [cell_of_row w g 0 _ _ _ h]; rfl
theorem Blk.c1 {w : World} {g : Nat} {x y : Value} (h : Blk w g #[x, y]) : w.cell? ⟨g, 1, none⟩ = some y := by
  rw [cell_of_row w g 1 _ _ _ h]; rfl
theorem Blk.fr {w : World} {g : Nat} {cs : Array Value} (h : Blk w g cs) (i : Nat) : w.frozen? ⟨g, i, none⟩ = false := by
  unfold Blk at h; simp [World.frozen?, h]
theorem Blk.below {w w' : World} {g B : Nat} {cs : Array Value} (h : Blk w g cs) (hb : Below B w w') (hg : g < B) : Blk w' g cs := (hb.block g hg).trans h
theorem Blk.next {w w' : World} {g : Nat} {cs : Array Value} (h : Blk w g cs) (hb : Below w.heap.size w w') : Blk w' g cs := h.below hb h.lt
theorem Blk.new (w : World) (cs : Array Value) : Blk (w.alloc (.cells cs 42)) w.heap.size cs := heap_alloc_new w _
theorem Blk.alloc {w : World} {g : Nat} {cs : Array Value} (h : Blk w g cs) (o : Obj) : Blk (w.alloc o) g cs := h.next (bl_alloc w o)
theorem Blk.drew {w : World} {g : Nat} {cs : Array Value} (h : Blk w g cs) : Blk w.drew g cs := h
theorem Blk.drewN {w : World} {g : Nat} {cs : Array Value} (h : Blk w g cs) (k : Nat) : Blk (w.drewN k) g cs := h
theorem Blk.other {w w' : World} {g r : Nat} {cs : Array Value} (h : Blk w g cs) (ho : Only r w w') (hne : g ≠ r) : Blk w' g cs :=
  (ho.block g h.lt (fun hh => hne (by injection hh))).trans h
theorem size_alloc (w : World) (o : Obj) : (w.alloc o).heap.size = w.heap.size + 1 := by
  show (w.heap.push o).size = _
  simp

/-- A fresh block beside what was there. -/
theorem zstart1 (w : World) (X : Array Value) : Blk (w.alloc (.cells X 42)) w.heap.size X ∧ Below w.heap.size w (w.alloc (.cells X 42)) ∧ (w.alloc (.cells X 42)).heap.size = w.heap.size + 1 :=
  ⟨Blk.new w X, bl_alloc w _, size_alloc w _⟩
theorem zstart2 (w : World) (X Y : Array Value) : Blk ((w.alloc (.cells X 42)).alloc (.cells Y 42)) w.heap.size X ∧ Blk ((w.alloc (.cells X 42)).alloc (.cells Y 42)) (w.heap.size + 1) Y ∧
    Below w.heap.size w ((w.alloc (.cells X 42)).alloc (.cells Y 42)) ∧ ((w.alloc (.cells X 42)).alloc (.cells Y 42)).heap.size = w.heap.size + 2 := by
  obtain ⟨h1, h2, h3⟩ := zstart1 w X
  obtain ⟨k1, k2, k3⟩ := zstart1 (w.alloc (.cells X 42)) Y
  rw [h3] at k1 k3
  exact ⟨h1.alloc _, k1, h2.next (bl_alloc _ _), by omega⟩
theorem zstart3 (w : World) (X Y Z : Array Value) : Blk (((w.alloc (.cells X 42)).alloc (.cells Y 42)).alloc (.cells Z 42)) w.heap.size X ∧ Blk (((w.alloc (.cells X 42)).alloc (.cells Y 42)).alloc (.cells Z 42)) (w.heap.size + 1) Y ∧
    Blk (((w.alloc (.cells X 42)).alloc (.cells Y 42)).alloc (.cells Z 42)) (w.heap.size + 1 + 1) Z ∧
    Below w.heap.size w (((w.alloc (.cells X 42)).alloc (.cells Y 42)).alloc (.cells Z 42)) ∧ (((w.alloc (.cells X 42)).alloc (.cells Y 42)).alloc (.cells Z 42)).heap.size = w.heap.size + 3 := by
  obtain ⟨h1, h2, h3, h4⟩ := zstart2 w X Y
  obtain ⟨k1, k2, k3⟩ := zstart1 ((w.alloc (.cells X 42)).alloc (.cells Y 42)) Z
  rw [h4] at k1 k3
  have e2 : w.heap.size + 2 = w.heap.size + 1 + 1 := rfl
  rw [e2] at k1
  exact ⟨h1.alloc _, h2.alloc _, k1, h3.next (bl_alloc _ _), by omega⟩

theorem wpList_store_z {w : World} {ops : Array Oper} {rest : List Oper} {o : Oper} {a : Act} {Q : Exit → Act → World → Prop} (hgd : o.guard = none) (x y : Operand) (ho : o.op = .store 42 x y)
    (g : Nat) (s : Bool) (A : Option Addr) (n c : Nat) (hx : a.eval x = .pointer (some ⟨g, 0, none⟩)) (hy : a.eval y = .agg #[.bool s, .slice A n c]) (u v : Value) (hb : Blk w g #[u, v])
    (h : ∀ w', Blk w' g #[.bool s, .slice A n c] → Only g w w' → wpList Try.prog ops Q rest (a.put o.dst undef) w') : wpList Try.prog ops Q (o :: rest) a w := by
  refine wpList_store_row hgd 42 x y ho g #[.bool s, .slice A n c] hx hy 42 #[u, v] hb (by kernel_rfl) rfl (by simp [Value.oneCell']) ?_
  refine h _ ?_ (only_setRow w g _)
  have := setRow_heap w g #[u, v] #[.bool s, .slice A n c] _ _ hb
  exact this

theorem Blk.set2 {w : World} {g : Nat} {u v : Value} (h : Blk w g #[u, v]) (x y : Value) : Blk ((w.setCell ⟨g, 0, none⟩ x).setCell ⟨g, 1, none⟩ y) g #[x, y] := by
  unfold Blk at h ⊢
  simp [World.setCell, Array.getElem?_modify, h]
theorem only_set2 (w : World) (g : Nat) (x y : Value) : Only g w ((w.setCell ⟨g, 0, none⟩ x).setCell ⟨g, 1, none⟩ y) := ((Only.refl g w).setCell 0 x).setCell 1 y
theorem bodyPost_z {fn : Func} {R : Ending → World → Prop} {a : Act} {w : World} {g p : Nat} {x y : Value} (hres : fn.results = #[.cell p 42]) (hp : a.tmps.getD p undef = .pointer (some ⟨g, 0, none⟩))
    (hb : Blk w g #[x, y]) (hd : a.defers = []) (hR : R (.returned (.agg #[x, y])) w) : bodyPost Try.prog fn R .ret a w :=
  bodyPost_ret (results_cell_row hres _ _ g _ #[x, y] _ _ hp hb Try.underlying42 rfl (by kernel_rfl)) hd hR
/-- Limbs are no cells of an api.Int. -/
theorem Nums.offBlk {w : World} {A : Option Addr} {n g : Nat} {xs : List Nat} {s : Bool} {B : Option Addr} {m d : Nat} (h : Nums w A n xs) (hb : Blk w g #[.bool s, .slice B m d]) : 0 < n → Apart A g := by
  intro hn ad had he
  obtain ⟨b, o, e, hc⟩ := h.2.2 hn
  have h0 := hc 0 hn
  rw [had] at e
  injection e with e
  subst e
  have he' : b = g := he
  subst he'
  rw [cell_of_row w b _ _ _ _ hb] at h0
  match o, h0 with
  | 0, h0 => simp at h0
  | 1, h0 => simp at h0
  | o + 2, h0 => simp at h0
theorem Nums.keepBlk {w w' : World} {A : Option Addr} {n g : Nat} {xs : List Nat} {s : Bool} {B : Option Addr} {m d : Nat} (h : Nums w A n xs) (hb : Blk w g #[.bool s, .slice B m d]) (ho : Only g w w') : Nums w' A n xs := h.grown' ho (h.offBlk hb)
theorem Nums.only {w w' : World} {A : Option Addr} {n g : Nat} {xs : List Nat} (h : Nums w A n xs) (ho : Only g w w') (ha : 0 < n → Apart A g) : Nums w' A n xs := h.grown' ho ha
end Go.Proofs.Ytpocaopiaggbmaa
