/- Rows of bytes: make. -/
import Derived.Test.YtlihnagfmfpdcaaMem
namespace Go.Proofs.Ytlihnagfmfpdcaa
open Go.RowKit

def u8s (xs : List Nat) : List Value := xs.map fun (x : Nat) => Value.int .u8 (x : Int)
theorem u8s_length (xs : List Nat) : (u8s xs).length = xs.length := by simp [u8s]
theorem u8s_get (xs : List Nat) (i : Nat) (h : i < xs.length) : (u8s xs)[i]? = some (.int .u8 ((xs.getD i 0 : Nat) : Int)) := by
  simp [u8s, List.getElem?_map, List.getD_eq_getElem?_getD, List.getElem?_eq_getElem h]
theorem u8s_replicate (n : Nat) : u8s (List.replicate n 0) = List.replicate n (.int .u8 0) := by simp [u8s]
/-- Block g is a row of just the bytes zs. -/
def BRow (w : World) (g : Nat) (zs : List Nat) : Prop := w.heap[g]? = some (.cells (u8s zs).toArray 5 (0, 0))
theorem BRow.lt {w : World} {g : Nat} {zs : List Nat} (h : BRow w g zs) : g < w.heap.size := by
  rcases Nat.lt_or_ge g w.heap.size with hlt | hge
  · exact hlt
  · unfold BRow at h; rw [Array.getElem?_eq_none hge] at h; cases h
theorem BRow.cell {w : World} {g : Nat} {zs : List Nat} {i : Nat} (h : BRow w g zs) (hi : i < zs.length) : w.cell? ⟨g, i, none⟩ = some (.int .u8 ((zs.getD i 0 : Nat) : Int)) := by
  rw [cell_of_row w g i _ _ _ h, List.getElem?_toArray, u8s_get zs i hi]
theorem BRow.frozen {w : World} {g : Nat} {zs : List Nat} (h : BRow w g zs) (i : Nat) : w.frozen? ⟨g, i, none⟩ = false := by
  unfold BRow at h
  simp [World.frozen?, h]
theorem BRow.set_ {w : World} {g : Nat} {zs : List Nat} (h : BRow w g zs) (i v : Nat) : BRow (w.setCell ⟨g, i, none⟩ (.int .u8 (v : Int))) g (zs.set i v) := by
  unfold BRow at h ⊢
  simp [World.setCell, Array.getElem?_modify, h, u8s, List.map_set]
theorem BRow.keep {w w' : World} {g : Nat} {zs : List Nat} (h : BRow w g zs) (hk : w'.heap[g]? = w.heap[g]?) : BRow w' g zs := hk.trans h
theorem BRow.other {w w' : World} {g r : Nat} {zs : List Nat} (h : BRow w g zs) (ho : Only r w w') (hne : g ≠ r) : BRow w' g zs := h.keep (ho.block g h.lt (fun hh => hne (by injection hh)))

theorem u8_info : (Try.prog.info? 5).map (fun i => (i.zero, i.size, i.bytes)) = some (some (.int .u8 0), 1, 1) := by kernel_rfl
theorem BRow.made {w' : World} {g n : Nat} {base : Nat} (h : w'.ownsRow base 5 1 (.slice (some ⟨g, 0, none⟩) n n) n (madeCells (Value.int .u8 0).cells (n * 1)).toList) : BRow w' g (List.replicate n 0) ∧ base ≤ g := by
  obtain ⟨hl, hc⟩ := h
  rcases hc with ⟨h0, _⟩ | ⟨g', cap, cur, hv, hb, hh, h1, h2, h3, h4⟩
  · cases h0
  · injection hv with hv1 hv2 hv3
    injection hv1 with hv1
    injection hv1 with hv1
    subst hv1
    subst hv3
    have e : cur.toList = List.replicate n (.int .u8 0) := by
      have h5 : cur.toList.length = n * 1 := by simpa using h3
      rw [List.take_of_length_le (by omega)] at h4
      rw [h4, Nat.mul_one]
      exact toList_madeCells_one _ _
    refine ⟨?_, hb⟩
    unfold BRow
    rw [hh, u8s_replicate, ← e]
theorem wpList_make_u8 (w : World) {ops : Array Oper} {rest : List Oper} {o : Oper} {a : Act} {Q : Exit → Act → World → Prop} (hg : o.guard = none) (l c : Operand) (hop : o.op = Op.makeSlice 63 l c)
    (L : Int) (n : Nat) (hl : a.eval l = .int .i64 L) (hc : a.eval c = .int .i64 L) (hL : L = (n : Int)) (hn : n ≤ 35184372088832)
    (hK : ∀ w', BRow w' w.heap.size (List.replicate n 0) → Below w.heap.size w w' → w.heap.size < w'.heap.size → wpList Try.prog ops Q rest (a.put o.dst (.slice (some ⟨w.heap.size, 0, none⟩) n n)) w') :
    wpList Try.prog ops Q (o :: rest) a w := by
  obtain ⟨i0, hi0, hz0, hz1, hz2⟩ := info_parts u8_info
  refine wpList_make_full _ hg l c _ hop w.heap.size 5 i0 _ 1 Try.underlying63 hi0 hz0 hz1 .i64 .i64 L L n hl hc hL hL (by rw [hz2]; omega) (by unfold maxLen; omega) (Nat.le_refl _) ?_
  intro w' ho hgr
  have hr := (BRow.made (base := w.heap.size) ho).1
  exact hK w' hr ((Below.refl _ _).grown hgr (Nat.le_refl _) (fun k hk => by cases hk)) hr.lt
end Go.Proofs.Ytlihnagfmfpdcaa
