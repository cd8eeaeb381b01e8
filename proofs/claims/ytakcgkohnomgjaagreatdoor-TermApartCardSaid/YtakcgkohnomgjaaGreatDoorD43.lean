/- Texts of one seat, put together: MakeI. -/
import Derived.Test.YtakcgkohnomgjaaGreatDoorD03
import Derived.Test.YtakcgkohnomgjaaGreatDoorD18
import Derived.Test.YtakcgkohnomgjaaGreatDoorD42
import Derived.Test.YtakcgkohnomgjaaGreatDoorD29
set_option linter.unusedVariables false
set_option linter.unusedSimpArgs false
/- make([]api.Int, n); the list of which all are 0 but the last. -/
namespace Go.Proofs.YtakcgkohnomgjaaGreatDoor
open Go.RowKit
open Tm

theorem apiInt_info : (Tryz.prog.info? 26).map (fun i => (i.zero, i.size, i.bytes)) = some (some (.agg #[.bool false, .slice none 0 0]), 2, 32) := by kernel_rfl
def iv0 : IV := ⟨false, none, 0, 0, 0⟩
theorem flatI_append (ps qs : List IV) : flatI (ps ++ qs) = flatI ps ++ flatI qs := by unfold flatI; rw [List.map_append, List.flatten_append]
theorem made_two (a b : Value) (n : Nat) : (madeCells #[a, b] (n * 2)).toList = (List.replicate n [a, b]).flatten := by
  unfold madeCells
  rw [Array.toList_map, Array.toList_range]
  induction n with
  | zero => rfl
  | succ n ih =>
    rw [show (n + 1) * 2 = n * 2 + 1 + 1 by omega, List.range_succ, List.range_succ, List.map_append, List.map_append, ih, List.replicate_succ', List.flatten_append]
    have h1 : n * 2 % 2 = 0 := by omega
    have h2 : (n * 2 + 1) % 2 = 1 := by omega
    simp [h1, h2]
theorem made_ints (n : Nat) : (madeCells (Value.agg #[.bool false, .slice none 0 0]).cells (n * 2)).toList = flatI (List.replicate n iv0) := by
  rw [show (Value.agg #[.bool false, .slice none 0 0]).cells = #[.bool false, .slice none 0 0] from by simp [Value.cells], made_two]
  unfold flatI
  rw [List.map_replicate]
  rfl
theorem wpList_make_int (w : World) {ops : Array Oper} {rest : List Oper} {o : Oper} {a : Act} {Q : Exit → Act → World → Prop} (hg : o.guard = none) (l c : Operand) (hop : o.op = Op.makeSlice 44 l c)
    (L : Int) (n : Nat) (hl : a.eval l = .int .i64 L) (hc : a.eval c = .int .i64 L) (hL : L = (n : Int)) (hn : n ≤ 1099511627776) (hn0 : 0 < n)
    (hK : ∀ w', Box 26 w' w.heap.size (flatI (List.replicate n iv0)).toArray → Below w.heap.size w w' → w.heap.size < w'.heap.size → wpList Tryz.prog ops Q rest (a.put o.dst (.slice (some ⟨w.heap.size, 0, none⟩) n n)) w') :
    wpList Tryz.prog ops Q (o :: rest) a w := by
  obtain ⟨i0, hi0, hz0, hz1, hz2⟩ := info_parts apiInt_info
  refine wpList_make_full _ hg l c _ hop w.heap.size 26 i0 _ 2 Tryz.underlying44 hi0 hz0 hz1 .i64 .i64 L L n hl hc hL hL (by rw [hz2]; omega) (by unfold maxLen; omega) (Nat.le_refl _) ?_
  intro w' ho hgr
  rw [made_ints] at ho
  obtain ⟨-, ⟨h0, -⟩ | ⟨g', cap, cur, hv, hb, hh, h1, h2, h3, h4⟩⟩ := ho
  · cases h0
  · injection hv with hv1 hv2 hv3
    injection hv1 with hv1
    injection hv1 with hv1
    subst hv1
    subst hv3
    have hc9 : cur = (flatI (List.replicate n iv0)).toArray := by
      apply Array.ext'
      rw [← h4, List.take_of_length_le (by rw [Array.length_toList, h3]; exact Nat.le_refl _)]
    rw [hc9] at hh
    have hb9 : Box 26 w' w.heap.size (flatI (List.replicate n iv0)).toArray := hh
    exact hK w' hb9 ((Below.refl _ _).grown hgr (Nat.le_refl _) (fun k hk => by cases hk)) hb9.lt
theorem flatI_nls (ps : List IV) : NLs (flatI ps) := by
  intro u hu
  unfold flatI at hu
  obtain ⟨l, hl, hu⟩ := List.mem_flatten.1 hu
  obtain ⟨p, -, rfl⟩ := List.mem_map.1 hl
  simp [IV.cells] at hu
  rcases hu with rfl | rfl
  · exact NL.bool _
  · exact NL.slice _ _ _
/-- The last element is set. -/
theorem unit_set {w : World} {g q : Nat} {s : Bool} {B : Option Addr} {m d : Nat} (h : Box 26 w g (flatI (List.replicate (q + 1) iv0)).toArray) :
    Box 26 ((w.setCell ⟨g, q * 2, none⟩ (.bool s)).setCell ⟨g, q * 2 + 1, none⟩ (.slice B m d)) g (flatI (List.replicate q iv0 ++ [⟨s, B, m, d, 1⟩])).toArray := by
  unfold Box at h ⊢
  have hl : (flatI (List.replicate q iv0)).length = q * 2 := by rw [flatI_length, List.length_replicate]; omega
  simp only [World.setCell, Array.getElem?_modify, h]
  simp
  rw [List.replicate_succ', flatI_append, flatI_append, List.set_append_right _ _ (by omega), List.set_append_right _ _ (by omega), hl]
  simp [flatI, IV.cells, iv0]
theorem unit_cells {w : World} {g q : Nat} (h : Box 26 w g (flatI (List.replicate (q + 1) iv0)).toArray) : w.cell? ⟨g, q * 2, none⟩ = some (.bool false) ∧ w.cell? ⟨g, q * 2 + 1, none⟩ = some (.slice none 0 0) := by
  have hl : (flatI (List.replicate q iv0)).length = q * 2 := by rw [flatI_length, List.length_replicate]; omega
  rw [List.replicate_succ', flatI_append] at h
  refine ⟨h.cell _ _ ?_, h.cell _ _ ?_⟩
  · rw [List.getElem?_toArray, List.getElem?_append_right (by omega), hl]; simp [flatI, IV.cells, iv0]
  · rw [List.getElem?_toArray, List.getElem?_append_right (by omega), hl]; simp [flatI, IV.cells, iv0]
theorem nums_unit (q : Nat) (s : Bool) (B : Option Addr) (m d : Nat) : nums (List.replicate q iv0 ++ [⟨s, B, m, d, 1⟩]) = unit q := by
  unfold nums unit
  rw [List.map_append, List.map_replicate]
  rfl
theorem ValsIn.unit {w : World} {g q m d : Nat} {s : Bool} {B : Option Addr} (h : Box 26 w g (flatI (List.replicate q iv0 ++ [⟨s, B, m, d, 1⟩])).toArray) (hz : ZRes w (.agg #[.bool s, .slice B m d]) 1 2) : ValsIn w (some ⟨g, 0, none⟩) (q + 1) (List.replicate q iv0 ++ [⟨s, B, m, d, 1⟩]) 2 :=
  ⟨by simp, fun _ => ⟨g, 0, rfl, fun j u hu => by rw [Nat.zero_add]; exact h.cell j u (by rw [List.getElem?_toArray]; exact hu)⟩, fun p hp => by
    rcases List.mem_append.1 hp with hp | hp
    · obtain ⟨-, rfl⟩ := List.mem_replicate.1 hp
      exact (ZRes.zero w 2).in_
    · simp at hp; subst hp; exact hz.in_⟩
end Go.Proofs.YtakcgkohnomgjaaGreatDoor
