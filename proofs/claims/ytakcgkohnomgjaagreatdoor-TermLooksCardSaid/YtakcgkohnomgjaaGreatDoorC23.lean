/- Texts of one seat, put together: GrowP. -/
import Derived.Test.YtakcgkohnomgjaaGreatDoorC22
import Derived.Shelf.Spec.SlicesGrow
set_option linter.unusedVariables false
set_option linter.unusedSimpArgs false
/- slices.Grow of the nil slice of parts. -/
namespace Go.Proofs.YtakcgkohnomgjaaGreatDoor
open Go.RowKit
open Tm

theorem LRow.rebase {T : TypeId} {sz : Nat} {w : World} {base base' : Nat} {v : Value} {n : Nat} {xs : List Value} (h : LRow T sz w base v n xs) (hb : base' ≤ base) : LRow T sz w base' v n xs := by
  refine ⟨h.1, ?_⟩
  rcases h.2 with h1 | ⟨g, cap, cur, rfl, h2, rest⟩
  · exact .inl h1
  · exact .inr ⟨g, cap, cur, rfl, Nat.le_trans hb h2, rest⟩
def GrowPost (w : World) (e : Ending) (w' : World) : Prop := ∃ A c, e = .returned (.slice A 0 c) ∧ LRow 55 3 w' w.heap.size (.slice A 0 c) 0 [] ∧ Below w.heap.size w w'
theorem zeros_nls (k : Nat) : NLs (Builtin.zeroCells (Value.agg #[.int .i64 0, .bool false, .slice none 0 0]).cells k).toList := by
  intro u hu
  have hu2 : u ∈ (Builtin.zeroCells (Value.agg #[.int .i64 0, .bool false, .slice none 0 0]).cells k) := by simpa using hu
  unfold Builtin.zeroCells at hu2
  obtain ⟨q, -, hq⟩ := Array.mem_map.1 hu2
  have hlt : q % (Value.agg #[.int .i64 0, .bool false, .slice none 0 0]).cells.size < (Value.agg #[.int .i64 0, .bool false, .slice none 0 0]).cells.size := Nat.mod_lt _ (by decide)
  rw [getElem!_pos (Value.agg #[.int .i64 0, .bool false, .slice none 0 0]).cells _ hlt] at hq
  exact part_zero_nls u (by rw [← hq]; simp)
theorem zeros_size (k : Nat) : (Builtin.zeroCells (Value.agg #[.int .i64 0, .bool false, .slice none 0 0]).cells k).size = k * 3 := by
  simp [Builtin.zeroCells, Value.cells]
set_option maxRecDepth 100000 in
set_option maxHeartbeats 2000000 in
theorem growPart_any (n : Nat) (w : World) (hn : n ≤ 1099511) : Calls Tryz.prog 88 #[.slice none 0 0, .int .i64 n] w (GrowPost w) := by
  rcases Nat.eq_zero_or_pos n with h0 | h0
  · subst h0
    go_enter Tryz.func88, Tryz.ntmps88
    go_wp2_with fail
    go_ret
    exact ⟨none, 0, rfl, LRow.nil _ _ _ _, Below.refl _ _⟩
  · obtain ⟨i0, hi0, hz0, hz1, hz2⟩ := info_parts part_info
    have hold : (Builtin.firstCells i0.size 0 (.slice none 0 0)).run Tryz.prog w.drew = .ok ([] : List Value).toArray w.drew := run_firstCells_none w.drew i0.size 0 0 0
    have hrz : ∀ ty, (Builtin.append_ #[22, 3] ty #[.slice none 0 0, .int .i64 (n : Int)]).run Tryz.prog w =
        .ok (.slice (some ⟨w.heap.size, 0, none⟩) n (grownCap w n 0 55)) (w.drew.alloc (.cells (([] : List Value).toArray ++ Builtin.zeroCells (Value.agg #[.int .i64 0, .bool false, .slice none 0 0]).cells n ++ Builtin.zeroCells (Value.agg #[.int .i64 0, .bool false, .slice none 0 0]).cells (grownCap w n 0 55 - n)) 55)) := fun ty => by
      have h := Lib.run_append_grow_zeros (P := Tryz.prog) w 22 3 ty 55 i0 _ .i64 .i64 Tryz.underlying22 Tryz.underlying3 hi0 hz0 none 0 0 [] hold n (by omega) (by omega) (by omega) (by omega)
        (by rw [hz2]; omega) (by rw [Nat.zero_add]; exact growslice_fits (by omega) (by rw [hz2]; omega))
      rw [Nat.zero_add] at h
      exact h
    have hGn : n ≤ grownCap w n 0 55 := grownCap_ge w _ _ _
    have hGm := grownCap_le_maxLen w n 0 55 (by unfold maxLen; omega)
    generalize grownCap w n 0 55 = G at *
    unfold maxLen at hGm
    have HL := hide (show LRow 55 3 (w.drew.alloc (.cells (([] : List Value).toArray ++ Builtin.zeroCells (Value.agg #[.int .i64 0, .bool false, .slice none 0 0]).cells n ++ Builtin.zeroCells (Value.agg #[.int .i64 0, .bool false, .slice none 0 0]).cells (G - n)) 55)) w.heap.size (.slice (some ⟨w.heap.size, 0, none⟩) 0 G) 0 [] from
      LRow.made (w := w.drew) _ G (Nat.le_refl _) (by unfold maxLen; exact hGm) (by rw [Array.size_append, Array.size_append, zeros_size, zeros_size]; show 0 + n * 3 + (G - n) * 3 = G * 3; omega) (by
        simp only [Array.toList_append]
        exact (NLs.append (fun u hu => by simp at hu) (zeros_nls n)).append (zeros_nls _)))
    clear hold hi0 hz0 hz1 hz2
    have HB := hide (show Below w.heap.size w (w.drew.alloc (.cells (([] : List Value).toArray ++ Builtin.zeroCells (Value.agg #[.int .i64 0, .bool false, .slice none 0 0]).cells n ++ Builtin.zeroCells (Value.agg #[.int .i64 0, .bool false, .slice none 0 0]).cells (G - n)) 55)) from (bl_drewN w 1).next (bl_alloc _ _))
    generalize (w.drew.alloc (.cells (([] : List Value).toArray ++ Builtin.zeroCells (Value.agg #[.int .i64 0, .bool false, .slice none 0 0]).cells n ++ Builtin.zeroCells (Value.agg #[.int .i64 0, .bool false, .slice none 0 0]).cells (G - n)) 55)) = W1 at *
    go_enter Tryz.func88, Tryz.ntmps88
    go_wp2_with (at_builtin; refine Lib.wpList_append_run _ rfl _ _ _ _ rfl _ _ rfl rfl _ _ (hrz _) ?_)
    go_ret
    exact ⟨_, G, rfl, HL.out, HB.out⟩
end Go.Proofs.YtakcgkohnomgjaaGreatDoor
