/- lex.Token in memory: four cells; append of one. -/
import Derived.Test.YtifikcaiknnjfaaLexRow
import Derived.Test.YtifikcaiknnjfaaLexA
namespace Go.Proofs.Ytifikcaiknnjfaa
open Go.RowKit
open Lx

/-- A token as its cells hold it. -/
structure TK where
  kind : Nat
  text : ByteArray
  line : Nat
  col : Nat
def TK.cells (t : TK) : List Value := [.int .i64 t.kind, .string t.text, .int .i64 t.line, .int .i64 t.col]
def flatK (ts : List TK) : List Value := (ts.map TK.cells).flatten
theorem flatK_append (ps qs : List TK) : flatK (ps ++ qs) = flatK ps ++ flatK qs := by unfold flatK; rw [List.map_append, List.flatten_append]
theorem flatK_mem {ps : List TK} {u : Value} (hu : u ∈ flatK ps) : (∃ z : Int, u = .int .i64 z) ∨ ∃ s, u = .string s := by
  unfold flatK at hu
  obtain ⟨l, hl, hu⟩ := List.mem_flatten.1 hu
  obtain ⟨p, -, rfl⟩ := List.mem_map.1 hl
  simp [TK.cells] at hu
  rcases hu with rfl | rfl | rfl | rfl
  · exact Or.inl ⟨_, rfl⟩
  · exact Or.inr ⟨_, rfl⟩
  · exact Or.inl ⟨_, rfl⟩
  · exact Or.inl ⟨_, rfl⟩
theorem flatK_one (ps : List TK) : ∀ u ∈ flatK ps, u.oneCell' = true := by
  intro u hu
  rcases flatK_mem hu with ⟨z, rfl⟩ | ⟨s, rfl⟩ <;> rfl
theorem flatK_nls (ps : List TK) : NLs (flatK ps) := by
  intro u hu
  rcases flatK_mem hu with ⟨z, rfl⟩ | ⟨s, rfl⟩
  · exact NL.i64 _
  · intro z h; cases h
theorem tok_info : (Try.prog.info? 33).map (fun i => (i.zero, i.size, i.bytes)) = some (some (.agg #[.int .i64 0, .string ⟨#[]⟩, .int .i64 0, .int .i64 0]), 4, 40) := by kernel_rfl
theorem rtok_info : (Try.prog.info? 38).map (fun i => (i.zero, i.size, i.bytes)) = some (some (.agg #[.int .i64 0, .string ⟨#[]⟩, .int .i64 0, .int .i64 0]), 4, 40) := by kernel_rfl
theorem addr_add (b o j : Nat) : (⟨b, o, none⟩ : Addr).add j = ⟨b, o + j, none⟩ := by
  by_cases hj0 : j = 0
  · subst hj0; rfl
  · simp [Addr.add, hj0]
theorem tok_zero_nls : NLs (Value.agg #[.int .i64 0, .string ⟨#[]⟩, .int .i64 0, .int .i64 0]).cells.toList := by
  show NLs [.int .i64 0, .string ⟨#[]⟩, .int .i64 0, .int .i64 0]
  intro u hu
  simp only [List.mem_cons, List.not_mem_nil, or_false] at hu
  rcases hu with rfl | rfl | rfl | rfl
  · exact NL.i64 _
  · intro z h; cases h
  · exact NL.i64 _
  · exact NL.i64 _
theorem wpList_append_tok {w : World} {ops : Array Oper} {rest : List Oper} {o : Oper} {a : Act} {Q : Exit → Act → World → Prop} (hgd : o.guard = none) (s x : Operand)
    (ho : o.op = .call { callee := .builtin .append, args := #[s, x], argTypes := #[23, 23] }) (base : Nat) (v : Value) (ps : List TK) (hs : a.eval s = v) (hown : LRow 33 4 w base v ps.length (flatK ps))
    (b : Nat) (p : TK) (hx : a.eval x = .slice (some ⟨b, 0, none⟩) 1 1) (hb : w.heap[b]? = some (.cells p.cells.toArray 33 (0, 0))) (hn : ps.length + 1 ≤ 1099511627776) (hbase : base ≤ w.heap.size)
    (h : ∀ v' w', LRow 33 4 w' base v' (ps ++ [p]).length (flatK (ps ++ [p])) → w.grownBy w' v.ownBlock → wpList Try.prog ops Q rest (a.put o.dst v') w') : wpList Try.prog ops Q (o :: rest) a w := by
  obtain ⟨i0, hi0, hz0, hz1, hz2⟩ := info_parts tok_info
  refine wpList_append_lrow hgd s x 23 ho base 33 i0 _ 4 40 Try.underlying23 hi0 hz0 hz1 hz2 rfl (by decide) tok_zero_nls v ps.length (flatK ps) hs hown ⟨b, 0, none⟩ 1 1 (flatK [p]) hx rfl
    (fun j u hu => by rw [addr_add, Nat.zero_add, cell_of_row w b j _ _ _ hb]; simpa [flatK] using hu) (flatK_one _) (flatK_nls _) (by unfold maxLen; omega) (by omega) hbase ?_
  intro v' w' h1 h2
  refine h v' w' ?_ h2
  rw [flatK_append, List.length_append]
  exact h1
theorem wpList_append_rtok {w : World} {ops : Array Oper} {rest : List Oper} {o : Oper} {a : Act} {Q : Exit → Act → World → Prop} (hgd : o.guard = none) (s x : Operand)
    (ho : o.op = .call { callee := .builtin .append, args := #[s, x], argTypes := #[37, 37] }) (base : Nat) (v : Value) (ps : List TK) (hs : a.eval s = v) (hown : LRow 38 4 w base v ps.length (flatK ps))
    (b : Nat) (p : TK) (hx : a.eval x = .slice (some ⟨b, 0, none⟩) 1 1) (hb : w.heap[b]? = some (.cells p.cells.toArray 38 (0, 0))) (hn : ps.length + 1 ≤ 1099511627776) (hbase : base ≤ w.heap.size)
    (h : ∀ v' w', LRow 38 4 w' base v' (ps ++ [p]).length (flatK (ps ++ [p])) → w.grownBy w' v.ownBlock → wpList Try.prog ops Q rest (a.put o.dst v') w') : wpList Try.prog ops Q (o :: rest) a w := by
  obtain ⟨i0, hi0, hz0, hz1, hz2⟩ := info_parts rtok_info
  refine wpList_append_lrow hgd s x 37 ho base 38 i0 _ 4 40 Try.underlying37 hi0 hz0 hz1 hz2 rfl (by decide) tok_zero_nls v ps.length (flatK ps) hs hown ⟨b, 0, none⟩ 1 1 (flatK [p]) hx rfl
    (fun j u hu => by rw [addr_add, Nat.zero_add, cell_of_row w b j _ _ _ hb]; simpa [flatK] using hu) (flatK_one _) (flatK_nls _) (by unfold maxLen; omega) (by omega) hbase ?_
  intro v' w' h1 h2
  refine h v' w' ?_ h2
  rw [flatK_append, List.length_append]
  exact h1
end Go.Proofs.Ytifikcaiknnjfaa
