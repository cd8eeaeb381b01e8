/- lex.Spell, plumblineref10.Spell. -/
import Derived.Test.YtifikcaiknnjfaaLexSame
import Derived.Test.YtifikcaiknnjfaaLexBytes
import Derived.Test.YtifikcaiknnjfaaLexJoin
namespace Go.Proofs.Ytifikcaiknnjfaa
open Go.RowKit
open Lx

/-- All that texts take. -/
def sizesB (xs : List ByteArray) : Nat := (xs.map (·.size)).sum
theorem sizesB_take (xs : List ByteArray) (q : Nat) : sizesB (xs.take q) ≤ sizesB xs := by
  induction xs generalizing q with
  | nil => simp
  | cons x xs ih =>
    cases q with
    | zero => exact Nat.zero_le _
    | succ q =>
      have := ih q
      simp only [sizesB, List.take_succ_cons, List.map_cons, List.sum_cons] at this ⊢
      omega
theorem tails_size (xs : List ByteArray) : ((xs.map bts).map (32 :: ·)).flatten.length = sizesB xs + xs.length := by
  induction xs with
  | nil => rfl
  | cons x xs ih =>
    simp only [List.map_cons, List.flatten_cons, List.length_append, List.length_cons, ih, bts_len, sizesB, List.sum_cons]
    omega
theorem spellB_size (xs : List ByteArray) : (spellB xs).size ≤ sizesB xs + xs.length := by
  rw [← bts_len, spellB_bts]
  cases xs with
  | nil => exact Nat.zero_le _
  | cons x r =>
    rw [List.map_cons, spellL, List.length_append, tails_size, bts_len]
    simp only [sizesB, List.map_cons, List.sum_cons, List.length_cons]
    omega
theorem spellB_succ (xs : List ByteArray) (q : Nat) (s : ByteArray) (h : xs[q]? = some s) : spellB (xs.take (q + 1)) = if q = 0 then s else (spellB (xs.take q) ++ ⟨#[32]⟩) ++ s := by
  apply bts_inj
  rw [spellB_bts]
  cases xs with
  | nil => simp at h
  | cons x r =>
    cases q with
    | zero =>
      simp at h; subst h
      rw [if_pos rfl]
      simp [spellL]
    | succ q =>
      have h2 : r[q]? = some s := by simpa using h
      rw [if_neg (by omega), bts_append, bts_append, spellB_bts, List.take_succ_cons, List.take_succ_cons, List.map_cons, List.map_cons, spellL, spellL, List.take_add_one, h2]
      simp [bts]
theorem str_info : (Try.prog.info? 9).map (fun i => (i.zero, i.size, i.bytes)) = some (some (.string ⟨#[]⟩), 1, 16) := by kernel_rfl
theorem str_zero_nls : NLs (Value.string ⟨#[]⟩).cells.toList := by
  show NLs [.string ⟨#[]⟩]
  intro u hu z e
  simp at hu; subst hu; cases e
def strV (xs : List ByteArray) : List Value := xs.map (.string ·)
theorem strV_nls (xs : List ByteArray) : NLs (strV xs) := by
  intro u hu z e
  obtain ⟨s, _, rfl⟩ := List.mem_map.1 hu
  cases e
theorem strV_one (xs : List ByteArray) : ∀ u ∈ strV xs, u.oneCell' = true := by
  intro u hu
  obtain ⟨s, _, rfl⟩ := List.mem_map.1 hu
  rfl
theorem wpList_append_str {w : World} {ops : Array Oper} {rest : List Oper} {o : Oper} {a : Act} {Q : Exit → Act → World → Prop} (hgd : o.guard = none) (s x : Operand)
    (ho : o.op = .call { callee := .builtin .append, args := #[s, x], argTypes := #[31, 31] }) (base : Nat) (v : Value) (ps : List ByteArray) (hs : a.eval s = v) (hown : LRow 9 1 w base v ps.length (strV ps))
    (b : Nat) (p : ByteArray) (hx : a.eval x = .slice (some ⟨b, 0, none⟩) 1 1) (hb : w.heap[b]? = some (.cells #[.string p] 9 (0, 0))) (hn : ps.length + 1 ≤ 1099511627776) (hbase : base ≤ w.heap.size)
    (h : ∀ v' w', LRow 9 1 w' base v' (ps ++ [p]).length (strV (ps ++ [p])) → w.grownBy w' v.ownBlock → wpList Try.prog ops Q rest (a.put o.dst v') w') : wpList Try.prog ops Q (o :: rest) a w := by
  obtain ⟨i0, hi0, hz0, hz1, hz2⟩ := info_parts str_info
  refine wpList_append_lrow hgd s x 31 ho base 9 i0 _ 1 16 Try.underlying31 hi0 hz0 hz1 hz2 rfl (by decide) str_zero_nls v ps.length (strV ps) hs hown ⟨b, 0, none⟩ 1 1 (strV [p]) hx rfl
    (fun j u hu => by rw [addr_add, Nat.zero_add, cell_of_row w b j _ _ _ hb]; simpa [strV] using hu) (strV_one _) (strV_nls _) (by unfold maxLen; omega) (by omega) hbase ?_
  intro v' w' h1 h2
  refine h v' w' ?_ h2
  rw [show strV (ps ++ [p]) = strV ps ++ strV [p] by simp [strV], List.length_append]
  exact h1
theorem join_any (xs : List ByteArray) (base : Nat) (v : Value) (w : World) (h : LRow 9 1 w base v xs.length (strV xs)) (hn : sizesB xs + xs.length ≤ 140737488355328) :
    Calls Try.prog 26 #[v, .string ⟨#[32]⟩] w (fun e w' => e = .returned (.string (spellB xs)) ∧ Below w.heap.size w w') := by
  obtain ⟨A, c, rfl, h1, h2, h3⟩ := h.len
  by_cases h0 : xs.length = 0
  · have hx : xs = [] := List.length_eq_zero_iff.1 h0
    subst hx
    refine (Try.strings_Join_none A c ⟨#[32]⟩ w).mono ?_
    rintro e w' ⟨rfl, rfl⟩
    exact ⟨rfl, Below.refl _ _⟩
  · obtain ⟨g, rfl, hb, hlt, hc⟩ := h.cell (by omega)
    have hsz := spellB_size xs
    have hl : (Lib.join (xs.map (·.data.toList)) [32]).length = (spellB xs).size := by
      unfold spellB
      show _ = (⟨(Lib.join (xs.map (·.data.toList)) [32]).toArray⟩ : ByteArray).data.size
      simp
    exact Try.strings_Join g 0 c xs ⟨#[32]⟩ w (fun j x hj => by
      rw [Nat.zero_add]
      refine (hc j _ ?_).1
      unfold strV
      rw [List.getElem?_map, hj]; rfl) hlt (by omega) h1 (by show (Lib.join (xs.map (·.data.toList)) [32]).length ≤ _; omega)
end Go.Proofs.Ytifikcaiknnjfaa
