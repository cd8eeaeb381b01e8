/- plumblinelaw01.NatSumsBack: the walk. -/
import Derived.Test.YtdcpcbdlmempnaaAlive1
import Derived.Laws.AppendOwnNone
namespace Go.Proofs.Ytdcpcbdlmempnaa
open Go.RowKit

theorem run_append_nothing {P : Program} {w : World} (base : Nat) (t ty e : TypeId) (i : TypeInfo) (size : Nat) (ht : P.underlying t = some (.slice e)) (hi : P.info? e = some i)
    (v : Value) (n c : Nat) (xs : List Value) (hown : w.ownsRow base e size v n xs) :
    (Builtin.append_ #[t, t] ty #[v, .slice none 0 c]).run P w = .ok v w := by
  rcases hown.2 with ⟨rfl, rfl⟩ | ⟨g, cap, cur, rfl, _, _, hnc, _⟩
  · simp [Builtin.append_, run_underlying ht, sizeOf, typeInfo, hi, Builtin.lenOf, Builtin.firstCells]
  · simp [Builtin.append_, run_underlying ht, sizeOf, typeInfo, hi, Builtin.lenOf, Builtin.firstCells, hnc, storeCells]

theorem wpList_append_nothing {P : Program} {w : World} {ops : Array Oper} {rest : List Oper} {o : Oper} {a : Act} {Q : Exit → Act → World → Prop} (hgd : o.guard = none) (s x : Operand) (t : TypeId)
    (ho : o.op = .call { callee := .builtin .append, args := #[s, x], argTypes := #[t, t] })
    (base : Nat) (e : TypeId) (i : TypeInfo) (size : Nat) (ht : P.underlying t = some (.slice e)) (hi : P.info? e = some i)
    (v : Value) (n c : Nat) (xs : List Value) (hs : a.eval s = v) (hown : w.ownsRow base e size v n xs) (hx : a.eval x = .slice none 0 c)
    (h : wpList P ops Q rest (a.put o.dst v) w) : wpList P ops Q (o :: rest) a w := by
  refine wpList_plain hgd fun K hK => ?_
  have hrun := run_append_nothing (P := P) (w := w) base t o.type e i size ht hi v n c xs hown
  unfold Oper.wp
  simp [execOp, ho, resolve, invoke, builtin, hs, hx, hrun, Result.andThen]
  exact hK _ _ h

theorem wpList_append_all (w : World) {ops : Array Oper} {rest : List Oper} {o : Oper} {a : Act} {Q : Exit → Act → World → Prop} (hgd : o.guard = none) (s x : Operand)
    (ho : o.op = .call { callee := .builtin .append, args := #[s, x], argTypes := #[23, 23] })
    (base : Nat) (v : Value) (xs : List Nat) (hs : a.eval s = v) (hown : Lst w base v xs) (A : Option Addr) (m c : Nat) (ys : List Nat) (hx : a.eval x = .slice A m c) (hy : Nums w A m ys)
    (hlen : xs.length + m ≤ 4398046511104) (hbase : base ≤ w.heap.size)
    (h : ∀ v' w', Lst w' base v' (xs ++ ys) → Below base w w' → w.heap.size ≤ w'.heap.size → wpList Try.prog ops Q rest (a.put o.dst v') w') : wpList Try.prog ops Q (o :: rest) a w := by
  obtain ⟨i0, hi0, hz0, hz1, hz2⟩ := info_parts u32_info
  have hyl := hy.len
  cases A with
  | none =>
    have h0 : m = 0 := by
      rcases Nat.eq_zero_or_pos m with h0 | h0
      · exact h0
      · obtain ⟨b, q, hh, _⟩ := hy.2.2 h0
        cases hh
    subst h0
    have hnil : ys = [] := List.eq_nil_of_length_eq_zero hyl
    subst hnil
    refine wpList_append_nothing hgd s x _ ho base 48 i0 1 Try.underlying23 hi0 v xs.length c (u32s xs) hs hown.1 hx ?_
    refine h v w ?_ (Below.refl _ _) (Nat.le_refl _)
    rw [List.append_nil]; exact hown
  | some ad =>
    refine wpList_append_own _ hgd s x 23 ho base 48 i0 _ 1 4 Try.underlying23 hi0 hz0 hz1 hz2 rfl (by omega) v xs.length (u32s xs) hs hown.1 ad m c (u32s ys) hx (by rw [u32s_length, hyl]; omega) ?_ (u32s_one ys) (by unfold maxLen; omega) (by omega) hbase ?_
    · intro j u hj
      have hjm : j < m := by
        rcases Nat.lt_or_ge j m with h1 | h1
        · exact h1
        · rw [List.getElem?_eq_none (by rw [u32s_length]; omega)] at hj; cases hj
      obtain ⟨b, q, hh, hcell⟩ := hy.2.2 (by omega)
      injection hh with hh
      subst hh
      rw [u32s_get ys j (by omega)] at hj
      injection hj with hj
      rw [← hj, ← hcell j hjm]
      by_cases hj0 : j = 0
      · subst hj0; rfl
      · simp [Addr.add, hj0]
    · intro v' w' h1 h2 _
      refine h v' w' ⟨?_, hown.2.append hy.ok⟩ ?_ h2.size
      · rw [u32s_append, List.length_append, hyl]
        exact h1
      · exact (Below.refl _ _).grown h2 hbase (fun k hk => (hown.1.lt k hk).1)

/-- From place o on block g has n limbs. -/
def Cells (w : World) (g o n : Nat) : Prop := ∃ cs : Array Value, w.heap[g]? = some (.cells cs 48 (0, 0)) ∧ ∀ i, i < n → ∃ x : Nat, x < 4294967296 ∧ cs[o + i]? = some (.int .u32 (x : Int))
theorem Cells.at_ {w : World} {g o n i : Nat} (h : Cells w g o n) (hi : i < n) :
    ∃ x : Nat, x < 4294967296 ∧ w.cell? ⟨g, o + i, none⟩ = some (.int .u32 (x : Int)) ∧ w.frozen? ⟨g, o + i, none⟩ = false ∧
      ∀ z : Int, 0 ≤ z → z < 4294967296 → Cells (w.setCell ⟨g, o + i, none⟩ (.int .u32 z)) g o n := by
  obtain ⟨cs, hh, hc⟩ := h
  obtain ⟨x, hx, hcx⟩ := hc i hi
  refine ⟨x, hx, by rw [cell_of_row w g (o + i) _ _ _ hh, hcx], by simp [World.frozen?, hh], fun z h1 h2 => ?_⟩
  refine ⟨cs.setIfInBounds (o + i) (.int .u32 z), by simp [World.setCell, Array.getElem?_modify, hh], fun j hj => ?_⟩
  by_cases hji : j = i
  · subst hji
    have hlt : o + j < cs.size := by
      rcases Nat.lt_or_ge (o + j) cs.size with h3 | h3
      · exact h3
      · rw [Array.getElem?_eq_none h3] at hcx; cases hcx
    refine ⟨z.toNat, by omega, ?_⟩
    rw [Array.getElem?_setIfInBounds_self_of_lt hlt]
    congr 2
    omega
  · rw [Array.getElem?_setIfInBounds_ne (by omega)]
    exact hc j hj
/-- Of the slice (A, n) in block g the limbs may have turned since w; nothing else has. -/
def Bump (A : Option Addr) (n g : Nat) (w wr : World) : Prop := Only g w wr ∧ (0 < n → ∃ o, A = some ⟨g, o, none⟩ ∧ Cells wr g o n)
theorem Bump.at_ {A : Option Addr} {n g i : Nat} {w wr : World} (h : Bump A n g w wr) (hi : i < n) :
    ∃ o x : Nat, A = some ⟨g, o, none⟩ ∧ x < 4294967296 ∧ wr.cell? ⟨g, o + i, none⟩ = some (.int .u32 (x : Int)) ∧ wr.frozen? ⟨g, o + i, none⟩ = false ∧
      ∀ z : Int, 0 ≤ z → z < 4294967296 → Bump A n g w (wr.setCell ⟨g, o + i, none⟩ (.int .u32 z)) := by
  obtain ⟨ho, hc⟩ := h
  obtain ⟨o, hA, hcs⟩ := hc (by omega)
  obtain ⟨x, hx, h1, h2, h3⟩ := hcs.at_ hi
  exact ⟨o, x, hA, hx, h1, h2, fun z hz1 hz2 => ⟨ho.setCell _ _, fun _ => ⟨o, hA, h3 z hz1 hz2⟩⟩⟩
theorem Row.cells {w : World} {g n : Nat} {zs : List Nat} (h : Row w g zs) (ho : Limb.Ok zs) (hn : n ≤ zs.length) : Cells w g 0 n :=
  ⟨_, h, fun i hi => ⟨zs.getD i 0, ho.getD i, by rw [Nat.zero_add, List.getElem?_toArray, u32s_get zs i (by omega)]⟩⟩
theorem Own.bump {w : World} {base n c N : Nat} {A : Option Addr} (h : Own w base A n c N) : ∃ g, base ≤ g ∧ Bump A n g w w := by
  by_cases h0 : N = 0
  · subst h0
    refine ⟨base, Nat.le_refl _, Only.refl _ _, fun hn => ?_⟩
    have := h.1
    rw [Limb.canon_zero] at this
    simp at this
    omega
  · obtain ⟨g, zs, e, hg, hr, ho, hc, _⟩ := h.2.2.2 h0
    exact ⟨g, hg, Only.refl _ _, fun _ => ⟨0, e, hr.cells ho (by have := h.2.1; omega)⟩⟩
theorem Lst.bump {w : World} {base n : Nat} {v : Value} {xs : List Nat} (h : Lst w base v xs) (hlt : base < w.heap.size) (hn : xs.length = n) :
    ∃ A c g, v = .slice A n c ∧ Nums w A n xs ∧ n ≤ c ∧ c ≤ 9223372036854775807 ∧ base ≤ g ∧ g < w.heap.size ∧ Bump A n g w w := by
  subst hn
  obtain ⟨A, c, rfl, h1, h2, h3⟩ := h.form
  rcases h.1.2 with ⟨hv, h0⟩ | ⟨g, cap, cur, hv, hb, hh, g1, g2, g3, g4⟩
  · exact ⟨A, c, base, rfl, h1, h2, h3, Nat.le_refl _, hlt, Only.refl _ _, fun hn => absurd hn (by omega)⟩
  · have hgl : g < w.heap.size := by
      rcases Nat.lt_or_ge g w.heap.size with h5 | h5
      · exact h5
      · rw [Array.getElem?_eq_none h5] at hh; cases hh
    refine ⟨A, c, g, rfl, h1, h2, h3, hb, hgl, Only.refl _ _, fun _ => ⟨0, by injection hv, _, hh, fun i hi => ⟨xs.getD i 0, h.2.getD i, ?_⟩⟩⟩
    rw [Nat.zero_add, ← u32s_get xs i hi, ← g4, List.getElem?_take_of_lt (by omega)]
    simp
theorem Bump.drewN {A : Option Addr} {n g : Nat} {w : World} (h : Bump A n g w w) (w1 : World) (hb : Below w.heap.size w w1) (hg : g < w.heap.size) : Bump A n g w1 w1 :=
  ⟨Only.refl _ _, fun hn => by
    obtain ⟨o, e, cs, hh, hc⟩ := h.2 hn
    exact ⟨o, e, cs, (hb.block g hg).trans hh, hc⟩⟩
theorem Own.grown0 {w w' : World} {base n c N g : Nat} {A : Option Addr} (h : Own w base A n c N) (hg : w.grownBy w' (some g)) (ha : 0 < n → Apart A g) : Own w' base A n c N := by
  rcases Nat.eq_zero_or_pos n with h0 | h0
  · subst h0
    refine ⟨h.1, h.2.1, h.2.2.1, fun hN => ?_⟩
    exact absurd ((Limb.canon_len_zero N).1 h.1.symm) hN
  · exact h.grown hg (ha h0)
theorem cmpN_flip (a b : Nat) : cmpN b a = - cmpN a b := by
  unfold cmpN sgn3
  split <;> split <;> omega
theorem cmpN_small (a b : Nat) : -1 ≤ cmpN a b ∧ cmpN a b ≤ 1 := by
  unfold cmpN sgn3
  split
  · omega
  · split <;> omega
end Go.Proofs.Ytdcpcbdlmempnaa
