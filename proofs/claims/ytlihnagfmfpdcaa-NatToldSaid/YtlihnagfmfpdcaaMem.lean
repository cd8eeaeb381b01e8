/- make and copy on slices of limbs, as laws for the walk. -/
import Derived.Test.YtlihnagfmfpdcaaInc
namespace Go.Proofs.Ytlihnagfmfpdcaa
open Go.RowKit

theorem wpList_make_u32 (w : World) {ops : Array Oper} {rest : List Oper} {o : Oper} {a : Act} {Q : Exit → Act → World → Prop} (hg : o.guard = none) (l c : Operand) (hop : o.op = Op.makeSlice 23 l c)
    (L : Int) (n : Nat) (hl : a.eval l = .int .i64 L) (hc : a.eval c = .int .i64 L) (hL : L = (n : Int)) (hn : n ≤ 35184372088832)
    (hK : ∀ w', Row w' w.heap.size (List.replicate n 0) → Below w.heap.size w w' → w.heap.size < w'.heap.size → wpList Try.prog ops Q rest (a.put o.dst (.slice (some ⟨w.heap.size, 0, none⟩) n n)) w') :
    wpList Try.prog ops Q (o :: rest) a w := by
  obtain ⟨i0, hi0, hz0, hz1, hz2⟩ := info_parts u32_info
  refine wpList_make_full _ hg l c _ hop w.heap.size 59 i0 _ 1 Try.underlying23 hi0 hz0 hz1 .i64 .i64 L L n hl hc hL hL (by rw [hz2]; omega) (by unfold maxLen; omega) (Nat.le_refl _) ?_
  intro w' ho hgr
  have hr := (Row.made (base := w.heap.size) ho).1
  exact hK w' hr ((Below.refl _ _).grown hgr (Nat.le_refl _) (fun k hk => by cases hk)) hr.lt

theorem only_setRow (w : World) (g : Nat) (cs : Array Value) : Only g w (w.setRow g cs) :=
  ⟨rfl, rfl, rfl, by simp [World.setRow], fun k _ hne => setRow_other w g k cs (fun hh => hne (by rw [hh]))⟩

theorem wpList_copy_u32 {w : World} {ops : Array Oper} {rest : List Oper} {o : Oper} {a : Act} {Q : Exit → Act → World → Prop} (hgd : o.guard = none) (d s : Operand)
    (ho : o.op = .call { callee := .builtin .copy, args := #[d, s], argTypes := #[23, 23] })
    (g off : Nat) (D A : Option Addr) (dLen dCap m c : Nat) (hd : a.eval d = .slice D dLen dCap) (hD : 0 < m → D = some ⟨g, off, none⟩) (hs : a.eval s = .slice A m c)
    (zs xs : List Nat) (hr : Row w g zs) (hx : Nums w A m xs) (hm : m ≤ dLen) (hfit : off + m ≤ zs.length)
    (h : ∀ w', Row w' g (put zs off xs) → Only g w w' → wpList Try.prog ops Q rest (a.put o.dst (goInt m)) w') : wpList Try.prog ops Q (o :: rest) a w := by
  have hl := hx.len
  by_cases h0 : m = 0
  · subst h0
    have hnil : xs = [] := List.eq_nil_of_length_eq_zero hl
    subst hnil
    refine wpList_copy_nothing hgd d s _ _ ho 59 Try.underlying23 u32_size D A dLen dCap 0 c hd hs (by simp) ?_
    exact h w (by simpa [put] using hr) (Only.refl g w)
  · obtain ⟨b, q, rfl, hcell⟩ := hx.2.2 (by omega)
    have hmin : Nat.min m dLen = m := Nat.min_eq_left hm
    have hul : (u32s xs).length = m := by rw [u32s_length, hl]
    obtain rfl := hD (by omega)
    refine wpList_copy_own hgd d s _ _ ho 59 Try.underlying23 u32_size g off dLen dCap ⟨b, q, none⟩ m c hd hs (u32s zs).toArray 59 hr (u32s xs) (by rw [hul, hmin]) ?_ (by rw [hul]; simp [u32s_length]; omega) (u32s_one xs) ?_
    · intro j v hj
      have hjm : j < m := by
        rcases Nat.lt_or_ge j m with h1 | h1
        · exact h1
        · rw [List.getElem?_eq_none (by omega)] at hj; cases hj
      rw [u32s_get xs j (by omega)] at hj
      injection hj with hj
      rw [← hj, ← hcell j hjm]
      by_cases hj0 : j = 0
      · subst hj0; rfl
      · simp [Addr.add, hj0]
    · rw [hul]
      refine h _ ?_ (only_setRow w g _)
      unfold Row at hr ⊢
      have e : (List.take off (u32s zs) ++ (u32s xs ++ List.drop (off + m) (u32s zs))) = u32s (put zs off xs) := by
        unfold put
        rw [u32s_append, u32s_append, u32s_take, u32s_drop, hl]
      have hh := setRow_heap w g _ (List.take off (u32s zs) ++ (u32s xs ++ List.drop (off + m) (u32s zs))).toArray _ _ hr
      rw [e] at hh
      exact (by simpa [e] using hh)
end Go.Proofs.Ytlihnagfmfpdcaa
