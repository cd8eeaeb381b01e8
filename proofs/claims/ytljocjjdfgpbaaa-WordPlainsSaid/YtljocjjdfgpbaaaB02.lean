/- Texts of one seat, put together: LexRow. -/
import Derived.Test.YtljocjjdfgpbaaaB01
set_option linter.unusedVariables false
/- Lists of the call's own (XRowL without what names numbers of package zint). -/
namespace Go.Proofs.Ytljocjjdfgpbaaa
open Go.RowKit

/-- Nothing but block g has turned. -/
def Only (g : Nat) (w w' : World) : Prop := w.grownBy w' (some g)
theorem Only.refl (g : Nat) (w : World) : Only g w w := World.grownBy.refl w _
theorem Only.gb {g : Nat} {w w' : World} (h : Only g w w') : w.grownBy w' (some g) := h
theorem Only.trans {g : Nat} {a b c : World} (h : Only g a b) (k : Only g b c) : Only g a c :=
  ⟨k.os.trans h.os, k.tape.trans h.tape, k.output.trans h.output, Nat.le_trans h.size k.size, fun i hi hne => (k.block i (Nat.lt_of_lt_of_le hi h.size) hne).trans (h.block i hi hne)⟩
theorem Only.setCell {g : Nat} {a w : World} (h : Only g a w) (i : Nat) (u : Value) : Only g a (w.setCell ⟨g, i, none⟩ u) :=
  ⟨h.os, h.tape, h.output, by simpa [World.setCell] using h.size, fun k hk hne => (Below.heap_setCell w ⟨g, i, none⟩ u k (fun hh => hne (by rw [hh]))).trans (h.block k hk hne)⟩
theorem Only.drewN {g : Nat} {a w : World} (h : Only g a w) (n : Nat) : Only g a (w.drewN n) := ⟨h.os, h.tape, h.output, h.size, h.block⟩
theorem Only.drew {g : Nat} {a w : World} (h : Only g a w) : Only g a w.drew := ⟨h.os, h.tape, h.output, h.size, h.block⟩
theorem Only.below {g B : Nat} {a w : World} (h : Only g a w) (hB : B ≤ a.heap.size) (hg : B ≤ g) : Below B a w :=
  ⟨h.os, h.tape, h.output, h.size, fun k hk => h.block k (by omega) (fun hh => by injection hh with hh; omega)⟩

/-- Numbers are what they were. -/
def Kp (w w' : World) : Prop := ∀ A n xs, Nums w A n xs → Nums w' A n xs
theorem Kp.refl (w : World) : Kp w w := fun _ _ _ h => h
theorem Kp.trans {a b c : World} (h : Kp a b) (k : Kp b c) : Kp a c := fun _ _ _ hx => k _ _ _ (h _ _ _ hx)
theorem Kp.of_below {w w' : World} (h : Below w.heap.size w w') : Kp w w' := fun _ _ _ hx => hx.below h
theorem Kp.alloc (w : World) (o : Obj) : Kp w (w.alloc o) := .of_below (bl_alloc w o)
theorem Kp.drew (w : World) : Kp w w.drew := fun _ _ _ h => h
theorem Kp.drewN (w : World) (k : Nat) : Kp w (w.drewN k) := fun _ _ _ h => h
/-- No limb. -/
def NL (u : Value) : Prop := ∀ z, u ≠ .int .u32 z
def NLs (xs : List Value) : Prop := ∀ u ∈ xs, NL u
theorem NLs.append {xs ys : List Value} (h : NLs xs) (k : NLs ys) : NLs (xs ++ ys) := fun u hu => (List.mem_append.1 hu).elim (h u) (k u)
theorem NLs.take {xs : List Value} (h : NLs xs) (n : Nat) : NLs (xs.take n) := fun u hu => h u (List.mem_of_mem_take hu)
theorem NLs.drop {xs : List Value} (h : NLs xs) (n : Nat) : NLs (xs.drop n) := fun u hu => h u (List.mem_of_mem_drop hu)
theorem NL.bool (b : Bool) : NL (.bool b) := fun _ h => by cases h
theorem NL.slice (A : Option Addr) (n c : Nat) : NL (.slice A n c) := fun _ h => by cases h
theorem NL.i64 (z : Int) : NL (.int .i64 z) := fun _ h => by cases h
/-- A block without limbs turns: numbers are what they were. -/
theorem Kp.block {w w' : World} {g : Nat} {cur : Array Value} {T : TypeId} (hb : w.heap[g]? = some (.cells cur T (0, 0))) (hn : NLs cur.toList) (hg : w.grownBy w' (some g)) : Kp w w' := by
  intro A n xs hx
  refine hx.grown' hg (fun h0 ad had he => ?_)
  obtain ⟨b, o, e, hc⟩ := hx.2.2 h0
  have h1 := hc 0 h0
  rw [had] at e
  injection e with e
  subst e
  have he' : b = g := he
  subst he'
  rw [cell_of_row w b _ _ _ _ hb] at h1
  have h2 : (Value.int .u32 ((xs.getD 0 0 : Nat) : Int)) ∈ cur.toList := by
    have := Array.mem_of_getElem? h1
    simpa using this
  exact hn _ h2 _ rfl
theorem Kp.none {w w' : World} (hg : w.grownBy w' none) : Kp w w' := fun _ _ _ hx => hx.grownNone hg

/-- v is a list of n elements of type T, sz cells each, of the call's own: nil, or a block from base on; xs are its cells; no limb lies in it. -/
def LRow (T : TypeId) (sz : Nat) (w : World) (base : Nat) (v : Value) (n : Nat) (xs : List Value) : Prop :=
  xs.length = n * sz ∧ ((v = .slice none 0 0 ∧ n = 0) ∨
    ∃ g cap cur, v = .slice (some ⟨g, 0, none⟩) n cap ∧ base ≤ g ∧ w.heap[g]? = some (.cells cur T (0, 0)) ∧ n ≤ cap ∧ cap ≤ maxLen ∧ cur.size = cap * sz ∧ cur.toList.take (n * sz) = xs ∧ NLs cur.toList)
section
variable {T : TypeId} {sz : Nat} {w w' : World} {base : Nat} {v : Value} {n : Nat} {xs : List Value}
theorem LRow.nil (T : TypeId) (sz : Nat) (w : World) (base : Nat) : LRow T sz w base (.slice none 0 0) 0 [] := ⟨by simp, .inl ⟨rfl, rfl⟩⟩
theorem LRow.made (cur : Array Value) (cap : Nat) (hb : base ≤ w.heap.size) (hm : cap ≤ maxLen) (hs : cur.size = cap * sz) (hn : NLs cur.toList) :
    LRow T sz (w.alloc (.cells cur T)) base (.slice (some ⟨w.heap.size, 0, none⟩) 0 cap) 0 [] :=
  ⟨by simp, .inr ⟨w.heap.size, cap, cur, rfl, hb, heap_alloc_new w _, Nat.zero_le _, hm, hs, by simp, hn⟩⟩
theorem LRow.lit (cur : Array Value) (n : Nat) (hb : base ≤ w.heap.size) (hm : n ≤ maxLen) (hs : cur.size = n * sz) (hn : NLs cur.toList) :
    LRow T sz (w.alloc (.cells cur T)) base (.slice (some ⟨w.heap.size, 0, none⟩) n n) n cur.toList :=
  ⟨by simpa using hs, .inr ⟨w.heap.size, n, cur, rfl, hb, heap_alloc_new w _, Nat.le_refl _, hm, hs, List.take_of_length_le (by simpa using Nat.le_of_eq hs), hn⟩⟩
theorem LRow.lt (h : LRow T sz w base v n xs) : ∀ k, v.ownBlock = some k → base ≤ k ∧ k < w.heap.size := by
  intro k hk
  rcases h.2 with ⟨rfl, _⟩ | ⟨g, cap, cur, rfl, hb, hg, _⟩
  · simp [Value.ownBlock] at hk
  · simp [Value.ownBlock] at hk
    subst hk
    exact ⟨hb, (Array.getElem?_eq_some_iff.1 hg).1⟩
theorem LRow.kept {row : Option Nat} (h : LRow T sz w base v n xs) (hg : w.grownBy w' row) (hne : v.ownBlock = none ∨ v.ownBlock ≠ row) : LRow T sz w' base v n xs := by
  refine ⟨h.1, ?_⟩
  rcases h.2 with hn | ⟨g, cap, cur, rfl, hb, hgg, rest⟩
  · exact .inl hn
  · refine .inr ⟨g, cap, cur, rfl, hb, ?_, rest⟩
    rw [hg.block g (Array.getElem?_eq_some_iff.1 hgg).1 (by simpa [Value.ownBlock] using hne)]
    exact hgg
theorem LRow.below (h : LRow T sz w base v n xs) (hb : Below w.heap.size w w') : LRow T sz w' base v n xs :=
  h.kept (row := none) ⟨hb.os, hb.tape, hb.output, hb.size, fun k hk _ => hb.block k hk⟩ (by
    by_cases h0 : v.ownBlock = none
    · exact .inl h0
    · exact .inr h0)
theorem LRow.other {g : Nat} (h : LRow T sz w base v n xs) (ho : Only g w w') (hg : g < base ∨ w.heap.size ≤ g) : LRow T sz w' base v n xs :=
  h.kept ho (by
    cases hv : v.ownBlock with
    | none => exact .inl rfl
    | some k =>
      have := h.lt k hv
      exact .inr (fun e => by injection e with e; omega))
theorem LRow.len (h : LRow T sz w base v n xs) : ∃ A c, v = .slice A n c ∧ n ≤ c ∧ c ≤ 9223372036854775807 ∧ (0 < n → ∃ g, A = some ⟨g, 0, none⟩) := by
  rcases h.2 with ⟨rfl, rfl⟩ | ⟨g, cap, cur, rfl, _, _, h1, h2, _⟩
  · exact ⟨none, 0, rfl, by omega, by omega, fun h => absurd h (by omega)⟩
  · unfold maxLen at h2
    exact ⟨_, cap, rfl, h1, h2, fun _ => ⟨g, rfl⟩⟩
theorem LRow.cell {A : Option Addr} {c : Nat} (h : LRow T sz w base (.slice A n c) n xs) (hn : 0 < n) : ∃ g, A = some ⟨g, 0, none⟩ ∧ base ≤ g ∧ g < w.heap.size ∧ ∀ j u, xs[j]? = some u → w.cell? ⟨g, j, none⟩ = some u ∧ w.frozen? ⟨g, j, none⟩ = false := by
  rcases h.2 with ⟨hv, h0⟩ | ⟨g, cap, cur, hv, hb, hh, _, _, _, ht, _⟩
  · omega
  · injection hv with hv
    refine ⟨g, hv, hb, (Array.getElem?_eq_some_iff.1 hh).1, fun j u hu => ⟨?_, by simp [World.frozen?, hh]⟩⟩
    rw [cell_of_row w g j _ _ _ hh]
    rw [← ht, List.getElem?_take] at hu
    split at hu
    · simpa using hu
    · cases hu
theorem LRow.isNLs (h : LRow T sz w base v n xs) : NLs xs := by
  rcases h.2 with ⟨_, rfl⟩ | ⟨g, cap, cur, _, _, _, _, _, _, ht, hn⟩
  · have : xs = [] := List.eq_nil_of_length_eq_zero (by simpa using h.1)
    subst this
    intro u hu; cases hu
  · rw [← ht]; exact hn.take _
/-- The list's own block turns: numbers are what they were. -/
theorem LRow.kp (h : LRow T sz w base v n xs) (hg : w.grownBy w' v.ownBlock) : Kp w w' := by
  rcases h.2 with ⟨rfl, _⟩ | ⟨g, cap, cur, rfl, _, hh, _, _, _, _, hn⟩
  · exact Kp.none hg
  · exact Kp.block hh hn hg
theorem LRow.back {B : Nat} (h : LRow T sz w base v n xs) (hg : w.grownBy w' v.ownBlock) (hB : B ≤ base) (hw : B ≤ w.heap.size) : Below B w w' :=
  (Below.refl _ _).grown hg hw (fun k hk => by have := (h.lt k hk).1; omega)
theorem LRow.old {w0 : World} {B : Nat} (h : LRow T sz w base v n xs) (h0 : Below B w0 w) (hg : w.grownBy w' v.ownBlock) (hB : B ≤ base) (hw : B ≤ w0.heap.size) : Below B w0 w' :=
  h0.trans (h.back hg hB (Nat.le_trans hw h0.size))
/-- One cell of the list is written. -/
theorem LRow.set {g c j : Nat} {u : Value} (h : LRow T sz w base (.slice (some ⟨g, 0, none⟩) n c) n xs) (hu : NL u) : LRow T sz (w.setCell ⟨g, j, none⟩ u) base (.slice (some ⟨g, 0, none⟩) n c) n (xs.set j u) := by
  refine ⟨by simpa using h.1, ?_⟩
  rcases h.2 with ⟨hv, _⟩ | ⟨g', cap, cur, hv, hb, hh, h1, h2, h3, h4, h5⟩
  · cases hv
  · injection hv with e1 e2 e3
    injection e1 with e1
    injection e1 with e1
    subst e1 e3
    refine .inr ⟨g, c, cur.setIfInBounds j u, rfl, hb, ?_, h1, h2, by simpa using h3, ?_, ?_⟩
    · simp [World.setCell, Array.getElem?_modify, hh]
    · rw [Array.toList_setIfInBounds, List.take_set, h4]
    · intro x hx
      rw [Array.toList_setIfInBounds] at hx
      rcases List.mem_or_eq_of_mem_set hx with hx | rfl
      · exact h5 x hx
      · exact hu
end

section
variable {P : Program} (w : World)
/-- append to such a list: THE RUN. -/
theorem run_append_lrow (base : Nat) (t ty e : TypeId) (i : TypeInfo) (z : Value) (size bytes : Nat) (ht : P.underlying t = some (.slice e)) (hi : P.info? e = some i) (hz : i.zero = some z)
    (hsize : i.size = size) (hby : i.bytes = bytes) (hzs : z.cells.size = size) (hsz : 0 < size) (hzn : NLs z.cells.toList)
    (v : Value) (n : Nat) (xs : List Value) (hown : LRow e size w base v n xs)
    (a : Addr) (m c : Nat) (news : List Value) (hl : news.length = m * size) (hnews : ∀ j u, news[j]? = some u → w.cell? (a.add j) = some u) (h1 : ∀ u ∈ news, u.oneCell' = true) (hnn : NLs news)
    (h63 : n + m ≤ maxLen) (hbytes : (n + m) * bytes ≤ 140737488355328) (hbase : base ≤ w.heap.size) :
    ∃ v' w', (Builtin.append_ #[t, t] ty #[v, .slice (some a) m c]).run P w = .ok v' w' ∧ LRow e size w' base v' (n + m) (xs ++ news) ∧ w.grownBy w' v.ownBlock := by
  subst hsize
  subst hby
  have hsmall : n + m ≤ 9223372036854775807 := by simp only [maxLen] at h63; omega
  have hlen : (xs ++ news).length = (n + m) * i.size := by rw [List.length_append, hown.1, hl, Nat.add_mul]
  have hxn := hown.isNLs
  have hzz : ∀ k, NLs (Builtin.zeroCells z.cells k).toList := by
    intro k u hu
    have h2 : u ∈ (Builtin.zeroCells z.cells k) := by simpa using hu
    unfold Builtin.zeroCells at h2
    obtain ⟨q, -, hq⟩ := Array.mem_map.1 h2
    have hlt : q % z.cells.size < z.cells.size := Nat.mod_lt _ (by omega)
    rw [getElem!_pos z.cells _ hlt] at hq
    exact hzn u (by rw [← hq]; simp)
  have grown : ∀ (old : Nat), old < n + m → ∀ (row : Option Nat),
      LRow e i.size (w.drew.alloc (.cells (xs.toArray ++ news.toArray ++ Builtin.zeroCells z.cells (grownCap w (n + m) old e - (n + m))) e)) base
        (.slice (some ⟨w.heap.size, 0, none⟩) (n + m) (grownCap w (n + m) old e)) (n + m) (xs ++ news) ∧
      w.grownBy (w.drew.alloc (.cells (xs.toArray ++ news.toArray ++ Builtin.zeroCells z.cells (grownCap w (n + m) old e - (n + m))) e)) row := by
    intro old ho row
    have hge := grownCap_ge w (n + m) old e
    have hcm : grownCap w (n + m) old e ≤ maxLen := grownCap_le_maxLen w (n + m) old e h63
    refine ⟨⟨hlen, .inr ⟨w.heap.size, _, _, rfl, hbase, heap_alloc_new w.drew _, hge, hcm, ?_, ?_, ?_⟩⟩, ⟨rfl, rfl, rfl, by simp, fun k hk _ => Below.heap_alloc w.drew _ k hk⟩⟩
    · simp only [Array.size_append, List.size_toArray, size_zeroCells, hzs, hown.1, hl, ← Nat.add_mul]
      congr 1
      omega
    · simp only [Array.toList_append, List.append_assoc]
      rw [← List.append_assoc, ← hlen]
      exact List.take_left
    · simp only [Array.toList_append]
      exact (hxn.append hnn).append (hzz _)
  rcases hown.2 with ⟨rfl, rfl⟩ | ⟨g, cap, cur, rfl, hbg, hg, hnc, hcm, hcs, htake, hcn⟩
  · have hx : xs = [] := List.eq_nil_of_length_eq_zero (by simpa using hown.1)
    subst hx
    by_cases hm : m = 0
    · subst hm
      have hn : news = [] := List.eq_nil_of_length_eq_zero (by simpa using hl)
      subst hn
      refine ⟨.slice none 0 0, w, ?_, LRow.nil e i.size w base, ⟨rfl, rfl, rfl, Nat.le_refl _, fun _ _ _ => rfl⟩⟩
      simp [Builtin.append_, run_underlying ht, sizeOf, typeInfo, hi, Builtin.lenOf, Builtin.firstCells, loadCells, loadCellsFrom]
    · have hr := run_append_nil (P := P) w t ty e i z ht hi hz a m c news hl hnews (by omega) (by omega) (by have hb := hbytes; simp only [Nat.zero_add] at hb; omega)
      have hgr := grown 0 (by omega) (Value.ownBlock (.slice none 0 0))
      simp only [Nat.zero_add, List.nil_append, Array.empty_append] at hgr ⊢
      exact ⟨_, _, hr, hgr.1, hgr.2⟩
  · by_cases hroom : n + m ≤ cap
    · have hfit : n * i.size + news.length ≤ cur.size := by rw [hl, hcs, ← Nat.add_mul]; exact Nat.mul_le_mul_right _ hroom
      have hr := run_append_room (P := P) w t ty e i ht hi g n cap cur hg a m c news hl hnews h1 hroom hfit
      refine ⟨_, _, hr, ⟨hlen, .inr ⟨g, cap, _, rfl, hbg, setRow_heap w g cur _ e _ hg, hroom, hcm, ?_, ?_, ?_⟩⟩, ⟨rfl, rfl, rfl, by simp, fun k _ hk => setRow_other w g k _ (fun e => hk (by simp [Value.ownBlock, e]))⟩⟩
      · simp only [List.size_toArray, List.length_append, List.length_take, List.length_drop, Array.length_toList]
        omega
      · rw [htake, ← hlen]
        exact List.take_left
      · exact ((hcn.take _).append hnn).append (hcn.drop _)
    · have holds : ∀ j u, xs[j]? = some u → w.cell? ((⟨g, 0, none⟩ : Addr).add j) = some u := by
        intro j u hu
        have hadd : (⟨g, 0, none⟩ : Addr).add j = ⟨g, j, none⟩ := by unfold Addr.add; split <;> simp_all
        rw [hadd, cell_of_row w g j cur e (0, 0) hg]
        rw [← htake, List.getElem?_take] at hu
        split at hu
        · simpa using hu
        · cases hu
      have hr := run_append_grow (P := P) w t ty e i z ht hi hz ⟨g, 0, none⟩ n cap xs hown.1 holds a m c news hl hnews (by omega) (by omega) (growslice_fits (by omega) hbytes)
      have hgr := grown cap (by omega) (Value.ownBlock (.slice (some ⟨g, 0, none⟩) n cap))
      exact ⟨_, _, hr, hgr.1, hgr.2⟩
end
theorem exec_append {P : Program} {w w' : World} {o : Oper} {a : Act} {s x : Operand} {t : TypeId} {vs vx v' : Value} (ho : o.op = .call { callee := .builtin .append, args := #[s, x], argTypes := #[t, t] })
    (hs : a.eval s = vs) (hx : a.eval x = vx) (hr : (Builtin.append_ #[t, t] o.type #[vs, vx]).run P w = .ok v' w') : (execOp a.eval o).run P w = .ok (.value v') w' := by
  unfold execOp
  simp only [ho, resolve, invoke, builtin, Sem.run_bind, Sem.run_pure, Result.andThen_ok, List.map_toArray, List.map_cons, List.map_nil, hs, hx, hr]
theorem wpList_append_lrow {P : Program} {w : World} {ops : Array Oper} {rest : List Oper} {o : Oper} {a : Act} {Q : Exit → Act → World → Prop} (hgd : o.guard = none) (s x : Operand) (t : TypeId)
    (ho : o.op = .call { callee := .builtin .append, args := #[s, x], argTypes := #[t, t] }) (base : Nat) (e : TypeId) (i : TypeInfo) (z : Value) (size bytes : Nat) (ht : P.underlying t = some (.slice e)) (hi : P.info? e = some i) (hz : i.zero = some z)
    (hsize : i.size = size) (hby : i.bytes = bytes) (hzs : z.cells.size = size) (hsz : 0 < size) (hzn : NLs z.cells.toList)
    (v : Value) (n : Nat) (xs : List Value) (hs : a.eval s = v) (hown : LRow e size w base v n xs)
    (ad : Addr) (m c : Nat) (news : List Value) (hx : a.eval x = .slice (some ad) m c) (hl : news.length = m * size) (hnews : ∀ j u, news[j]? = some u → w.cell? (ad.add j) = some u) (h1 : ∀ u ∈ news, u.oneCell' = true) (hnn : NLs news)
    (h63 : n + m ≤ maxLen) (hbytes : (n + m) * bytes ≤ 140737488355328) (hbase : base ≤ w.heap.size)
    (h : ∀ v' w', LRow e size w' base v' (n + m) (xs ++ news) → w.grownBy w' v.ownBlock → wpList P ops Q rest (a.put o.dst v') w') : wpList P ops Q (o :: rest) a w := by
  obtain ⟨v', w', hr, h2, h3⟩ := run_append_lrow (P := P) w base t o.type e i z size bytes ht hi hz hsize hby hzs hsz hzn v n xs hown ad m c news hl hnews h1 hnn h63 hbytes hbase
  refine wpList_plain hgd fun K hK => ?_
  unfold Oper.wp
  rw [exec_append ho hs hx hr]
  exact hK _ _ (h v' w' h2 h3)
end Go.Proofs.Ytljocjjdfgpbaaa
