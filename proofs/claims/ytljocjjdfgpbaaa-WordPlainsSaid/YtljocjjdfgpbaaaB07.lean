/- Texts of one seat, put together: WordMem WordA. -/
import Derived.Test.YtljocjjdfgpbaaaB04
import Derived.Test.YtljocjjdfgpbaaaB05
import Derived.Test.YtljocjjdfgpbaaaB06
set_option linter.unusedVariables false
/- Properties and words in memory. -/
namespace Go.Proofs.Ytljocjjdfgpbaaa
open Go.RowKit
open Wo

section
variable {P : Program} (w : World)
/-- append to such a list: THE RUN. -/
theorem run_append_lrow2 (base : Nat) (t ty e : TypeId) (i : TypeInfo) (z : Value) (size bytes : Nat) (ht : P.underlying t = some (.slice e)) (hi : P.info? e = some i) (hz : i.zero = some z)
    (hsize : i.size = size) (hby : i.bytes = bytes) (hzs : z.cells.size = size) (hsz : 0 < size) (hzn : NLs z.cells.toList)
    (v : Value) (n : Nat) (xs : List Value) (hown : LRow e size w base v n xs)
    (a : Addr) (m c : Nat) (news : List Value) (hl : news.length = m * size) (hnews : ∀ j u, news[j]? = some u → w.cell? (a.add j) = some u) (h1 : ∀ u ∈ news, u.oneCell' = true) (hnn : NLs news)
    (h63 : n + m ≤ maxLen) (hbytes : (n + m) * bytes ≤ 140737488355328) (hbase : base ≤ w.heap.size) :
    ∃ v' w', (Builtin.append_ #[t, t] ty #[v, .slice (some a) m c]).run P w = .ok v' w' ∧ LRow e size w' base v' (n + m) (xs ++ news) ∧ w.grownBy w' v.ownBlock ∧ (v'.ownBlock = v.ownBlock ∨ v'.ownBlock = some w.heap.size) := by
  subst hsize
  subst hby
  have hsmall : n + m ≤ 9223372036854775807 := by simp only [maxLen] at h63; omega
  have hlen : (xs ++ news).length = (n + m) * i.size := by rw [List.length_append, hown.1, hl, Nat.add_mul]
  have hxn := hown.isNLs
  have hzz : ∀ k, NLs (Builtin.zeroCells z.cells k).toList := by
    intro k u hu
    have h2 : u ∈ (Builtin.zeroCells z.cells k) := by simpa using hu
    unfold Builtin.zeroCells at h2
    obtain ⟨q, -, hq⟩ := Array.mem_map.1 h2
    have hlt : q % z.cells.size < z.cells.size := Nat.mod_lt _ (by omega)
    rw [getElem!_pos z.cells _ hlt] at hq
    exact hzn u (by rw [← hq]; simp)
  have grown : ∀ (old : Nat), old < n + m → ∀ (row : Option Nat),
      LRow e i.size (w.drew.alloc (.cells (xs.toArray ++ news.toArray ++ Builtin.zeroCells z.cells (grownCap w (n + m) old e - (n + m))) e)) base
        (.slice (some ⟨w.heap.size, 0, none⟩) (n + m) (grownCap w (n + m) old e)) (n + m) (xs ++ news) ∧
      w.grownBy (w.drew.alloc (.cells (xs.toArray ++ news.toArray ++ Builtin.zeroCells z.cells (grownCap w (n + m) old e - (n + m))) e)) row := by
    intro old ho row
    have hge := grownCap_ge w (n + m) old e
    have hcm : grownCap w (n + m) old e ≤ maxLen := grownCap_le_maxLen w (n + m) old e h63
    refine ⟨⟨hlen, .inr ⟨w.heap.size, _, _, rfl, hbase, heap_alloc_new w.drew _, hge, hcm, ?_, ?_, ?_⟩⟩, ⟨rfl, rfl, rfl, by simp, fun k hk _ => Below.heap_alloc w.drew _ k hk⟩⟩
    · simp only [Array.size_append, List.size_toArray, size_zeroCells, hzs, hown.1, hl, ← Nat.add_mul]
      congr 1
      omega
    · simp only [Array.toList_append, List.append_assoc]
      rw [← List.append_assoc, ← hlen]
      exact List.take_left
    · simp only [Array.toList_append]
      exact (hxn.append hnn).append (hzz _)
  rcases hown.2 with ⟨rfl, rfl⟩ | ⟨g, cap, cur, rfl, hbg, hg, hnc, hcm, hcs, htake, hcn⟩
  · have hx : xs = [] := List.eq_nil_of_length_eq_zero (by simpa using hown.1)
    subst hx
    by_cases hm : m = 0
    · subst hm
      have hn : news = [] := List.eq_nil_of_length_eq_zero (by simpa using hl)
      subst hn
      refine ⟨.slice none 0 0, w, ?_, LRow.nil e i.size w base, ⟨rfl, rfl, rfl, Nat.le_refl _, fun _ _ _ => rfl⟩, .inl rfl⟩
      simp [Builtin.append_, run_underlying ht, sizeOf, typeInfo, hi, Builtin.lenOf, Builtin.firstCells, loadCells, loadCellsFrom]
    · have hr := run_append_nil (P := P) w t ty e i z ht hi hz a m c news hl hnews (by omega) (by omega) (by have hb := hbytes; simp only [Nat.zero_add] at hb; omega)
      have hgr := grown 0 (by omega) (Value.ownBlock (.slice none 0 0))
      simp only [Nat.zero_add, List.nil_append, Array.empty_append] at hgr ⊢
      exact ⟨_, _, hr, hgr.1, hgr.2, .inr rfl⟩
  · by_cases hroom : n + m ≤ cap
    · have hfit : n * i.size + news.length ≤ cur.size := by rw [hl, hcs, ← Nat.add_mul]; exact Nat.mul_le_mul_right _ hroom
      have hr := run_append_room (P := P) w t ty e i ht hi g n cap cur hg a m c news hl hnews h1 hroom hfit
      refine ⟨_, _, hr, ⟨hlen, .inr ⟨g, cap, _, rfl, hbg, setRow_heap w g cur _ e _ hg, hroom, hcm, ?_, ?_, ?_⟩⟩, ⟨rfl, rfl, rfl, by simp, fun k _ hk => setRow_other w g k _ (fun e => hk (by simp [Value.ownBlock, e]))⟩, .inl rfl⟩
      · simp only [List.size_toArray, List.length_append, List.length_take, List.length_drop, Array.length_toList]
        omega
      · rw [htake, ← hlen]
        exact List.take_left
      · exact ((hcn.take _).append hnn).append (hcn.drop _)
    · have holds : ∀ j u, xs[j]? = some u → w.cell? ((⟨g, 0, none⟩ : Addr).add j) = some u := by
        intro j u hu
        have hadd : (⟨g, 0, none⟩ : Addr).add j = ⟨g, j, none⟩ := by unfold Addr.add; split <;> simp_all
        rw [hadd, cell_of_row w g j cur e (0, 0) hg]
        rw [← htake, List.getElem?_take] at hu
        split at hu
        · simpa using hu
        · cases hu
      have hr := run_append_grow (P := P) w t ty e i z ht hi hz ⟨g, 0, none⟩ n cap xs hown.1 holds a m c news hl hnews (by omega) (by omega) (growslice_fits (by omega) hbytes)
      have hgr := grown cap (by omega) (Value.ownBlock (.slice (some ⟨g, 0, none⟩) n cap))
      exact ⟨_, _, hr, hgr.1, hgr.2, .inr rfl⟩
end

theorem wpList_append_lrow2 {P : Program} {w : World} {ops : Array Oper} {rest : List Oper} {o : Oper} {a : Act} {Q : Exit → Act → World → Prop} (hgd : o.guard = none) (s x : Operand) (t : TypeId)
    (ho : o.op = .call { callee := .builtin .append, args := #[s, x], argTypes := #[t, t] }) (base : Nat) (e : TypeId) (i : TypeInfo) (z : Value) (size bytes : Nat) (ht : P.underlying t = some (.slice e)) (hi : P.info? e = some i) (hz : i.zero = some z)
    (hsize : i.size = size) (hby : i.bytes = bytes) (hzs : z.cells.size = size) (hsz : 0 < size) (hzn : NLs z.cells.toList)
    (v : Value) (n : Nat) (xs : List Value) (hs : a.eval s = v) (hown : LRow e size w base v n xs)
    (ad : Addr) (m c : Nat) (news : List Value) (hx : a.eval x = .slice (some ad) m c) (hl : news.length = m * size) (hnews : ∀ j u, news[j]? = some u → w.cell? (ad.add j) = some u) (h1 : ∀ u ∈ news, u.oneCell' = true) (hnn : NLs news)
    (h63 : n + m ≤ maxLen) (hbytes : (n + m) * bytes ≤ 140737488355328) (hbase : base ≤ w.heap.size)
    (h : ∀ v' w', LRow e size w' base v' (n + m) (xs ++ news) → w.grownBy w' v.ownBlock → (v'.ownBlock = v.ownBlock ∨ v'.ownBlock = some w.heap.size) → wpList P ops Q rest (a.put o.dst v') w') : wpList P ops Q (o :: rest) a w := by
  obtain ⟨v', w', hr, h2, h3, h4⟩ := run_append_lrow2 (P := P) w base t o.type e i z size bytes ht hi hz hsize hby hzs hsz hzn v n xs hown ad m c news hl hnews h1 hnn h63 hbytes hbase
  refine wpList_plain hgd fun K hK => ?_
  unfold Oper.wp
  rw [exec_append ho hs hx hr]
  exact hK _ _ (h v' w' h2 h3 h4)
/-- The blocks of S that were there are as they were. -/
def Keep (S : Nat → Prop) (w w' : World) : Prop := w.heap.size ≤ w'.heap.size ∧ ∀ b, S b → b < w.heap.size → w'.heap[b]? = w.heap[b]?
def From (B b : Nat) : Prop := B ≤ b
theorem Keep.of_below {S : Nat → Prop} {w w' : World} (h : Below w.heap.size w w') : Keep S w w' := ⟨h.size, fun b _ hb => h.block b hb⟩
theorem Keep.of_belowB {B : Nat} {S : Nat → Prop} {w w' : World} (h : Below B w w') (hS : ∀ b, S b → b < B) : Keep S w w' := ⟨h.size, fun b hb _ => h.block b (hS b hb)⟩
theorem Keep.of_only {S : Nat → Prop} {g : Nat} {w w' : World} (h : Only g w w') (hg : ¬ S g) : Keep S w w' := ⟨h.size, fun b hB hb => h.block b hb (fun e => by injection e with e; subst e; exact hg hB)⟩
theorem Keep.refl (S : Nat → Prop) (w : World) : Keep S w w := ⟨Nat.le_refl _, fun _ _ _ => rfl⟩
theorem Keep.trans {S : Nat → Prop} {a b c : World} (h : Keep S a b) (k : Keep S b c) : Keep S a c := ⟨Nat.le_trans h.1 k.1, fun i hB hi => (k.2 i hB (Nat.lt_of_lt_of_le hi h.1)).trans (h.2 i hB hi)⟩
theorem Keep.sub {S S' : Nat → Prop} {a b : World} (h : Keep S a b) (hs : ∀ b, S' b → S b) : Keep S' a b := ⟨h.1, fun i hB hi => h.2 i (hs i hB) hi⟩
theorem Keep.grown {S : Nat → Prop} {row : Option Nat} {w w' : World} (h : w.grownBy w' row) (hr : ∀ b, S b → row ≠ some b) : Keep S w w' := ⟨h.size, fun b hB hb => h.block b hb (fun e => hr b hB e.symm)⟩
/-- The three cells of a property. -/
def c3 (k p : Int) (A : Option Addr) (n c : Nat) : List Value := [.int .i64 k, .int .i64 p, .slice A n c]
/-- A property in memory, in blocks of S. -/
inductive DIn (S : Nat → Prop) (w : World) : LT → List Value → Prop where
  | mk (k p : Int) (kids : List LT) (A : Option Addr) (n c : Nat) (b o : Nat) (cs : Nat → List Value) :
      kids.length = n → n ≤ c → c ≤ 9223372036854775807 → (A = none → n = 0 ∧ c = 0) →
      (0 < n → A = some ⟨b, o, none⟩ ∧ S b ∧ b < w.heap.size) →
      (∀ j, j < n → (cs j).length = 3 ∧ ∀ m u, (cs j)[m]? = some u → w.cell? ⟨b, o + j * 3 + m, none⟩ = some u) →
      (∀ j t, kids[j]? = some t → DIn S w t (cs j)) →
      DIn S w (.mk k p kids) (c3 k p A n c)
/-- Some properties in memory, one behind the other. -/
def KsIn (S : Nat → Prop) (w : World) (A : Option Addr) (n : Nat) (kids : List LT) : Prop :=
  kids.length = n ∧ (0 < n → ∃ (b o : Nat) (cs : Nat → List Value), A = some ⟨b, o, none⟩ ∧ S b ∧ b < w.heap.size ∧ (∀ j, j < n → (cs j).length = 3 ∧ ∀ m u, (cs j)[m]? = some u → w.cell? ⟨b, o + j * 3 + m, none⟩ = some u) ∧ ∀ j t, kids[j]? = some t → DIn S w t (cs j))
section
variable {S S' : Nat → Prop} {w w' : World} {t : LT} {vs : List Value} {A : Option Addr} {n c : Nat} {kids : List LT}
theorem DIn.keep (h : DIn S w t vs) (k : Keep S w w') : DIn S w' t vs := by
  induction h with
  | mk kd p kids A n c b o cs h1 h2 h3 h4 h5 h6 h7 ih =>
    refine DIn.mk kd p kids A n c b o cs h1 h2 h3 h4 (fun hn => ⟨(h5 hn).1, (h5 hn).2.1, Nat.lt_of_lt_of_le (h5 hn).2.2 k.1⟩) (fun j hj => ⟨(h6 j hj).1, fun m u hu => ?_⟩) ih
    have hb := h5 (by omega)
    exact (World.cell?_of_block (w := w) (a := ⟨b, o + j * 3 + m, none⟩) (k.2 b hb.2.1 hb.2.2)).trans ((h6 j hj).2 m u hu)
theorem DIn.sub (h : DIn S w t vs) (hs : ∀ b, b < w.heap.size → S b → S' b) : DIn S' w t vs := by
  induction h with
  | mk kd p kids A n c b o cs h1 h2 h3 h4 h5 h6 h7 ih =>
    exact DIn.mk kd p kids A n c b o cs h1 h2 h3 h4 (fun hn => ⟨(h5 hn).1, hs _ (h5 hn).2.2 (h5 hn).2.1, (h5 hn).2.2⟩) h6 ih
theorem KsIn.keep (h : KsIn S w A n kids) (k : Keep S w w') : KsIn S w' A n kids := by
  refine ⟨h.1, fun hn => ?_⟩
  obtain ⟨b, o, cs, e, hS, hlt, h6, h7⟩ := h.2 hn
  exact ⟨b, o, cs, e, hS, Nat.lt_of_lt_of_le hlt k.1, fun j hj => ⟨(h6 j hj).1, fun m u hu => (World.cell?_of_block (w := w) (a := ⟨b, o + j * 3 + m, none⟩) (k.2 b hS hlt)).trans ((h6 j hj).2 m u hu)⟩, fun j t ht => (h7 j t ht).keep k⟩
theorem KsIn.sub (h : KsIn S w A n kids) (hs : ∀ b, b < w.heap.size → S b → S' b) : KsIn S' w A n kids := by
  refine ⟨h.1, fun hn => ?_⟩
  obtain ⟨b, o, cs, e, hS, hlt, h6, h7⟩ := h.2 hn
  exact ⟨b, o, cs, e, hs b hlt hS, hlt, h6, fun j t ht => (h7 j t ht).sub hs⟩
theorem KsIn.nil (S : Nat → Prop) (w : World) (A : Option Addr) : KsIn S w A 0 [] := ⟨rfl, fun h => absurd h (by omega)⟩
/-- A property, opened. -/
theorem DIn.open_ (h : DIn S w t vs) : ∃ A n c, vs = c3 t.k t.p A n c ∧ KsIn S w A n t.kids ∧ n ≤ c ∧ c ≤ 9223372036854775807 ∧ (A = none → n = 0 ∧ c = 0) := by
  cases h with
  | mk kd p kids A n c b o cs h1 h2 h3 h4 h5 h6 h7 =>
    exact ⟨A, n, c, rfl, ⟨h1, fun hn => ⟨b, o, cs, (h5 hn).1, (h5 hn).2.1, (h5 hn).2.2, h6, h7⟩⟩, h2, h3, h4⟩
theorem DIn.close (k p : Int) (h : KsIn S w A n kids) (h2 : n ≤ c) (h3 : c ≤ 9223372036854775807) (h4 : A = none → n = 0 ∧ c = 0) : DIn S w (.mk k p kids) (c3 k p A n c) := by
  rcases Nat.eq_zero_or_pos n with h0 | h0
  · refine DIn.mk k p kids A n c 0 0 (fun _ => []) h.1 h2 h3 h4 (fun hn => absurd hn (by omega)) (fun j hj => absurd hj (by omega)) (fun j t ht => ?_)
    have := h.1
    rw [List.getElem?_eq_none (by omega)] at ht; cases ht
  · obtain ⟨b, o, cs, e, hS, hlt, h6, h7⟩ := h.2 h0
    exact DIn.mk k p kids A n c b o cs h.1 h2 h3 h4 (fun _ => ⟨e, hS, hlt⟩) h6 h7
theorem DIn.leaf (S : Nat → Prop) (w : World) (k p : Int) : DIn S w (.mk k p []) (c3 k p none 0 0) := DIn.close k p (KsIn.nil S w none) (by omega) (by omega) (fun _ => ⟨rfl, rfl⟩)
/-- One of several. -/
theorem KsIn.at_ (h : KsIn S w A n kids) {j : Nat} (hj : j < n) : ∃ (b o : Nat) (t : LT) (k p : Int) (A1 : Option Addr) (n1 c1 : Nat), A = some ⟨b, o, none⟩ ∧ b < w.heap.size ∧ kids[j]? = some t ∧ DIn S w t (c3 k p A1 n1 c1) ∧
    w.cell? ⟨b, o + j * 3, none⟩ = some (.int .i64 k) ∧ w.cell? ⟨b, o + j * 3 + 1, none⟩ = some (.int .i64 p) ∧ w.cell? ⟨b, o + j * 3 + 2, none⟩ = some (.slice A1 n1 c1) := by
  obtain ⟨b, o, cs, e, hS, hlt, h6, h7⟩ := h.2 (by omega)
  have hl : j < kids.length := by rw [h.1]; exact hj
  have ht := h7 j _ (List.getElem?_eq_getElem hl)
  obtain ⟨A1, n1, c1, hv, -⟩ := ht.open_
  rw [hv] at ht
  have hc := (h6 j hj).2
  rw [hv] at hc
  exact ⟨b, o, kids[j], _, _, A1, n1, c1, e, hlt, List.getElem?_eq_getElem hl, ht, hc 0 _ rfl, hc 1 _ rfl, hc 2 _ rfl⟩
/-- The first ones. -/
theorem KsIn.take (h : KsIn S w A n kids) {m : Nat} (hm : m ≤ n) : KsIn S w A m (kids.take m) := by
  refine ⟨by rw [List.length_take, h.1]; omega, fun hn => ?_⟩
  obtain ⟨b, o, cs, e, hS, hlt, h6, h7⟩ := h.2 (by omega)
  refine ⟨b, o, cs, e, hS, hlt, fun j hj => h6 j (by omega), fun j t ht => h7 j t ?_⟩
  rw [List.getElem?_take] at ht
  split at ht
  · exact ht
  · cases ht
/-- All cells of several, in a row. -/
theorem KsIn.flat (h : KsIn S w A n kids) : ∃ css : List (List Value), css.length = n ∧ (∀ cs ∈ css, cs.length = 3) ∧ (∀ (j : Nat) (t : LT), kids[j]? = some t → ∃ cs : List Value, css[j]? = some cs ∧ DIn S w t cs) ∧ (0 < n → ∃ b o, A = some ⟨b, o, none⟩ ∧ S b ∧ b < w.heap.size ∧ ∀ j u, css.flatten[j]? = some u → w.cell? ⟨b, o + j, none⟩ = some u) := by
  rcases Nat.eq_zero_or_pos n with h0 | h0
  · subst h0
    have hk : kids = [] := List.eq_nil_of_length_eq_zero h.1
    subst hk
    exact ⟨[], rfl, fun cs hc => (by cases hc), fun j t ht => (by simp at ht), fun hh => absurd hh (by omega)⟩
  · obtain ⟨b, o, cs, e, hS, hlt, h6, h7⟩ := h.2 h0
    have hgen : ∀ m, m ≤ n → ∀ j u, ((List.range m).map cs).flatten[j]? = some u → w.cell? ⟨b, o + j, none⟩ = some u := by
      intro m
      induction m with
      | zero => intro _ j u hu; simp at hu
      | succ m ih =>
        intro hm j u hu
        have hl : ((List.range m).map cs).flatten.length = m * 3 := by
          clear ih hu
          induction m with
          | zero => rfl
          | succ m ih2 =>
            rw [List.range_succ, List.map_append, List.flatten_append, List.length_append, ih2 (by omega)]
            simp [(h6 m (by omega)).1]; omega
        rw [List.range_succ, List.map_append, List.flatten_append] at hu
        rcases Nat.lt_or_ge j (m * 3) with hj | hj
        · rw [List.getElem?_append_left (by omega)] at hu
          exact ih (by omega) j u hu
        · rw [List.getElem?_append_right (by omega), hl] at hu
          have := (h6 m (by omega)).2 (j - m * 3) u (by simpa using hu)
          rw [show o + m * 3 + (j - m * 3) = o + j by omega] at this
          exact this
    refine ⟨(List.range n).map cs, by simp, fun x hx => ?_, fun j t ht => ?_, fun _ => ⟨b, o, e, hS, hlt, hgen n (Nat.le_refl _)⟩⟩
    · obtain ⟨j, hj, rfl⟩ := List.mem_map.1 hx
      exact (h6 j (List.mem_range.1 hj)).1
    · have hj : j < n := by
        rcases Nat.lt_or_ge j n with q | q
        · exact q
        · rw [List.getElem?_eq_none (by rw [h.1]; exact q)] at ht; cases ht
      exact ⟨cs j, by simp [hj], h7 j t ht⟩
/-- Several out of their cells in a row. -/
theorem KsIn.of_flat {b o : Nat} {css : List (List Value)} (hl : kids.length = css.length) (h3 : ∀ cs ∈ css, cs.length = 3) (hS : S b) (hlt : b < w.heap.size) (hc : ∀ j u, css.flatten[j]? = some u → w.cell? ⟨b, o + j, none⟩ = some u) (hd : ∀ (j : Nat) (t : LT), kids[j]? = some t → ∃ cs : List Value, css[j]? = some cs ∧ DIn S w t cs) :
    KsIn S w (some ⟨b, o, none⟩) kids.length kids := by
  refine ⟨rfl, fun hn => ⟨b, o, fun j => css.getD j [], rfl, hS, hlt, fun j hj => ?_, fun j t ht => ?_⟩⟩
  · have hj' : j < css.length := by omega
    have e : css.getD j [] = css[j] := by simp [hj']
    have h7 : (css[j]).length = 3 := h3 _ (List.getElem_mem hj')
    refine ⟨by show (css.getD j []).length = 3; rw [e]; exact h7, fun m u hu => ?_⟩
    have hu : (css.getD j [])[m]? = some u := hu
    rw [e] at hu
    have hm : m < 3 := by
      rcases Nat.lt_or_ge m 3 with q | q
      · exact q
      · rw [List.getElem?_eq_none (by omega)] at hu; cases hu
    have hf : ∀ (xs : List (List Value)) (j : Nat) (h : j < xs.length), (∀ cs ∈ xs, cs.length = 3) → (xs[j])[m]? = some u → xs.flatten[j * 3 + m]? = some u := by
      intro xs
      induction xs with
      | nil => intro j h; simp at h
      | cons x xs ih =>
        intro j h ha hu
        have hx : x.length = 3 := ha x (by simp)
        rw [List.flatten_cons]
        cases j with
        | zero => rw [List.getElem?_append_left (by omega)]; simpa using hu
        | succ j =>
          rw [List.getElem?_append_right (by omega), hx, show (j + 1) * 3 + m - 3 = j * 3 + m by omega]
          exact ih j (by simpa using h) (fun cs hc => ha cs (by simp [hc])) (by simpa using hu)
    have := hc _ _ (hf css j hj' h3 hu)
    rw [← Nat.add_assoc] at this
    exact this
  · obtain ⟨cs, h1, h2⟩ := hd j t ht
    have : css.getD j [] = cs := by rw [List.getD_eq_getElem?_getD, h1]; rfl
    show DIn S w t (css.getD j [])
    rw [this]; exact h2
end
/-- A letter in memory. -/
def BIn (S : Nat → Prop) (w : World) (A : Option Addr) (n : Nat) (l : List Bool) : Prop :=
  l.length = n ∧ (0 < n → ∃ b o, A = some ⟨b, o, none⟩ ∧ S b ∧ b < w.heap.size ∧ ∀ j v, l[j]? = some v → w.cell? ⟨b, o + j, none⟩ = some (.bool v))
/-- Letters in memory. -/
def LsIn (S : Nat → Prop) (w : World) (A : Option Addr) (n : Nat) (L : List (List Bool)) : Prop :=
  L.length = n ∧ (0 < n → ∃ b o, A = some ⟨b, o, none⟩ ∧ S b ∧ b < w.heap.size ∧ ∀ j l, L[j]? = some l → ∃ A1 c1, w.cell? ⟨b, o + j, none⟩ = some (.slice A1 l.length c1) ∧ l.length ≤ c1 ∧ c1 ≤ 9223372036854775807 ∧ BIn S w A1 l.length l)
section
variable {S S' : Nat → Prop} {w w' : World} {A : Option Addr} {n c : Nat} {l : List Bool} {L : List (List Bool)}
theorem BIn.keep (h : BIn S w A n l) (k : Keep S w w') : BIn S w' A n l := by
  refine ⟨h.1, fun hn => ?_⟩
  obtain ⟨b, o, e, hS, hlt, hc⟩ := h.2 hn
  exact ⟨b, o, e, hS, Nat.lt_of_lt_of_le hlt k.1, fun j v hv => (World.cell?_of_block (w := w) (a := ⟨b, o + j, none⟩) (k.2 b hS hlt)).trans (hc j v hv)⟩
theorem BIn.sub (h : BIn S w A n l) (hs : ∀ b, b < w.heap.size → S b → S' b) : BIn S' w A n l := by
  refine ⟨h.1, fun hn => ?_⟩
  obtain ⟨b, o, e, hS, hlt, hc⟩ := h.2 hn
  exact ⟨b, o, e, hs b hlt hS, hlt, hc⟩
theorem BIn.nil (S : Nat → Prop) (w : World) (A : Option Addr) : BIn S w A 0 [] := ⟨rfl, fun h => absurd h (by omega)⟩
theorem LsIn.keep (h : LsIn S w A n L) (k : Keep S w w') : LsIn S w' A n L := by
  refine ⟨h.1, fun hn => ?_⟩
  obtain ⟨b, o, e, hS, hlt, hc⟩ := h.2 hn
  refine ⟨b, o, e, hS, Nat.lt_of_lt_of_le hlt k.1, fun j l hl => ?_⟩
  obtain ⟨A1, c1, h1, h2, h3, h4⟩ := hc j l hl
  exact ⟨A1, c1, (World.cell?_of_block (w := w) (a := ⟨b, o + j, none⟩) (k.2 b hS hlt)).trans h1, h2, h3, h4.keep k⟩
theorem LsIn.sub (h : LsIn S w A n L) (hs : ∀ b, b < w.heap.size → S b → S' b) : LsIn S' w A n L := by
  refine ⟨h.1, fun hn => ?_⟩
  obtain ⟨b, o, e, hS, hlt, hc⟩ := h.2 hn
  refine ⟨b, o, e, hs b hlt hS, hlt, fun j l hl => ?_⟩
  obtain ⟨A1, c1, h1, h2, h3, h4⟩ := hc j l hl
  exact ⟨A1, c1, h1, h2, h3, h4.sub hs⟩
theorem LsIn.nil (S : Nat → Prop) (w : World) (A : Option Addr) : LsIn S w A 0 [] := ⟨rfl, fun h => absurd h (by omega)⟩
theorem LsIn.at_ (h : LsIn S w A n L) {j : Nat} (hj : j < n) : ∃ b o A1 c1 l, A = some ⟨b, o, none⟩ ∧ b < w.heap.size ∧ L[j]? = some l ∧ w.cell? ⟨b, o + j, none⟩ = some (.slice A1 l.length c1) ∧ l.length ≤ c1 ∧ c1 ≤ 9223372036854775807 ∧ BIn S w A1 l.length l := by
  obtain ⟨b, o, e, hS, hlt, hc⟩ := h.2 (by omega)
  have hl : j < L.length := by rw [h.1]; exact hj
  obtain ⟨A1, c1, h1, h2, h3, h4⟩ := hc j _ (List.getElem?_eq_getElem hl)
  exact ⟨b, o, A1, c1, L[j], e, hlt, List.getElem?_eq_getElem hl, h1, h2, h3, h4⟩
theorem BIn.at_ (h : BIn S w A n l) {j : Nat} (hj : j < n) : ∃ b o v, A = some ⟨b, o, none⟩ ∧ b < w.heap.size ∧ l[j]? = some v ∧ w.cell? ⟨b, o + j, none⟩ = some (.bool v) := by
  obtain ⟨b, o, e, hS, hlt, hc⟩ := h.2 (by omega)
  have hl : j < l.length := by rw [h.1]; exact hj
  exact ⟨b, o, l[j], e, hlt, List.getElem?_eq_getElem hl, hc j _ (List.getElem?_eq_getElem hl)⟩
end
end Go.Proofs.Ytljocjjdfgpbaaa
/- plumblineref15.Arity, Kid, Size, Deep; word.constant, of, dual; plumblineref15.not, two. -/
namespace Go.Proofs.Ytljocjjdfgpbaaa
open Go.RowKit
open Wo

theorem results_lt {fn : Func} {p : Tmp} (h : fn.results = #[.cell p 24]) (tmps : Array Value) (w : World) (g : Nat) (k q : Int) (A : Option Addr) (n c : Nat)
    (hq : tmps.getD p undef = .pointer (some ⟨g, 0, none⟩)) (hg : Box 24 w g #[.int .i64 k, .int .i64 q, .slice A n c]) : (results fn tmps).run Try.prog w = .ok (.agg #[.int .i64 k, .int .i64 q, .slice A n c]) w := by
  have hq' : tmps[p]?.getD undef = .pointer (some ⟨g, 0, none⟩) := by simpa using hq
  simp [results, h, hq', asAddr, run_loadVar_row w g 24 24 #[.int .i64 k, .int .i64 q, .slice A n c] (0, 0) _ hg Try.underlying24 rfl (by kernel_rfl)]
theorem bodyPost_lt {fn : Func} {R : Ending → World → Prop} {a : Act} {w : World} {g p : Nat} {k q : Int} {A : Option Addr} {n c : Nat} (hres : fn.results = #[.cell p 24]) (hp : a.tmps.getD p undef = .pointer (some ⟨g, 0, none⟩))
    (hb : Box 24 w g #[.int .i64 k, .int .i64 q, .slice A n c]) (hd : a.defers = []) (hR : R (.returned (.agg #[.int .i64 k, .int .i64 q, .slice A n c])) w) : bodyPost Try.prog fn R .ret a w :=
  bodyPost_ret (by rw [results_lt hres _ _ g k q A n c hp hb]) hd hR
set_option maxHeartbeats 4000000 in
theorem arity_any (k : Int) (w : World) : Calls Try.prog 32 #[.int .i64 k] w (fun e w' => e = .returned (.int .i64 (arity k : Nat)) ∧ Below w.heap.size w w') := by
  by_cases h3 : k = 3
  · subst h3
    go_enter Try.func32, Try.ntmps32
    go_wp2_with fail
    go_ret
    exact ⟨rfl, Below.refl _ _⟩
  · have g3 : (k == 3) = false := by simp; omega
    by_cases h8 : k = 8
    · subst h8
      go_enter Try.func32, Try.ntmps32
      go_wp2_with fail
      go_ret
      exact ⟨rfl, Below.refl _ _⟩
    · have g8 : (k == 8) = false := by simp; omega
      by_cases h9 : k = 9
      · subst h9
        go_enter Try.func32, Try.ntmps32
        go_wp2_with fail
        go_ret
        exact ⟨rfl, Below.refl _ _⟩
      · have g9 : (k == 9) = false := by simp; omega
        by_cases h10 : k = 10
        · subst h10
          go_enter Try.func32, Try.ntmps32
          go_wp2_with fail
          go_ret
          exact ⟨rfl, Below.refl _ _⟩
        · have g10 : (k == 10) = false := by simp; omega
          by_cases h4 : k = 4
          · subst h4
            go_enter Try.func32, Try.ntmps32
            go_wp2_with fail
            go_ret
            exact ⟨rfl, Below.refl _ _⟩
          · have g4 : (k == 4) = false := by simp; omega
            by_cases h5 : k = 5
            · subst h5
              go_enter Try.func32, Try.ntmps32
              go_wp2_with fail
              go_ret
              exact ⟨rfl, Below.refl _ _⟩
            · have g5 : (k == 5) = false := by simp; omega
              by_cases h7 : k = 7
              · subst h7
                go_enter Try.func32, Try.ntmps32
                go_wp2_with fail
                go_ret
                exact ⟨rfl, Below.refl _ _⟩
              · have g7 : (k == 7) = false := by simp; omega
                by_cases h11 : k = 11
                · subst h11
                  go_enter Try.func32, Try.ntmps32
                  go_wp2_with fail
                  go_ret
                  exact ⟨rfl, Below.refl _ _⟩
                · have g11 : (k == 11) = false := by simp; omega
                  by_cases h12 : k = 12
                  · subst h12
                    go_enter Try.func32, Try.ntmps32
                    go_wp2_with fail
                    go_ret
                    exact ⟨rfl, Below.refl _ _⟩
                  · have g12 : (k == 12) = false := by simp; omega
                    have HE := hide (show Ending.returned (.int .i64 0) = .returned (.int .i64 (arity k : Nat)) from by unfold arity; rw [if_neg (by omega), if_neg (by omega)]; rfl)
                    clear h3 h8 h9 h10 h4 h5 h7 h11 h12
                    go_enter Try.func32, Try.ntmps32
                    go_wp2_with fail
                    go_ret
                    exact ⟨HE.out, Below.refl _ _⟩
def dualN (k : Nat) : Nat := if k = 0 then 1 else if k = 1 then 0 else dual k
set_option maxHeartbeats 4000000 in
theorem dual_any (k : Nat) (w : World) : Calls Try.prog 37 #[.int .i64 (k : Int)] w (fun e w' => e = .returned (.int .i64 (dualN k : Int)) ∧ Below w.heap.size w w') := by
  by_cases h0 : k = 0
  · subst h0
    go_enter Try.func37, Try.ntmps37
    go_wp2_with fail
    go_ret
    exact ⟨rfl, Below.refl _ _⟩
  · have g0 : ((k : Int) == 0) = false := by simp; omega
    by_cases h1 : k = 1
    · subst h1
      go_enter Try.func37, Try.ntmps37
      go_wp2_with fail
      go_ret
      exact ⟨rfl, Below.refl _ _⟩
    · have g1 : ((k : Int) == 1) = false := by simp; omega
      by_cases h4 : k = 4
      · subst h4
        go_enter Try.func37, Try.ntmps37
        go_wp2_with fail
        go_ret
        exact ⟨rfl, Below.refl _ _⟩
      · have g4 : ((k : Int) == 4) = false := by simp; omega
        by_cases h5 : k = 5
        · subst h5
          go_enter Try.func37, Try.ntmps37
          go_wp2_with fail
          go_ret
          exact ⟨rfl, Below.refl _ _⟩
        · have g5 : ((k : Int) == 5) = false := by simp; omega
          by_cases h11 : k = 11
          · subst h11
            go_enter Try.func37, Try.ntmps37
            go_wp2_with fail
            go_ret
            exact ⟨rfl, Below.refl _ _⟩
          · have g11 : ((k : Int) == 11) = false := by simp; omega
            by_cases h12 : k = 12
            · subst h12
              go_enter Try.func37, Try.ntmps37
              go_wp2_with fail
              go_ret
              exact ⟨rfl, Below.refl _ _⟩
            · have g12 : ((k : Int) == 12) = false := by simp; omega
              have HE := hide (show Ending.returned (.int .i64 (k : Int)) = .returned (.int .i64 (dualN k : Int)) from by unfold dualN; rw [if_neg h0, if_neg h1]; unfold dual; rw [if_neg h4, if_neg h5, if_neg h11, if_neg h12])
              clear h0 h1 h4 h5 h11 h12
              go_enter Try.func37, Try.ntmps37
              go_wp2_with fail
              go_ret
              exact ⟨HE.out, Below.refl _ _⟩

def AggPost (k p : Int) (kids : List LT) (w : World) (e : Ending) (w' : World) : Prop :=
  ∃ A n c, e = .returned (.agg #[.int .i64 k, .int .i64 p, .slice A n c]) ∧ KsIn (From w.heap.size) w' A n kids ∧ n ≤ c ∧ c ≤ 9223372036854775807 ∧ (A = none → n = 0 ∧ c = 0) ∧ Below w.heap.size w w'
set_option maxHeartbeats 4000000 in
theorem constant_any (b : Bool) (w : World) : Calls Try.prog 36 #[.bool b] w (fun e w' => e = .returned (.agg #[.int .i64 (if b = true then 0 else 1), .int .i64 0, .slice none 0 0]) ∧ Below w.heap.size w w') := by
  obtain ⟨x0, hb, -⟩ := bstart1 24 w #[.int .i64 0, .int .i64 0, .slice none 0 0]
  have HB := hide hb
  clear hb
  cases b
  · go_enter Try.func36, Try.ntmps36
    go_wp2_with (with_reducible refine wpList_store_box rfl 24 _ _ rfl w.heap.size #[.int .i64 1, .int .i64 0, .slice none 0 0] rfl rfl _ x0 (by kernel_rfl) rfl (by simp [Value.oneCell']) ?_; intro w3 k3 ho3)
    refine bodyPost_lt rfl rfl k3 rfl ?_
    exact ⟨rfl, HB.out.trans (ho3.below HB.out.size (Nat.le_refl _))⟩
  · go_enter Try.func36, Try.ntmps36
    go_wp2_with (with_reducible refine wpList_store_box rfl 24 _ _ rfl w.heap.size #[.int .i64 0, .int .i64 0, .slice none 0 0] rfl rfl _ x0 (by kernel_rfl) rfl (by simp [Value.oneCell']) ?_; intro w3 k3 ho3)
    refine bodyPost_lt rfl rfl k3 rfl ?_
    exact ⟨rfl, HB.out.trans (ho3.below HB.out.size (Nat.le_refl _))⟩
set_option maxHeartbeats 4000000 in
theorem of_any (k : Int) (A : Option Addr) (n c : Nat) (w : World) : Calls Try.prog 35 #[.int .i64 k, .slice A n c] w (fun e w' => e = .returned (.agg #[.int .i64 k, .int .i64 0, .slice A n c]) ∧ Below w.heap.size w w') := by
  obtain ⟨x0, hb, -⟩ := bstart1 24 w #[.int .i64 0, .int .i64 0, .slice none 0 0]
  have HB := hide hb
  clear hb
  go_enter Try.func35, Try.ntmps35
  go_wp2_with (with_reducible refine wpList_store_box rfl 24 _ _ rfl w.heap.size #[.int .i64 k, .int .i64 0, .slice A n c] rfl rfl _ x0 (by kernel_rfl) rfl (by simp [Value.oneCell']) ?_; intro w3 k3 ho3)
  refine bodyPost_lt rfl rfl k3 rfl ?_
  exact ⟨rfl, HB.out.trans (ho3.below HB.out.size (Nat.le_refl _))⟩
end Go.Proofs.Ytljocjjdfgpbaaa
