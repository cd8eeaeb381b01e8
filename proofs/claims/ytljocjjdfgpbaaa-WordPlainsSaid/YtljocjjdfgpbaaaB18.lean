/- Texts of one seat, put together: WordQ WordR. -/
import Derived.Test.YtljocjjdfgpbaaaB17
import Derived.Shelf.Spec.SlicesGrow
set_option linter.unusedVariables false
/- slices.Grow of the nil slice of letters. -/
namespace Go.Proofs.Ytljocjjdfgpbaaa
open Go.RowKit
open Wo

def GrowPost (w : World) (e : Ending) (w' : World) : Prop := ∃ A c, e = .returned (.slice A 0 c) ∧ LRow 47 1 w' w.heap.size (.slice A 0 c) 0 [] ∧ Below w.heap.size w w'
theorem ls_info : (Try.prog.info? 47).map (fun i => (i.zero, i.size, i.bytes)) = some (some (.slice none 0 0), 1, 24) := by kernel_rfl
theorem zeros_nls (k : Nat) : NLs (Builtin.zeroCells (Value.slice none 0 0).cells k).toList := by
  intro u hu
  have hu2 : u ∈ (Builtin.zeroCells (Value.slice none 0 0).cells k) := by simpa using hu
  unfold Builtin.zeroCells at hu2
  obtain ⟨q, -, hq⟩ := Array.mem_map.1 hu2
  have hlt : q % (Value.slice none 0 0).cells.size < (Value.slice none 0 0).cells.size := Nat.mod_lt _ (by decide)
  rw [getElem!_pos (Value.slice none 0 0).cells _ hlt] at hq
  have hq1 : q % (Value.slice none 0 0).cells.size = 0 := Nat.mod_one q
  rw [← hq]
  simp only [hq1]
  exact NL.slice _ _ _
theorem zeros_size (k : Nat) : (Builtin.zeroCells (Value.slice none 0 0).cells k).size = k * 1 := by
  simp [Builtin.zeroCells, Value.cells]
set_option maxRecDepth 100000 in
set_option maxHeartbeats 2000000 in
theorem growLs_any (n : Nat) (w : World) (hn : n ≤ 1099511) : Calls Try.prog 42 #[.slice none 0 0, .int .i64 n] w (GrowPost w) := by
  rcases Nat.eq_zero_or_pos n with h0 | h0
  · subst h0
    go_enter Try.func42, Try.ntmps42
    go_wp2_with fail
    go_ret
    exact ⟨none, 0, rfl, LRow.nil _ _ _ _, Below.refl _ _⟩
  · obtain ⟨i0, hi0, hz0, hz1, hz2⟩ := info_parts ls_info
    have hold : (Builtin.firstCells i0.size 0 (.slice none 0 0)).run Try.prog w.drew = .ok ([] : List Value).toArray w.drew := run_firstCells_none w.drew i0.size 0 0 0
    have hrz : ∀ ty, (Builtin.append_ #[25, 3] ty #[.slice none 0 0, .int .i64 (n : Int)]).run Try.prog w =
        .ok (.slice (some ⟨w.heap.size, 0, none⟩) n (grownCap w n 0 47)) (w.drew.alloc (.cells (([] : List Value).toArray ++ Builtin.zeroCells (Value.slice none 0 0).cells n ++ Builtin.zeroCells (Value.slice none 0 0).cells (grownCap w n 0 47 - n)) 47)) := fun ty => by
      have h := Lib.run_append_grow_zeros (P := Try.prog) w 25 3 ty 47 i0 _ .i64 .i64 Try.underlying25 Try.underlying3 hi0 hz0 none 0 0 [] hold n (by omega) (by omega) (by omega) (by omega)
        (by rw [hz2]; omega) (by rw [Nat.zero_add]; exact growslice_fits (by omega) (by rw [hz2]; omega))
      rw [Nat.zero_add] at h
      exact h
    have hGn : n ≤ grownCap w n 0 47 := grownCap_ge w _ _ _
    have hGm := grownCap_le_maxLen w n 0 47 (by unfold maxLen; omega)
    generalize grownCap w n 0 47 = G at *
    unfold maxLen at hGm
    have HL := hide (show LRow 47 1 (w.drew.alloc (.cells (([] : List Value).toArray ++ Builtin.zeroCells (Value.slice none 0 0).cells n ++ Builtin.zeroCells (Value.slice none 0 0).cells (G - n)) 47)) w.heap.size (.slice (some ⟨w.heap.size, 0, none⟩) 0 G) 0 [] from
      LRow.made (w := w.drew) _ G (Nat.le_refl _) (by unfold maxLen; exact hGm) (by rw [Array.size_append, Array.size_append, zeros_size, zeros_size]; show 0 + n * 1 + (G - n) * 1 = G * 1; omega) (by
        simp only [Array.toList_append]
        exact (NLs.append (fun u hu => by simp at hu) (zeros_nls n)).append (zeros_nls _)))
    clear hold hi0 hz0 hz1 hz2
    have HB := hide (show Below w.heap.size w (w.drew.alloc (.cells (([] : List Value).toArray ++ Builtin.zeroCells (Value.slice none 0 0).cells n ++ Builtin.zeroCells (Value.slice none 0 0).cells (G - n)) 47)) from (bl_drewN w 1).next (bl_alloc _ _))
    generalize (w.drew.alloc (.cells (([] : List Value).toArray ++ Builtin.zeroCells (Value.slice none 0 0).cells n ++ Builtin.zeroCells (Value.slice none 0 0).cells (G - n)) 47)) = W1 at *
    go_enter Try.func42, Try.ntmps42
    go_wp2_with (at_builtin; refine Lib.wpList_append_run _ rfl _ _ _ _ rfl _ _ rfl rfl _ _ (hrz _) ?_)
    go_ret
    exact ⟨_, G, rfl, HL.out, HB.out⟩
end Go.Proofs.Ytljocjjdfgpbaaa
/- slices.Concat of two lists of letters. -/
namespace Go.Proofs.Ytljocjjdfgpbaaa
open Go.RowKit
open Wo

/-- Values that stand for letters. -/
def LRep (S : Nat → Prop) (w : World) (L : List (List Bool)) (vs : List Value) : Prop :=
  vs.length = L.length ∧ (∀ u ∈ vs, ∃ A n c, u = Value.slice A n c) ∧ ∀ (j : Nat) (l : List Bool), L[j]? = some l → ∃ A1 c1, vs[j]? = some (Value.slice A1 l.length c1) ∧ l.length ≤ c1 ∧ c1 ≤ 9223372036854775807 ∧ BIn S w A1 l.length l
theorem LRep.keep {S : Nat → Prop} {w w' : World} {L : List (List Bool)} {vs : List Value} (h : LRep S w L vs) (k : Keep S w w') : LRep S w' L vs :=
  ⟨h.1, h.2.1, fun j l hj => by obtain ⟨A1, c1, h1, h2, h3, h4⟩ := h.2.2 j l hj; exact ⟨A1, c1, h1, h2, h3, h4.keep k⟩⟩
theorem LRep.nil (S : Nat → Prop) (w : World) : LRep S w [] [] := ⟨rfl, fun _ h => absurd h (by simp), fun j l h => absurd h (by simp)⟩
theorem LRep.app {S : Nat → Prop} {w : World} {L M : List (List Bool)} {vs us : List Value} (h : LRep S w L vs) (k : LRep S w M us) : LRep S w (L ++ M) (vs ++ us) := by
  refine ⟨by rw [List.length_append, List.length_append, h.1, k.1], fun u hu => (List.mem_append.1 hu).elim (h.2.1 u) (k.2.1 u), fun j l hj => ?_⟩
  rcases Nat.lt_or_ge j L.length with q | q
  · rw [List.getElem?_append_left q] at hj
    obtain ⟨A1, c1, h1, h2⟩ := h.2.2 j l hj
    exact ⟨A1, c1, by rw [List.getElem?_append_left (by rw [h.1]; exact q)]; exact h1, h2⟩
  · rw [List.getElem?_append_right q] at hj
    obtain ⟨A1, c1, h1, h2⟩ := k.2.2 _ l hj
    exact ⟨A1, c1, by rw [List.getElem?_append_right (by rw [h.1]; exact q), h.1]; exact h1, h2⟩
theorem LRep.nls {S : Nat → Prop} {w : World} {L : List (List Bool)} {vs : List Value} (h : LRep S w L vs) : NLs vs := fun u hu => by
  obtain ⟨A, n, c, rfl⟩ := h.2.1 u hu
  exact NL.slice _ _ _
theorem LRep.one {S : Nat → Prop} {w : World} {L : List (List Bool)} {vs : List Value} (h : LRep S w L vs) : ∀ u ∈ vs, u.oneCell' = true := fun u hu => by
  obtain ⟨A, n, c, rfl⟩ := h.2.1 u hu
  rfl
/-- The values of letters in memory. -/
theorem LsIn.vals {S : Nat → Prop} {w : World} {A : Option Addr} {n : Nat} {L : List (List Bool)} (h : LsIn S w A n L) :
    ∃ vs, LRep S w L vs ∧ (0 < n → ∃ b o, A = some ⟨b, o, none⟩ ∧ S b ∧ b < w.heap.size ∧ ∀ j u, vs[j]? = some u → w.cell? ⟨b, o + j, none⟩ = some u) := by
  rcases Nat.eq_zero_or_pos n with h0 | h0
  · have := h.1
    rw [h0] at this
    obtain rfl := List.eq_nil_of_length_eq_zero this
    exact ⟨[], LRep.nil _ _, fun h => absurd h (by omega)⟩
  · obtain ⟨b, o, e, hS, hlt, hc⟩ := h.2 h0
    have hget : ∀ (j : Nat) (l : List Bool), L[j]? = some l → ((List.range n).map fun j => (w.cell? ⟨b, o + j, none⟩).getD (.slice none 0 0))[j]? = w.cell? ⟨b, o + j, none⟩ := fun j l hj => by
      have hjn : j < n := by
        rcases Nat.lt_or_ge j n with q | q
        · exact q
        · rw [List.getElem?_eq_none (by rw [h.1]; exact q)] at hj; cases hj
      obtain ⟨A1, c1, h1, -⟩ := hc j l hj
      simp [hjn, h1]
    refine ⟨(List.range n).map fun j => (w.cell? ⟨b, o + j, none⟩).getD (.slice none 0 0), ⟨by simp [h.1], ?_, ?_⟩, fun _ => ⟨b, o, e, hS, hlt, ?_⟩⟩
    · intro u hu
      obtain ⟨j, hj, rfl⟩ := List.mem_map.1 hu
      have hjn := List.mem_range.1 hj
      obtain ⟨A1, c1, h1, -⟩ := hc j (L[j]'(by rw [h.1]; exact hjn)) (List.getElem?_eq_getElem _)
      exact ⟨A1, _, c1, by rw [h1]; rfl⟩
    · intro j l hj
      obtain ⟨A1, c1, h1, h2⟩ := hc j l hj
      exact ⟨A1, c1, by rw [hget j l hj]; exact h1, h2⟩
    · intro j u hu
      have hjn : j < n := by
        rcases Nat.lt_or_ge j n with q | q
        · exact q
        · rw [List.getElem?_eq_none (by simpa using q)] at hu; cases hu
      rw [← hget j (L[j]'(by rw [h.1]; exact hjn)) (List.getElem?_eq_getElem _)]
      exact hu
/-- A list of the call's own. -/
theorem LRep.lsIn {S : Nat → Prop} {w : World} {base n c : Nat} {A : Option Addr} {L : List (List Bool)} {vs : List Value} (h : LRep S w L vs) (hr : LRow 47 1 w base (.slice A n c) n vs) (hn : n = L.length) : LsIn (Up S base) w A n L := by
  refine ⟨hn.symm, fun h0 => ?_⟩
  obtain ⟨g, rfl, hb, hlt, hc⟩ := hr.cell h0
  refine ⟨g, 0, rfl, .inr hb, hlt, fun j l hj => ?_⟩
  obtain ⟨A1, c1, h1, h2, h3, h4⟩ := h.2.2 j l hj
  exact ⟨A1, c1, by rw [Nat.zero_add]; exact (hc j _ h1).1, h2, h3, h4.sub (fun b _ hs => .inl hs)⟩
theorem run_append_nothingL {P : Program} {w : World} (base : Nat) (t ty e : TypeId) (i : TypeInfo) (size : Nat) (ht : P.underlying t = some (.slice e)) (hi : P.info? e = some i)
    (v : Value) (n c : Nat) (xs : List Value) (hown : LRow e size w base v n xs) : (Builtin.append_ #[t, t] ty #[v, .slice none 0 c]).run P w = .ok v w := by
  rcases hown.2 with ⟨rfl, rfl⟩ | ⟨g, cap, cur, rfl, _, _, hnc, _⟩
  · simp [Builtin.append_, run_underlying ht, sizeOf, typeInfo, hi, Builtin.lenOf, Builtin.firstCells]
  · simp [Builtin.append_, run_underlying ht, sizeOf, typeInfo, hi, Builtin.lenOf, Builtin.firstCells, hnc, storeCells]
/-- append(xs, ys...) of letters. -/
theorem wpList_append_ls {w : World} {ops : Array Oper} {rest : List Oper} {o : Oper} {a : Act} {Q : Exit → Act → World → Prop} (hgd : o.guard = none) (s x : Operand)
    (ho : o.op = .call { callee := .builtin .append, args := #[s, x], argTypes := #[25, 25] }) (base : Nat) (v : Value) (xs : List Value) (hs : a.eval s = v) (hown : LRow 47 1 w base v xs.length xs)
    (A : Option Addr) (m c : Nat) (S : Nat → Prop) (L : List (List Bool)) (hx : a.eval x = .slice A m c) (hq : LsIn S w A m L) (hn : xs.length + m ≤ 1000000) (hbase : base ≤ w.heap.size)
    (h : ∀ v' w' us, LRep S w L us → LRow 47 1 w' base v' (xs ++ us).length (xs ++ us) → w.grownBy w' v.ownBlock → wpList Try.prog ops Q rest (a.put o.dst v') w') : wpList Try.prog ops Q (o :: rest) a w := by
  obtain ⟨us, hr, hcells⟩ := hq.vals
  obtain ⟨i0, hi0, hz0, hz1, hz2⟩ := info_parts ls_info
  have hul : us.length = m := by rw [hr.1]; exact hq.1
  rcases A with _ | ⟨b, q, sp⟩
  · obtain rfl : m = 0 := by
      rcases Nat.eq_zero_or_pos m with h0 | h0
      · exact h0
      · obtain ⟨b, o, e, -⟩ := hcells h0
        cases e
    obtain rfl : us = [] := List.eq_nil_of_length_eq_zero hul
    refine wpList_plain hgd fun K hK => ?_
    have hrun := run_append_nothingL (P := Try.prog) (w := w) base 25 o.type 47 i0 1 Try.underlying25 hi0 v xs.length c xs hown
    unfold Oper.wp
    rw [exec_append ho hs hx hrun]
    exact hK _ _ (h v w [] hr (by rw [List.append_nil]; exact hown) ⟨rfl, rfl, rfl, Nat.le_refl _, fun _ _ _ => rfl⟩)
  · refine wpList_append_lrow hgd s x 25 ho base 47 i0 _ 1 24 Try.underlying25 hi0 hz0 hz1 hz2 rfl (by decide) (fun u hu => ?_) v xs.length xs hs hown ⟨b, q, sp⟩ m c us hx (by rw [hul, Nat.mul_one])
      (fun j u hu => ?_) hr.one hr.nls (by unfold maxLen; omega) (by omega) hbase (fun v' w' h1 h2 => h v' w' us hr (by rw [List.length_append, hul]; exact h1) h2)
    · simp [Value.cells] at hu
      rw [hu]
      exact NL.slice _ _ _
    · have h0 : 0 < m := by
        rcases Nat.eq_zero_or_pos m with h0 | h0
        · rw [h0] at hul
          rw [List.eq_nil_of_length_eq_zero hul] at hu
          simp at hu
        · exact h0
      obtain ⟨b', q', e, -, -, hc⟩ := hcells h0
      injection e with e
      injection e with e1 e2 e3
      subst e1 e2 e3
      have := hc j u hu
      by_cases h9 : j = 0
      · subst h9; simpa [Addr.add] using this
      · simpa [Addr.add, h9] using this
theorem Keep.upN {S : Nat → Prop} {N : Nat} {w a b : World} (h1 : Below N w a) (h2 : Below N w b) (hs : a.heap.size ≤ b.heap.size) : Keep (UpN S N) a b := ⟨hs, fun k hk _ => (h2.block k hk.2).trans (h1.block k hk.2).symm⟩
def ConcatPost (S : Nat → Prop) (L : List (List Bool)) (w : World) (e : Ending) (w' : World) : Prop := ∃ A c vs, e = .returned (.slice A L.length c) ∧ LRep (UpN S w.heap.size) w' L vs ∧ LRow 47 1 w' w.heap.size (.slice A L.length c) L.length vs ∧ Below w.heap.size w w'
set_option maxRecDepth 100000 in
set_option maxHeartbeats 4000000 in
theorem concatLs_any (S : Nat → Prop) (gs cs : Nat) (A B : Option Addr) (n c m d : Nat) (L M : List (List Bool)) (w : World) (h0 : w.cell? ⟨gs, 0, none⟩ = some (.slice A n c)) (h1 : w.cell? ⟨gs, 1, none⟩ = some (.slice B m d)) (hp : LsIn S w A n L) (hq : LsIn S w B m M) (hn : n ≤ 500000) (hm : m ≤ 500000) :
    Calls Try.prog 30 #[.slice (some ⟨gs, 0, none⟩) 2 cs] w (ConcatPost S (L ++ M) w) := by
  have hpl := hide hp.1
  have hp := hp.sub (fun b hlt hs => (⟨hs, hlt⟩ : UpN S w.heap.size b))
  have hq := hq.sub (fun b hlt hs => (⟨hs, hlt⟩ : UpN S w.heap.size b))
  have hql := hide hq.1
  have hlt := World.block_lt_of_cell? w _ h0
  go_enter Try.func30, Try.ntmps30
  go_wp2_with fail
  go_loop [3, 11] (fun s i => ∃ q t : Nat, i = .int .i64 q ∧ s = .int .i64 t ∧ ((q = 0 ∧ t = 0) ∨ (q = 1 ∧ t = n) ∨ (q = 2 ∧ t = n + m))) (fun _ i => 2 - (intOf i).toNat)
  case atStart => exact ⟨0, 0, rfl, rfl, .inl ⟨rfl, rfl⟩⟩
  case round =>
    obtain ⟨q, t, rfl, rfl, ⟨rfl, rfl⟩ | ⟨rfl, rfl⟩ | ⟨rfl, rfl⟩⟩ := hrel
    · go_wp2_with fail
      go_round
      case rel => exact ⟨1, n, by go_num, by go_num, .inr (.inl ⟨rfl, rfl⟩)⟩
      case measure => simp [intOf] <;> omega
    · go_wp2_with fail
      go_round
      case rel => exact ⟨2, t + m, by go_num, by go_num, .inr (.inr ⟨rfl, rfl⟩)⟩
      case measure => simp [intOf] <;> omega
    · have hgr := fun W => growLs_any (n + m) W (by omega)
      have e2 : ((n + m : Nat) : Int) = (n : Int) + (m : Int) := by omega
      rw [e2] at hgr
      clear e2
      go_wp2_with fail
      refine (hgr _).mono ?_
      rintro e w1 ⟨A1, c1, rfl, l1, b1⟩
      have HP := hide hp
      have HQ := hide hq
      have H0 := hide h0
      have H1 := hide h1
      have HL := hide l1
      have HB := hide b1
      clear hp hq h0 h1 hgr l1 b1
      go_wp2_with fail
      go_loopw [6, 27] (fun v i wr => ∃ (q : Nat) (R : List (List Bool)) (rs : List Value), i = .int .i64 q ∧ Hid (LRow 47 1 wr w.heap.size v rs.length rs) ∧ Hid (LRep (UpN S w.heap.size) wr R rs) ∧ Hid (Below w.heap.size w wr) ∧ ((q = 0 ∧ R = []) ∨ (q = 1 ∧ R = L) ∨ (q = 2 ∧ R = L ++ M))) (fun _ i _ => 2 - (intOf i).toNat)
      case atStart => exact ⟨0, [], [], rfl, HL, hide (LRep.nil _ _), HB, .inl ⟨rfl, rfl⟩⟩
      case round =>
        obtain ⟨q, R, rs, rfl, HR, HE, hB2, ⟨rfl, rfl⟩ | ⟨rfl, rfl⟩ | ⟨rfl, rfl⟩⟩ := hrel
        · have y0 := (hB2.out.cell (p := ⟨gs, 0, none⟩) hlt).trans H0.out
          have hle : rs.length + n ≤ 1000000 := by have := HE.out.1; simp at this; rw [this]; simp; omega
          go_wp2_with (at_builtin; refine wpList_append_ls rfl _ _ rfl w.heap.size _ rs rfl HR.out A n c (UpN S w.heap.size) L rfl (HP.out.keep (Keep.of_below hB2.out)) hle hB2.out.size ?_; intro v' w2 us r2 l2 g2)
          have HB2 := hide (HR.out.old hB2.out g2 (Nat.le_refl _) (Nat.le_refl _))
          have HE2 := hide (show LRep (UpN S w.heap.size) w2 L (rs ++ us) from by
            have hk : Keep (UpN S w.heap.size) wr w2 := Keep.upN hB2.out HB2.out g2.size
            have := (HE.out.keep hk).app (r2.keep hk)
            rwa [List.nil_append] at this)
          have HL2 := hide l2
          clear l2 g2 y0 r2 HE
          go_wp2_with fail
          go_roundw
          case rel => exact ⟨1, L, rs ++ us, by go_num, HL2, HE2, HB2, .inr (.inl ⟨rfl, rfl⟩)⟩
          case measure => simp [intOf] <;> omega
        · have y1 := (hB2.out.cell (p := ⟨gs, 1, none⟩) hlt).trans H1.out
          have hle : rs.length + m ≤ 1000000 := by have := hpl.out; have := HE.out.1; omega
          go_wp2_with (at_builtin; refine wpList_append_ls rfl _ _ rfl w.heap.size _ rs rfl HR.out B m d (UpN S w.heap.size) M rfl (HQ.out.keep (Keep.of_below hB2.out)) hle hB2.out.size ?_; intro v' w2 us r2 l2 g2)
          have HB2 := hide (HR.out.old hB2.out g2 (Nat.le_refl _) (Nat.le_refl _))
          have HE2 := hide (show LRep (UpN S w.heap.size) w2 (R ++ M) (rs ++ us) from by
            have hk : Keep (UpN S w.heap.size) wr w2 := Keep.upN hB2.out HB2.out g2.size
            exact (HE.out.keep hk).app (r2.keep hk))
          have HL2 := hide l2
          clear l2 g2 y1 r2 HE
          go_wp2_with fail
          go_roundw
          case rel => exact ⟨2, R ++ M, rs ++ us, by go_num, HL2, HE2, HB2, .inr (.inr ⟨rfl, rfl⟩)⟩
          case measure => simp [intOf] <;> omega
        · obtain ⟨A9, c9, rfl, h91, h92, -⟩ := HR.out.len
          have HR9 := hide HR.out
          have HE9 := hide HE.out
          have HN := hide HE.out.1
          clear HR HE
          go_wp2_with fail
          go_ret
          refine ⟨A9, c9, rs, by rw [← HN.out]; rfl, HE9.out, ?_, hB2.out⟩
          rw [← HN.out]
          exact HR9.out
/-- A block of another type is written. -/
theorem LRow.onlyT {T T' : TypeId} {sz : Nat} {w w' : World} {base g n : Nat} {v : Value} {xs : List Value} {cs : Array Value} (h : LRow T sz w base v n xs) (hb : Box T' w g cs) (hne : T ≠ T') (ho : Only g w w') : LRow T sz w' base v n xs := by
  refine ⟨h.1, ?_⟩
  rcases h.2 with h1 | ⟨g', cap, cur, rfl, h2, h3, rest⟩
  · exact .inl h1
  · refine .inr ⟨g', cap, cur, rfl, h2, ?_, rest⟩
    have hgg : g' ≠ g := fun e => by
      subst e
      rw [hb] at h3
      injection h3 with h3
      injection h3 with h4 h5
      exact hne h5.symm
    exact (ho.block g' (Array.getElem?_eq_some_iff.1 h3).1 (fun e => hgg (by injection e))).trans h3
end Go.Proofs.Ytljocjjdfgpbaaa
