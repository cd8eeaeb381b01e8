/- Texts of one seat, put together: TermB ConcatP. -/
import Derived.Test.YtakcgkohnomgjaaGreatDoorC24
import Derived.Test.YtakcgkohnomgjaaGreatDoorC23
set_option linter.unusedVariables false
set_option linter.unusedSimpArgs false
/- term: Plain, Neg, Scale, Var. -/
namespace Go.Proofs.YtakcgkohnomgjaaGreatDoor
open Go.RowKit
open Tm

theorem TPost.eq {L L' : List (Int × Int)} {K K' : Int} {k : Nat} {w : World} {e : Ending} {w' : World} (h : TPost L K k w e w') (h1 : L = L') (h2 : K = K') : TPost L' K' k w e w' := h1 ▸ h2 ▸ h
theorem TPost.mono {L : List (Int × Int)} {K : Int} {k j : Nat} {w : World} {e : Ending} {w' : World} (h : TPost L K k w e w') (hj : k ≤ j) : TPost L K j w e w' := by
  obtain ⟨v, h1, h2, h3⟩ := h
  exact ⟨v, h1, h2.mono hj, h3⟩
theorem enters_copied : ∀ args w, (callFunc 65 args).run Tryz.prog w = .ok (.enter 65 args) w := enters_of Tryz.func65 (by kernel_rfl) rfl
theorem enters_zneg : ∀ args w, (callFunc 73 args).run Tryz.prog w = .ok (.enter 73 args) w := enters_of Tryz.func73 (by kernel_rfl) rfl
theorem enters_scale1 : ∀ args w, (callFunc 71 args).run Tryz.prog w = .ok (.enter 71 args) w := enters_of Tryz.func71 (by kernel_rfl) rfl
theorem norm_neg (L : List (Int × Int)) : (norm L).map (fun p => (p.1, -p.2)) = norm (L.map fun p => (p.1, -1 * p.2)) := by
  rw [norm_scale (by decide)]
  apply List.map_congr_left
  intro p _
  simp
set_option maxRecDepth 100000 in
set_option maxHeartbeats 1000000 in
theorem tplain_any (v : Value) (L : List (Int × Int)) (K : Int) (k : Nat) (w : World) (hv : TIn w v L K k) (hl : L.length ≤ 1099511) (hk : k ≤ 1099511627) : Calls Tryz.prog 38 #[v] w (TPost (norm L) K (k + L.length) w) := by
  have hv0 := hv
  obtain ⟨A, n, c, s, B, m, d, rfl, -⟩ := hv
  obtain ⟨z0, z1, z2, -⟩ := bstart2 28 28 w #[.slice A n c, .bool s, .slice B m d] #[.slice none 0 0, .bool false, .slice none 0 0]
  have hf := each_any _ L K k (k + L.length) 65 #[] (fun z => z) _ (hv0.below z2) (fun W u Z _ hu => copied_z u Z _ W hu (by omega)) enters_copied hl hk
  have x0 := z0.c0
  have x1 := z0.c1
  have x2 := z0.c2
  go_enter Tryz.func38, Tryz.ntmps38
  go_wp2_with fail
  refine hf.mono ?_
  rintro e w1 ⟨v1, rfl, r1, b1⟩
  obtain ⟨A1, n1, c1, s1, B1, m1, d1, rfl⟩ := r1.form
  have k1 := z1.next b1
  go_wp2_with (with_reducible refine wpList_store_t rfl _ _ rfl (w.heap.size + 1) _ _ _ _ _ _ _ rfl rfl _ _ _ k1 ?_; intro w3 k3 ho3)
  refine bodyPost_t rfl rfl k3 rfl ?_
  refine TPost.eq ⟨_, rfl, r1.only k1 ho3, zback (z2.next b1) (by omega) ho3⟩ ?_ rfl
  simp
set_option maxRecDepth 100000 in
set_option maxHeartbeats 1000000 in
theorem tneg_any (v : Value) (L : List (Int × Int)) (K : Int) (k : Nat) (w : World) (hv : TIn w v L K k) (hl : L.length ≤ 1099511) (hk : k ≤ 1099511627) : Calls Tryz.prog 36 #[v] w (TPost (norm (L.map fun p => (p.1, -1 * p.2))) (-K) (k + L.length) w) := by
  have hv0 := hv
  obtain ⟨A, n, c, s, B, m, d, rfl, -⟩ := hv
  obtain ⟨z0, z1, z2, -⟩ := bstart2 28 28 w #[.slice A n c, .bool s, .slice B m d] #[.slice none 0 0, .bool false, .slice none 0 0]
  have hf := each_any _ L K k (k + L.length) 73 #[] (fun z => -z) _ (hv0.below z2) (fun W u Z _ hu => neg_z u Z _ W hu (by omega)) enters_zneg hl hk
  have x0 := z0.c0
  have x1 := z0.c1
  have x2 := z0.c2
  go_enter Tryz.func36, Tryz.ntmps36
  go_wp2_with fail
  refine hf.mono ?_
  rintro e w1 ⟨v1, rfl, r1, b1⟩
  obtain ⟨A1, n1, c1, s1, B1, m1, d1, rfl⟩ := r1.form
  have k1 := z1.next b1
  go_wp2_with (with_reducible refine wpList_store_t rfl _ _ rfl (w.heap.size + 1) _ _ _ _ _ _ _ rfl rfl _ _ _ k1 ?_; intro w3 k3 ho3)
  refine bodyPost_t rfl rfl k3 rfl ?_
  exact TPost.eq ⟨_, rfl, r1.only k1 ho3, zback (z2.next b1) (by omega) ho3⟩ (norm_neg L) rfl
theorem zeroTerm_res (w : World) (k : Nat) : TRes w (.agg #[.slice none 0 0, .bool false, .slice none 0 0]) [] 0 k := ⟨none, 0, 0, false, none, 0, 0, rfl, PRes.nil _ _ _, Nat.le_refl _, by omega, ZRes.zero _ _⟩
theorem norm_scale_all (N : Int) (L : List (Int × Int)) : (if N = 0 then [] else (norm L).map fun p => (p.1, N * p.2)) = norm (L.map fun p => (p.1, N * p.2)) := by
  split
  · rename_i h
    subst h
    exact (norm_zero _ (fun v => by rw [coef_scale]; simp)).symm
  · rename_i h
    exact (norm_scale h L).symm
set_option maxRecDepth 100000 in
set_option maxHeartbeats 1000000 in
theorem tscale_any (v u : Value) (L : List (Int × Int)) (K N : Int) (k j : Nat) (w : World) (hv : TIn w v L K k) (hu : ZIn w u N j) (hl : L.length ≤ 1099511) (hk : k ≤ 1099511627) (hj : j ≤ 1099511627) :
    Calls Tryz.prog 34 #[v, u] w (TPost (norm (L.map fun p => (p.1, N * p.2))) (N * K) (j + (k + L.length)) w) := by
  have hv0 := hv
  have hu0 := hu
  obtain ⟨A, n, c, s, B, m, d, rfl, -⟩ := hv
  obtain ⟨t, C, q, r, xs, rfl, -⟩ := hu
  obtain ⟨z0, zn, z1, z2, -⟩ := bstart3 28 26 28 w #[.slice A n c, .bool s, .slice B m d] #[.bool t, .slice C q r] #[.slice none 0 0, .bool false, .slice none 0 0]
  have hs := sign_z _ N j _ (hu0.below z2) (by omega)
  unfold SignPost at hs
  have y0 := Blk.c0 zn
  have y1 := Blk.c1 zn
  by_cases h0 : N = 0
  · have HN := hide (norm_scale_all N L)
    have HK := hide (show 0 = N * K by rw [h0, Int.zero_mul])
    have H0 := hide h0
    rw [h0] at hs
    rw [show Int.sign 0 = 0 from rfl] at hs
    clear h0
    go_enter Tryz.func34, Tryz.ntmps34
    go_wp2_with fail
    refine hs.mono ?_
    rintro e w1 ⟨rfl, b1⟩
    have k1 := z1.next b1
    go_wp2_with (with_reducible refine wpList_store_t rfl _ _ rfl (w.heap.size + 1 + 1) _ _ _ _ _ _ _ rfl rfl _ _ _ k1 ?_; intro w3 k3 ho3)
    refine bodyPost_t rfl rfl k3 rfl ?_
    refine TPost.eq ⟨_, rfl, zeroTerm_res w3 _, zback (z2.next b1) (by omega) ho3⟩ ?_ HK.out
    rw [← HN.out, if_pos H0.out]
  · have h1 : (N.sign == 0) = false := sgn_ne h0
    have HN := hide (norm_scale h0 L)
    generalize N.sign = sgn at *
    clear h0
    go_enter Tryz.func34, Tryz.ntmps34
    go_wp2_with fail
    refine hs.mono ?_
    rintro e w1 ⟨rfl, b1⟩
    have t1 := z2.next b1
    have q0 := z0.next b1
    have qn := zn.next b1
    have k1 := z1.next b1
    have x0 := q0.c0
    have x1 := q0.c1
    have x2 := q0.c2
    have hf := each_any _ L K k (j + (k + L.length)) 71 #[.pointer (some ⟨w.heap.size + 1, 0, none⟩)] (fun z => N * z) w1 (hv0.below t1) (fun W u Z hb hu => scale1_any _ u N Z (w.heap.size + 1) j (k + L.length) W ⟨t, C, q, r, rfl, Box.next qn hb⟩ ((hu0.below t1).below hb) hu (by omega) (by omega)) enters_scale1 hl hk
    clear y0 y1 zn z0 z1
    go_wp2_with fail
    refine hf.mono ?_
    rintro e w2 ⟨v1, rfl, r1, b2⟩
    obtain ⟨A1, n1, c1, s1, B1, m1, d1, rfl⟩ := r1.form
    have k2 := k1.next b2
    go_wp2_with (with_reducible refine wpList_store_t rfl _ _ rfl (w.heap.size + 1 + 1) _ _ _ _ _ _ _ rfl rfl _ _ _ k2 ?_; intro w3 k3 ho3)
    refine bodyPost_t rfl rfl k3 rfl ?_
    exact TPost.eq ⟨_, rfl, r1.only k2 ho3, zback (t1.next b2) (by omega) ho3⟩ HN.out.symm rfl
end Go.Proofs.YtakcgkohnomgjaaGreatDoor
/- slices.Concat of two slices of parts. -/
namespace Go.Proofs.YtakcgkohnomgjaaGreatDoor
open Go.RowKit
open Tm

theorem run_append_nothingL {P : Program} {w : World} (base : Nat) (t ty e : TypeId) (i : TypeInfo) (size : Nat) (ht : P.underlying t = some (.slice e)) (hi : P.info? e = some i)
    (v : Value) (n c : Nat) (xs : List Value) (hown : LRow e size w base v n xs) : (Builtin.append_ #[t, t] ty #[v, .slice none 0 c]).run P w = .ok v w := by
  rcases hown.2 with ⟨rfl, rfl⟩ | ⟨g, cap, cur, rfl, _, _, hnc, _⟩
  · simp [Builtin.append_, run_underlying ht, sizeOf, typeInfo, hi, Builtin.lenOf, Builtin.firstCells]
  · simp [Builtin.append_, run_underlying ht, sizeOf, typeInfo, hi, Builtin.lenOf, Builtin.firstCells, hnc, storeCells]
/-- append(xs, ys...), ys whatever parts. -/
theorem wpList_append_partsA {w : World} {ops : Array Oper} {rest : List Oper} {o : Oper} {a : Act} {Q : Exit → Act → World → Prop} (hgd : o.guard = none) (s x : Operand)
    (ho : o.op = .call { callee := .builtin .append, args := #[s, x], argTypes := #[22, 22] }) (base : Nat) (v : Value) (ps : List PV) (hs : a.eval s = v) (hown : LRow 55 3 w base v ps.length (flat ps))
    (A : Option Addr) (m c k : Nat) (qs : List PV) (hx : a.eval x = .slice A m c) (hq : PartsIn w A m qs k) (hn : ps.length + m ≤ 1099511627776) (hbase : base ≤ w.heap.size)
    (h : ∀ v' w', LRow 55 3 w' base v' (ps ++ qs).length (flat (ps ++ qs)) → w.grownBy w' v.ownBlock → wpList Tryz.prog ops Q rest (a.put o.dst v') w') : wpList Tryz.prog ops Q (o :: rest) a w := by
  rcases A with _ | ⟨b, q, sp⟩
  · obtain rfl : m = 0 := by
      rcases Nat.eq_zero_or_pos m with h0 | h0
      · exact h0
      · obtain ⟨b, o, e, -⟩ := hq.2.1 h0
        cases e
    obtain rfl : qs = [] := List.eq_nil_of_length_eq_zero hq.1
    obtain ⟨i0, hi0, hz0, hz1, hz2⟩ := info_parts part_info
    refine wpList_plain hgd fun K hK => ?_
    have hrun := run_append_nothingL (P := Tryz.prog) (w := w) base 22 o.type 55 i0 3 Tryz.underlying22 hi0 v ps.length c (flat ps) hown
    unfold Oper.wp
    rw [exec_append ho hs hx hrun]
    exact hK _ _ (h v w (by rw [List.append_nil]; exact hown) ⟨rfl, rfl, rfl, Nat.le_refl _, fun _ _ _ => rfl⟩)
  · rcases Nat.eq_zero_or_pos m with h0 | h0
    · subst h0
      obtain rfl : qs = [] := List.eq_nil_of_length_eq_zero hq.1
      obtain ⟨i0, hi0, hz0, hz1, hz2⟩ := info_parts part_info
      exact wpList_append_lrow hgd s x 22 ho base 55 i0 _ 3 40 Tryz.underlying22 hi0 hz0 hz1 hz2 rfl (by decide) part_zero_nls v ps.length (flat ps) hs hown ⟨b, q, sp⟩ 0 c [] hx rfl
        (fun j u hu => by simp at hu) (fun u hu => by cases hu) (fun u hu => by cases hu) (by unfold maxLen; omega) (by omega) hbase (fun v' w' h1 h2 => h v' w' (by rw [List.append_nil]; simpa using h1) h2)
    · obtain ⟨b', q', e, hc⟩ := hq.2.1 h0
      injection e with e
      injection e with e1 e2 e3
      subst e1 e2 e3
      exact wpList_append_parts hgd s x ho base v ps hs hown b q m c qs hx hq.1 hc hn hbase h
def ConcatPost (ps qs : List PV) (k : Nat) (w : World) (e : Ending) (w' : World) : Prop := ∃ A n c, e = .returned (.slice A n c) ∧ PartsIn w' A n (ps ++ qs) k ∧ n ≤ c ∧ c ≤ 9223372036854775807 ∧ Below w.heap.size w w'
set_option maxRecDepth 100000 in
set_option maxHeartbeats 2000000 in
theorem concatPart_any (gs cs : Nat) (A B : Option Addr) (n c m d k : Nat) (ps qs : List PV) (w : World) (h0 : w.cell? ⟨gs, 0, none⟩ = some (.slice A n c)) (h1 : w.cell? ⟨gs, 1, none⟩ = some (.slice B m d)) (hp : PartsIn w A n ps k) (hq : PartsIn w B m qs k) (hn : n ≤ 500000) (hm : m ≤ 500000) :
    Calls Tryz.prog 67 #[.slice (some ⟨gs, 0, none⟩) 2 cs] w (ConcatPost ps qs k w) := by
  have hpl := hide hp.1
  have hql := hide hq.1
  have hlt := World.block_lt_of_cell? w _ h0
  go_enter Tryz.func67, Tryz.ntmps67
  go_wp2_with fail
  go_loop [3, 11] (fun s i => ∃ q t : Nat, i = .int .i64 q ∧ s = .int .i64 t ∧ ((q = 0 ∧ t = 0) ∨ (q = 1 ∧ t = n) ∨ (q = 2 ∧ t = n + m))) (fun _ i => 2 - (intOf i).toNat)
  case atStart => exact ⟨0, 0, rfl, rfl, .inl ⟨rfl, rfl⟩⟩
  case round =>
    obtain ⟨q, t, rfl, rfl, ⟨rfl, rfl⟩ | ⟨rfl, rfl⟩ | ⟨rfl, rfl⟩⟩ := hrel
    · go_wp2_with fail
      go_round
      case rel => exact ⟨1, n, by go_num, by go_num, .inr (.inl ⟨rfl, rfl⟩)⟩
      case measure => simp [intOf] <;> omega
    · go_wp2_with fail
      go_round
      case rel => exact ⟨2, t + m, by go_num, by go_num, .inr (.inr ⟨rfl, rfl⟩)⟩
      case measure => simp [intOf] <;> omega
    · have hgr := fun W => growPart_any (n + m) W (by omega)
      have e2 : ((n + m : Nat) : Int) = (n : Int) + (m : Int) := by omega
      rw [e2] at hgr
      clear e2
      go_wp2_with fail
      refine (hgr _).mono ?_
      rintro e w1 ⟨A1, c1, rfl, l1, b1⟩
      have HP := hide hp
      have HQ := hide hq
      have H0 := hide h0
      have H1 := hide h1
      have HL := hide l1
      have HB := hide b1
      clear hp hq h0 h1 hgr l1 b1
      go_wp2_with fail
      go_loopw [6, 27] (fun v i wr => ∃ (q : Nat) (rs : List PV), i = .int .i64 q ∧ Hid (LRow 55 3 wr w.heap.size v rs.length (flat rs)) ∧ Hid (Below w.heap.size w wr) ∧ ((q = 0 ∧ rs = []) ∨ (q = 1 ∧ rs = ps) ∨ (q = 2 ∧ rs = ps ++ qs))) (fun _ i _ => 2 - (intOf i).toNat)
      case atStart => exact ⟨0, [], rfl, HL, HB, .inl ⟨rfl, rfl⟩⟩
      case round =>
        obtain ⟨q, rs, rfl, HR, hB2, ⟨rfl, rfl⟩ | ⟨rfl, rfl⟩ | ⟨rfl, rfl⟩⟩ := hrel
        · have y0 := (hB2.out.cell (p := ⟨gs, 0, none⟩) hlt).trans H0.out
          go_wp2_with (at_builtin; refine wpList_append_partsA rfl _ _ rfl w.heap.size _ [] rfl HR.out A n c k ps rfl (HP.out.below hB2.out) (by simp; omega) hB2.out.size ?_; intro v' w2 l2 g2)
          have HL2 := hide (show LRow 55 3 w2 w.heap.size v' ps.length (flat ps) by simpa using l2)
          have HB2 := hide (HR.out.old hB2.out g2 (Nat.le_refl _) (Nat.le_refl _))
          clear l2 g2 y0
          go_wp2_with fail
          go_roundw
          case rel => exact ⟨1, ps, by go_num, HL2, HB2, .inr (.inl ⟨rfl, rfl⟩)⟩
          case measure => simp [intOf] <;> omega
        · have y1 := (hB2.out.cell (p := ⟨gs, 1, none⟩) hlt).trans H1.out
          have hle : rs.length + m ≤ 1099511627776 := by have := hpl.out; omega
          go_wp2_with (at_builtin; refine wpList_append_partsA rfl _ _ rfl w.heap.size _ rs rfl HR.out B m d k qs rfl (HQ.out.below hB2.out) hle hB2.out.size ?_; intro v' w2 l2 g2)
          have HL2 := hide (show LRow 55 3 w2 w.heap.size v' (rs ++ qs).length (flat (rs ++ qs)) by simpa using l2)
          have HB2 := hide (HR.out.old hB2.out g2 (Nat.le_refl _) (Nat.le_refl _))
          clear l2 g2 y1
          go_wp2_with fail
          go_roundw
          case rel => exact ⟨2, rs ++ qs, by go_num, HL2, HB2, .inr (.inr ⟨rfl, rfl⟩)⟩
          case measure => simp [intOf] <;> omega
        · obtain ⟨A9, c9, rfl, h91, h92, -⟩ := HR.out.len
          have HX := hide (HR.out.parts rfl (fun p hp => by
            rcases List.mem_append.1 hp with h | h
            · exact (HP.out.2.2 p h).below hB2.out
            · exact (HQ.out.2.2 p h).below hB2.out))
          clear HR
          go_wp2_with fail
          go_ret
          exact ⟨A9, _, c9, rfl, HX.out, h91, h92, hB2.out⟩
end Go.Proofs.YtakcgkohnomgjaaGreatDoor
