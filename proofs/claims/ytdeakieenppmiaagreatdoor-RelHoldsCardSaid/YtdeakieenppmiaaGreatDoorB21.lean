/- Texts of one seat, put together: ConcatP TermC RCoef. -/
import Derived.Test.YtdeakieenppmiaaGreatDoorB20
set_option linter.unusedVariables false
/- slices.Concat of two slices of parts. -/
namespace Go.Proofs.YtdeakieenppmiaaGreatDoor
open Go.RowKit
open Tm

theorem run_append_nothingL {P : Program} {w : World} (base : Nat) (t ty e : TypeId) (i : TypeInfo) (size : Nat) (ht : P.underlying t = some (.slice e)) (hi : P.info? e = some i)
    (v : Value) (n c : Nat) (xs : List Value) (hown : LRow e size w base v n xs) : (Builtin.append_ #[t, t] ty #[v, .slice none 0 c]).run P w = .ok v w := by
  rcases hown.2 with ⟨rfl, rfl⟩ | ⟨g, cap, cur, rfl, _, _, hnc, _⟩
  · simp [Builtin.append_, run_underlying ht, sizeOf, typeInfo, hi, Builtin.lenOf, Builtin.firstCells]
  · simp [Builtin.append_, run_underlying ht, sizeOf, typeInfo, hi, Builtin.lenOf, Builtin.firstCells, hnc, storeCells]
/-- append(xs, ys...), ys whatever parts. -/
theorem wpList_append_partsA {w : World} {ops : Array Oper} {rest : List Oper} {o : Oper} {a : Act} {Q : Exit → Act → World → Prop} (hgd : o.guard = none) (s x : Operand)
    (ho : o.op = .call { callee := .builtin .append, args := #[s, x], argTypes := #[22, 22] }) (base : Nat) (v : Value) (ps : List PV) (hs : a.eval s = v) (hown : LRow 60 3 w base v ps.length (flat ps))
    (A : Option Addr) (m c k : Nat) (qs : List PV) (hx : a.eval x = .slice A m c) (hq : PartsIn w A m qs k) (hn : ps.length + m ≤ 1099511627776) (hbase : base ≤ w.heap.size)
    (h : ∀ v' w', LRow 60 3 w' base v' (ps ++ qs).length (flat (ps ++ qs)) → w.grownBy w' v.ownBlock → wpList Tryz.prog ops Q rest (a.put o.dst v') w') : wpList Tryz.prog ops Q (o :: rest) a w := by
  rcases A with _ | ⟨b, q, sp⟩
  · obtain rfl : m = 0 := by
      rcases Nat.eq_zero_or_pos m with h0 | h0
      · exact h0
      · obtain ⟨b, o, e, -⟩ := hq.2.1 h0
        cases e
    obtain rfl : qs = [] := List.eq_nil_of_length_eq_zero hq.1
    obtain ⟨i0, hi0, hz0, hz1, hz2⟩ := info_parts part_info
    refine wpList_plain hgd fun K hK => ?_
    have hrun := run_append_nothingL (P := Tryz.prog) (w := w) base 22 o.type 60 i0 3 Tryz.underlying22 hi0 v ps.length c (flat ps) hown
    unfold Oper.wp
    rw [exec_append ho hs hx hrun]
    exact hK _ _ (h v w (by rw [List.append_nil]; exact hown) ⟨rfl, rfl, rfl, Nat.le_refl _, fun _ _ _ => rfl⟩)
  · rcases Nat.eq_zero_or_pos m with h0 | h0
    · subst h0
      obtain rfl : qs = [] := List.eq_nil_of_length_eq_zero hq.1
      obtain ⟨i0, hi0, hz0, hz1, hz2⟩ := info_parts part_info
      exact wpList_append_lrow hgd s x 22 ho base 60 i0 _ 3 40 Tryz.underlying22 hi0 hz0 hz1 hz2 rfl (by decide) part_zero_nls v ps.length (flat ps) hs hown ⟨b, q, sp⟩ 0 c [] hx rfl
        (fun j u hu => by simp at hu) (fun u hu => by cases hu) (fun u hu => by cases hu) (by unfold maxLen; omega) (by omega) hbase (fun v' w' h1 h2 => h v' w' (by rw [List.append_nil]; simpa using h1) h2)
    · obtain ⟨b', q', e, hc⟩ := hq.2.1 h0
      injection e with e
      injection e with e1 e2 e3
      subst e1 e2 e3
      exact wpList_append_parts hgd s x ho base v ps hs hown b q m c qs hx hq.1 hc hn hbase h
def ConcatPost (ps qs : List PV) (k : Nat) (w : World) (e : Ending) (w' : World) : Prop := ∃ A n c, e = .returned (.slice A n c) ∧ PartsIn w' A n (ps ++ qs) k ∧ n ≤ c ∧ c ≤ 9223372036854775807 ∧ Below w.heap.size w w'
set_option maxRecDepth 100000 in
set_option maxHeartbeats 2000000 in
theorem concatPart_any (gs cs : Nat) (A B : Option Addr) (n c m d k : Nat) (ps qs : List PV) (w : World) (h0 : w.cell? ⟨gs, 0, none⟩ = some (.slice A n c)) (h1 : w.cell? ⟨gs, 1, none⟩ = some (.slice B m d)) (hp : PartsIn w A n ps k) (hq : PartsIn w B m qs k) (hn : n ≤ 500000) (hm : m ≤ 500000) :
    Calls Tryz.prog 130 #[.slice (some ⟨gs, 0, none⟩) 2 cs] w (ConcatPost ps qs k w) := by
  have hpl := hide hp.1
  have hql := hide hq.1
  have hlt := World.block_lt_of_cell? w _ h0
  go_enter Tryz.func130, Tryz.ntmps130
  go_wp2_with fail
  go_loop [3, 11] (fun s i => ∃ q t : Nat, i = .int .i64 q ∧ s = .int .i64 t ∧ ((q = 0 ∧ t = 0) ∨ (q = 1 ∧ t = n) ∨ (q = 2 ∧ t = n + m))) (fun _ i => 2 - (intOf i).toNat)
  case atStart => exact ⟨0, 0, rfl, rfl, .inl ⟨rfl, rfl⟩⟩
  case round =>
    obtain ⟨q, t, rfl, rfl, ⟨rfl, rfl⟩ | ⟨rfl, rfl⟩ | ⟨rfl, rfl⟩⟩ := hrel
    · go_wp2_with fail
      go_round
      case rel => exact ⟨1, n, by go_num, by go_num, .inr (.inl ⟨rfl, rfl⟩)⟩
      case measure => simp [intOf] <;> omega
    · go_wp2_with fail
      go_round
      case rel => exact ⟨2, t + m, by go_num, by go_num, .inr (.inr ⟨rfl, rfl⟩)⟩
      case measure => simp [intOf] <;> omega
    · have hgr := fun W => growPart_any (n + m) W (by omega)
      have e2 : ((n + m : Nat) : Int) = (n : Int) + (m : Int) := by omega
      rw [e2] at hgr
      clear e2
      go_wp2_with fail
      refine (hgr _).mono ?_
      rintro e w1 ⟨A1, c1, rfl, l1, b1⟩
      have HP := hide hp
      have HQ := hide hq
      have H0 := hide h0
      have H1 := hide h1
      have HL := hide l1
      have HB := hide b1
      clear hp hq h0 h1 hgr l1 b1
      go_wp2_with fail
      go_loopw [6, 27] (fun v i wr => ∃ (q : Nat) (rs : List PV), i = .int .i64 q ∧ Hid (LRow 60 3 wr w.heap.size v rs.length (flat rs)) ∧ Hid (Below w.heap.size w wr) ∧ ((q = 0 ∧ rs = []) ∨ (q = 1 ∧ rs = ps) ∨ (q = 2 ∧ rs = ps ++ qs))) (fun _ i _ => 2 - (intOf i).toNat)
      case atStart => exact ⟨0, [], rfl, HL, HB, .inl ⟨rfl, rfl⟩⟩
      case round =>
        obtain ⟨q, rs, rfl, HR, hB2, ⟨rfl, rfl⟩ | ⟨rfl, rfl⟩ | ⟨rfl, rfl⟩⟩ := hrel
        · have y0 := (hB2.out.cell (p := ⟨gs, 0, none⟩) hlt).trans H0.out
          go_wp2_with (at_builtin; refine wpList_append_partsA rfl _ _ rfl w.heap.size _ [] rfl HR.out A n c k ps rfl (HP.out.below hB2.out) (by simp; omega) hB2.out.size ?_; intro v' w2 l2 g2)
          have HL2 := hide (show LRow 60 3 w2 w.heap.size v' ps.length (flat ps) by simpa using l2)
          have HB2 := hide (HR.out.old hB2.out g2 (Nat.le_refl _) (Nat.le_refl _))
          clear l2 g2 y0
          go_wp2_with fail
          go_roundw
          case rel => exact ⟨1, ps, by go_num, HL2, HB2, .inr (.inl ⟨rfl, rfl⟩)⟩
          case measure => simp [intOf] <;> omega
        · have y1 := (hB2.out.cell (p := ⟨gs, 1, none⟩) hlt).trans H1.out
          have hle : rs.length + m ≤ 1099511627776 := by have := hpl.out; omega
          go_wp2_with (at_builtin; refine wpList_append_partsA rfl _ _ rfl w.heap.size _ rs rfl HR.out B m d k qs rfl (HQ.out.below hB2.out) hle hB2.out.size ?_; intro v' w2 l2 g2)
          have HL2 := hide (show LRow 60 3 w2 w.heap.size v' (rs ++ qs).length (flat (rs ++ qs)) by simpa using l2)
          have HB2 := hide (HR.out.old hB2.out g2 (Nat.le_refl _) (Nat.le_refl _))
          clear l2 g2 y1
          go_wp2_with fail
          go_roundw
          case rel => exact ⟨2, rs ++ qs, by go_num, HL2, HB2, .inr (.inr ⟨rfl, rfl⟩)⟩
          case measure => simp [intOf] <;> omega
        · obtain ⟨A9, c9, rfl, h91, h92, -⟩ := HR.out.len
          have HX := hide (HR.out.parts rfl (fun p hp => by
            rcases List.mem_append.1 hp with h | h
            · exact (HP.out.2.2 p h).below hB2.out
            · exact (HQ.out.2.2 p h).below hB2.out))
          clear HR
          go_wp2_with fail
          go_ret
          exact ⟨A9, _, c9, rfl, HX.out, h91, h92, hB2.out⟩
end Go.Proofs.YtdeakieenppmiaaGreatDoor
/- term: Add, Sub, Var. -/
namespace Go.Proofs.YtdeakieenppmiaaGreatDoor
open Go.RowKit
open Tm

set_option maxRecDepth 100000 in
set_option maxHeartbeats 2000000 in
theorem tadd_any (v u : Value) (L M : List (Int × Int)) (K KM : Int) (k : Nat) (w0 : World) (hv : TIn w0 v L K k) (hu : TIn w0 u M KM k) (hl : L.length ≤ 500000) (hm : M.length ≤ 500000) (hk : k ≤ 109951162) :
    Calls Tryz.prog 90 #[v, u] w0 (TPost (norm (L ++ M)) (K + KM) (k + 1 + (L.length + M.length)) w0) := by
  obtain ⟨A, n, c, s, B, m, d, rfl, ⟨ps, hps, rfl⟩, hc1, hc2, hK⟩ := hv
  obtain ⟨A2, n2, c2, s2, B2, m2, d2, rfl, ⟨qs, hqs, rfl⟩, hc3, hc4, hK2⟩ := hu
  have hn : n ≤ 500000 := by have := hps.1; unfold lin at hl; rw [List.length_map] at hl; omega
  have hn2 : n2 ≤ 500000 := by have := hqs.1; unfold lin at hm; rw [List.length_map] at hm; omega
  have HLL := hide (show (lin ps).length = ps.length ∧ (lin qs).length = qs.length from ⟨by simp [lin], by simp [lin]⟩)
  obtain ⟨z0, z1, z2, z3, z4⟩ := bstart3 28 28 28 w0 #[.slice A n c, .bool s, .slice B m d] #[.slice A2 n2 c2, .bool s2, .slice B2 m2 d2] #[.slice none 0 0, .bool false, .slice none 0 0]
  go_enter Tryz.func90, Tryz.ntmps90
  go_wp2_with fail
  generalize hW0 : (((w0.alloc (.cells #[.slice A n c, .bool s, .slice B m d] 28)).alloc (.cells #[.slice A2 n2 c2, .bool s2, .slice B2 m2 d2] 28)).alloc (.cells #[.slice none 0 0, .bool false, .slice none 0 0] 28)) = W0 at *
  clear hW0
  have HPA := hide (hps.below z3)
  have HPB := hide (hqs.below z3)
  have HKA := hide (hK.below z3)
  have HKB := hide (hK2.below z3)
  have R0 := hide z2
  have T0 := hide z3
  have HPL := hide (fun W v (h : TIn W v (lin (ps ++ qs)) (K + KM) (k + 1)) => (show Calls Tryz.prog 56 #[v] W (TPost (norm (lin (ps ++ qs))) (K + KM) (k + 1 + (ps.length + qs.length)) W) from by
    have h1 := tplain_any v _ _ (k + 1) W h (by rw [lin_append, List.length_append, HLL.out.1, HLL.out.2]; have := hps.1; have := hqs.1; omega) (by omega)
    rw [lin_append, List.length_append, HLL.out.1, HLL.out.2] at h1
    rw [lin_append]
    exact h1))
  unfold TPost at HPL
  have SOF := hide (show ∀ W, Below W0.heap.size W0 W → (W.cell? ⟨w0.heap.size, 0, none⟩ = some (.slice A n c) ∧ W.cell? ⟨w0.heap.size, 1, none⟩ = some (.bool s) ∧ W.cell? ⟨w0.heap.size, 2, none⟩ = some (.slice B m d) ∧ W.cell? ⟨w0.heap.size + 1, 0, none⟩ = some (.slice A2 n2 c2) ∧ W.cell? ⟨w0.heap.size + 1, 1, none⟩ = some (.bool s2) ∧ W.cell? ⟨w0.heap.size + 1, 2, none⟩ = some (.slice B2 m2 d2)) from fun W h => ⟨(z0.next h).c0, (z0.next h).c1, (z0.next h).c2, (z1.next h).c0, (z1.next h).c1, (z1.next h).c2⟩)
  clear z0 z1 z2 z3 z4 hps hqs hK hK2
  refine wp_drawnL (by kernel_rfl) (by kernel_rfl) (by kernel_rfl) (by kernel_rfl) (fun w w' => Below w.heap.size w w') (fun j v w => match j with | 0 => v = .pointer (some ⟨w0.heap.size, 0, none⟩) | 1 => v = .slice A n c | 2 => v = .pointer (some ⟨w0.heap.size + 1, 0, none⟩) | 3 => v = .slice A2 n2 c2 | 4 => ∃ gs, v = .slice (some ⟨gs, 0, none⟩) 2 2 ∧ Box 22 w gs #[.slice A n c, .slice A2 n2 c2] | 5 => ∃ A n c, v = .slice A n c ∧ PartsIn w A n (ps ++ qs) k ∧ n ≤ c ∧ c ≤ 9223372036854775807 | 6 => v = .pointer (some ⟨w0.heap.size, 1, none⟩) | 7 => v = .agg #[.bool s, .slice B m d] | 8 => v = .pointer (some ⟨w0.heap.size + 1, 1, none⟩) | 9 => v = .agg #[.bool s2, .slice B2 m2 d2] | 10 => ∃ s B m d, v = .agg #[.bool s, .slice B m d] ∧ ZRes w (.agg #[.bool s, .slice B m d]) (K + KM) (k + 1) | 11 => TIn w v (lin (ps ++ qs)) (K + KM) (k + 1) | 12 => TRes w v (norm (lin (ps ++ qs))) (K + KM) (k + 1 + (ps.length + qs.length)) | _ => True) (fun _ _ w => Below W0.heap.size W0 w) ?_ (fun _ => bl_drewN W0 1) ?_ ?_
  · intro j v w w' hT h
    match j, h with
    | 0, h => exact h
    | 1, h => exact h
    | 2, h => exact h
    | 3, h => exact h
    | 4, h => exact (by obtain ⟨g, e, h2⟩ := h; exact ⟨g, e, h2.next hT⟩)
    | 5, h => exact (by obtain ⟨A, n, c, e, h1, h2, h3⟩ := h; exact ⟨A, n, c, e, h1.below hT, h2, h3⟩)
    | 6, h => exact h
    | 7, h => exact h
    | 8, h => exact h
    | 9, h => exact h
    | 10, h => exact (by obtain ⟨s, B, m, d, e, z⟩ := h; exact ⟨s, B, m, d, e, z.below hT⟩)
    | 11, h => exact h.below hT
    | 12, h => exact h.below hT
    | j + 13, h => trivial
  · refine ⟨?_, ?_, ?_, ?_, ?_, ?_, ?_, ?_, ?_, ?_, ?_, ?_, ?_, trivial⟩
    · intro listed σ w a hin hout hl hla hs hc hp hG hF
      refine Guarded.none rfl ?_
      have e2 : a.tmps.getD 2 undef = .pointer (some ⟨w0.heap.size, 0, none⟩) := hout 2 (outB_spec (by kernel_rfl))
      refine Does.val (.pointer (some ⟨w0.heap.size, 0, none⟩)) (w' := w) ?_ ⟨Below.refl _ _, rfl, hG⟩
      simp only [Array.getD_eq_getD_getElem?] at e2
      go_simp
    · intro listed σ w a hin hout hl hla hs hc hp hG hF
      refine Guarded.none rfl ?_
      have e5 : a.tmps.getD 5 undef = .pointer (some ⟨w0.heap.size, 0, none⟩) := (hin 0 5 rfl (hp ⟨0, .data⟩ (by simp) rfl)).trans (hF 0 (hp ⟨0, .data⟩ (by simp) rfl))
      have CC := SOF.out w hG; obtain ⟨C0, C1, C2, D0, D1, D2⟩ := CC
      refine Does.val (.slice A n c) (w' := w) ?_ ⟨Below.refl _ _, rfl, hG⟩
      go_simp
    · intro listed σ w a hin hout hl hla hs hc hp hG hF
      refine Guarded.none rfl ?_
      have e3 : a.tmps.getD 3 undef = .pointer (some ⟨w0.heap.size + 1, 0, none⟩) := hout 3 (outB_spec (by kernel_rfl))
      refine Does.val (.pointer (some ⟨w0.heap.size + 1, 0, none⟩)) (w' := w) ?_ ⟨Below.refl _ _, rfl, hG⟩
      simp only [Array.getD_eq_getD_getElem?] at e3
      go_simp
    · intro listed σ w a hin hout hl hla hs hc hp hG hF
      refine Guarded.none rfl ?_
      have e7 : a.tmps.getD 7 undef = .pointer (some ⟨w0.heap.size + 1, 0, none⟩) := (hin 2 7 rfl (hp ⟨2, .data⟩ (by simp) rfl)).trans (hF 2 (hp ⟨2, .data⟩ (by simp) rfl))
      have CC := SOF.out w hG; obtain ⟨C0, C1, C2, D0, D1, D2⟩ := CC
      refine Does.val (.slice A2 n2 c2) (w' := w) ?_ ⟨Below.refl _ _, rfl, hG⟩
      go_simp
    · intro listed σ w a hin hout hl hla hs hc hp hG hF
      refine Guarded.none rfl ?_
      have e6 : a.tmps.getD 6 undef = .slice A n c := (hin 1 6 rfl (hp ⟨1, .data⟩ (by simp) rfl)).trans (hF 1 (hp ⟨1, .data⟩ (by simp) rfl))
      have e8 : a.tmps.getD 8 undef = .slice A2 n2 c2 := (hin 3 8 rfl (hp ⟨3, .data⟩ (by simp) rfl)).trans (hF 3 (hp ⟨3, .data⟩ (by simp) rfl))
      refine Does.val (.slice (some ⟨w.heap.size, 0, none⟩) 2 2) (w' := w.alloc (.cells #[.slice A n c, .slice A2 n2 c2] 22)) ?_ ⟨bl_alloc w _, ⟨w.heap.size, rfl, Box.new _ _ _⟩, hG.next (bl_alloc w _)⟩
      simp only [Array.getD_eq_getD_getElem?] at e6 e8
      go_simp
    · intro listed σ w a hin hout hl hla hs hc hp hG hF
      refine Guarded.none rfl ?_
      have e9 := hin 4 9 rfl (hp ⟨4, .data⟩ (by simp) rfl)
      obtain ⟨g4, ev4, x4⟩ := hF 4 (hp ⟨4, .data⟩ (by simp) rfl)
      rw [ev4] at e9
      refine Does.call ?_ (concatPart_any g4 2 A A2 n c n2 c2 k ps qs w (x4.cell 0 _ rfl) (x4.cell 1 _ rfl) (HPA.out.below hG) (HPB.out.below hG) hn hn2) ?_
      · go_simp
      · rintro e w' ⟨A, n, c, rfl, hp, h1, h2, hb⟩
        exact ⟨_, rfl, hb, ⟨A, n, c, rfl, hp, h1, h2⟩, hG.next hb⟩
    · intro listed σ w a hin hout hl hla hs hc hp hG hF
      refine Guarded.none rfl ?_
      have e2 : a.tmps.getD 2 undef = .pointer (some ⟨w0.heap.size, 0, none⟩) := hout 2 (outB_spec (by kernel_rfl))
      refine Does.val (.pointer (some ⟨w0.heap.size, 1, none⟩)) (w' := w) ?_ ⟨Below.refl _ _, rfl, hG⟩
      simp only [Array.getD_eq_getD_getElem?] at e2
      go_simp
    · intro listed σ w a hin hout hl hla hs hc hp hG hF
      refine Guarded.none rfl ?_
      have e11 : a.tmps.getD 11 undef = .pointer (some ⟨w0.heap.size, 1, none⟩) := (hin 6 11 rfl (hp ⟨6, .data⟩ (by simp) rfl)).trans (hF 6 (hp ⟨6, .data⟩ (by simp) rfl))
      have CC := SOF.out w hG; obtain ⟨C0, C1, C2, D0, D1, D2⟩ := CC
      refine Does.val (.agg #[.bool s, .slice B m d]) (w' := w) ?_ ⟨Below.refl _ _, rfl, hG⟩
      go_simp
    · intro listed σ w a hin hout hl hla hs hc hp hG hF
      refine Guarded.none rfl ?_
      have e3 : a.tmps.getD 3 undef = .pointer (some ⟨w0.heap.size + 1, 0, none⟩) := hout 3 (outB_spec (by kernel_rfl))
      refine Does.val (.pointer (some ⟨w0.heap.size + 1, 1, none⟩)) (w' := w) ?_ ⟨Below.refl _ _, rfl, hG⟩
      simp only [Array.getD_eq_getD_getElem?] at e3
      go_simp
    · intro listed σ w a hin hout hl hla hs hc hp hG hF
      refine Guarded.none rfl ?_
      have e13 : a.tmps.getD 13 undef = .pointer (some ⟨w0.heap.size + 1, 1, none⟩) := (hin 8 13 rfl (hp ⟨8, .data⟩ (by simp) rfl)).trans (hF 8 (hp ⟨8, .data⟩ (by simp) rfl))
      have CC := SOF.out w hG; obtain ⟨C0, C1, C2, D0, D1, D2⟩ := CC
      refine Does.val (.agg #[.bool s2, .slice B2 m2 d2]) (w' := w) ?_ ⟨Below.refl _ _, rfl, hG⟩
      go_simp
    · intro listed σ w a hin hout hl hla hs hc hp hG hF
      refine Guarded.none rfl ?_
      have e12 : a.tmps.getD 12 undef = .agg #[.bool s, .slice B m d] := (hin 7 12 rfl (hp ⟨7, .data⟩ (by simp) rfl)).trans (hF 7 (hp ⟨7, .data⟩ (by simp) rfl))
      have e14 : a.tmps.getD 14 undef = .agg #[.bool s2, .slice B2 m2 d2] := (hin 9 14 rfl (hp ⟨9, .data⟩ (by simp) rfl)).trans (hF 9 (hp ⟨9, .data⟩ (by simp) rfl))
      refine Does.call ?_ (add_z (.agg #[.bool s, .slice B m d]) (.agg #[.bool s2, .slice B2 m2 d2]) K KM k w (HKA.out.below hG) (HKB.out.below hG) (by omega)) ?_
      · go_simp
      · rintro e w' ⟨v, rfl, z, hb⟩
        exact ⟨_, rfl, hb, (by obtain ⟨s, B, m, d, rfl⟩ := z.form; exact ⟨s, B, m, d, rfl, z⟩), hG.next hb⟩
    · intro listed σ w a hin hout hl hla hs hc hp hG hF
      refine Guarded.none rfl ?_
      have e10 := hin 5 10 rfl (hp ⟨5, .data⟩ (by simp) rfl)
      obtain ⟨A5, n5, c5, ev5, p5, q5, r5⟩ := hF 5 (hp ⟨5, .data⟩ (by simp) rfl)
      rw [ev5] at e10
      have e15 := hin 10 15 rfl (hp ⟨10, .data⟩ (by simp) rfl)
      obtain ⟨s10, B10, m10, d10, ev10, z10⟩ := hF 10 (hp ⟨10, .data⟩ (by simp) rfl)
      rw [ev10] at e15
      refine Does.val (.agg #[.slice A5 n5 c5, .bool s10, .slice B10 m10 d10]) (w' := w) ?_ ⟨Below.refl _ _, ⟨A5, n5, c5, s10, B10, m10, d10, rfl, ⟨_, p5.mono (by omega), rfl⟩, q5, r5, z10.in_⟩, hG⟩
      simp only [Array.getD_eq_getD_getElem?] at e10 e15
      go_simp
    · intro listed σ w a hin hout hl hla hs hc hp hG hF
      refine Guarded.none rfl ?_
      have e16 := hin 11 16 rfl (hp ⟨11, .data⟩ (by simp) rfl)
      have z11 := hF 11 (hp ⟨11, .data⟩ (by simp) rfl)
      refine Does.call ?_ (HPL.out w _ z11) ?_
      · go_simp
      · rintro e w' ⟨v, rfl, z, hb⟩
        exact ⟨_, rfl, hb, z, hG.next hb⟩
  · intro o ho
    injection ho with ho; subst ho
    intro listed σ w a hall hin hout hG hF
    refine Guarded.none rfl ?_
    have e4 : a.tmps.getD 4 undef = .pointer (some ⟨w0.heap.size + 1 + 1, 0, none⟩) := hout 4 (outL (by kernel_rfl))
    have e17 := hin 12 17 rfl (by decide)
    have z12 := hF 12 (by decide)
    have z12 := hF 12 (by decide)
    obtain ⟨A8, n8, c8, s8, B8, m8, d8, ev8⟩ := TRes.form z12
    rw [ev8] at e17 z12
    have HR8 := hide (R0.out.next hG)
    have HT8 := hide (T0.out.next hG)
    refine Does.store_box (T := 28) (cells := #[.slice A8 n8 c8, .bool s8, .slice B8 m8 d8]) rfl e4 e17 HR8.out (by kernel_rfl) rfl (by simp [Value.oneCell']) (fun w2 x9 o9 => ?_)
    rw [show fin _ σ undef _ = (Act.put (Act.put (Act.put (Act.put (Act.put (Act.put (Act.put (Act.put (Act.put (Act.put (Act.put (Act.put (Act.put (Act.put _ (some 5) (σ 0)) (some 6) (σ 1)) (some 7) (σ 2)) (some 8) (σ 3)) (some 9) (σ 4)) (some 10) (σ 5)) (some 11) (σ 6)) (some 12) (σ 7)) (some 13) (σ 8)) (some 14) (σ 9)) (some 15) (σ 10)) (some 16) (σ 11)) (some 17) (σ 12)) none undef) from (fin_all hall).trans rfl]
    simp only [Act.put, List.setIfInBounds_toArray, List.set_cons_zero, List.set_cons_succ]
    have HZ8 := hide (z12.only HR8.out o9)
    have HO := hide o9
    generalize σ 0 = tt0 at *; generalize σ 1 = tt1 at *; generalize σ 2 = tt2 at *; generalize σ 3 = tt3 at *; generalize σ 4 = tt4 at *; generalize σ 5 = tt5 at *; generalize σ 6 = tt6 at *; generalize σ 7 = tt7 at *; generalize σ 8 = tt8 at *; generalize σ 9 = tt9 at *; generalize σ 10 = tt10 at *; generalize σ 11 = tt11 at *; generalize σ 12 = tt12 at *
    clear hF hG hall hin hout SOF z12 o9 e4 e17 ev8
    go_wp2_with fail
    refine bodyPost_t rfl rfl x9 rfl ?_
    exact TPost.eq (TPost.mono ⟨_, rfl, HZ8.out, zback HT8.out (by omega) HO.out⟩ (by have := HLL.out; omega)) (by rw [lin_append]) rfl
set_option maxRecDepth 100000 in
set_option maxHeartbeats 2000000 in
theorem tsub_any (v u : Value) (L M : List (Int × Int)) (K KM : Int) (k : Nat) (w0 : World) (hv : TIn w0 v L K k) (hu : TIn w0 u M KM k) (hl : L.length ≤ 500000) (hm : M.length ≤ 500000) (hk : k ≤ 10995116) :
    Calls Tryz.prog 50 #[v, u] w0 (TPost (norm (L ++ M.map fun p => (p.1, -1 * p.2))) (K - KM) (k + M.length + 1 + (L.length + M.length)) w0) := by
  have hv0 := hv
  have hu0 := hu
  obtain ⟨A, n, c, s, B, m, d, rfl, -⟩ := hv
  obtain ⟨A2, n2, c2, s2, B2, m2, d2, rfl, -⟩ := hu
  obtain ⟨z0, z1, z2, z3, z4⟩ := bstart3 28 28 28 w0 #[.slice A n c, .bool s, .slice B m d] #[.slice A2 n2 c2, .bool s2, .slice B2 m2 d2] #[.slice none 0 0, .bool false, .slice none 0 0]
  go_enter Tryz.func50, Tryz.ntmps50
  go_wp2_with fail
  generalize hW0 : (((w0.alloc (.cells #[.slice A n c, .bool s, .slice B m d] 28)).alloc (.cells #[.slice A2 n2 c2, .bool s2, .slice B2 m2 d2] 28)).alloc (.cells #[.slice none 0 0, .bool false, .slice none 0 0] 28)) = W0 at *
  clear hW0
  have HB := hide (hu0.below z3)
  have HA := hide (hv0.below z3)
  have R0 := hide z2
  have T0 := hide z3
  have HAD := hide (fun W v (h : TRes W v (norm (M.map fun p => (p.1, -1 * p.2))) (-KM) (k + M.length)) (hb : Below W0.heap.size W0 W) => (show Calls Tryz.prog 90 #[.agg #[.slice A n c, .bool s, .slice B m d], v] W (TPost (norm (L ++ norm (M.map fun p => (p.1, -1 * p.2)))) (K + -KM) (k + M.length + 1 + (L.length + M.length)) W) from by
    have hq := norm_length (M.map fun p => (p.1, -1 * p.2))
    rw [List.length_map] at hq
    exact (tadd_any _ v L _ K (-KM) (k + M.length) W ((HA.out.below hb).mono (by omega)) h.in_ hl (by omega) (by omega)).mono (fun e w' h => h.mono (by omega))))
  unfold TPost at HAD
  have SOF := hide (show ∀ W, Below W0.heap.size W0 W → (W.cell? ⟨w0.heap.size, 0, none⟩ = some (.slice A n c) ∧ W.cell? ⟨w0.heap.size, 1, none⟩ = some (.bool s) ∧ W.cell? ⟨w0.heap.size, 2, none⟩ = some (.slice B m d) ∧ W.cell? ⟨w0.heap.size + 1, 0, none⟩ = some (.slice A2 n2 c2) ∧ W.cell? ⟨w0.heap.size + 1, 1, none⟩ = some (.bool s2) ∧ W.cell? ⟨w0.heap.size + 1, 2, none⟩ = some (.slice B2 m2 d2)) from fun W h => ⟨(z0.next h).c0, (z0.next h).c1, (z0.next h).c2, (z1.next h).c0, (z1.next h).c1, (z1.next h).c2⟩)
  clear z0 z1 z2 z3 z4 hv0 hu0
  refine wp_drawnL (by kernel_rfl) (by kernel_rfl) (by kernel_rfl) (by kernel_rfl) (fun w w' => Below w.heap.size w w') (fun j v w => match j with | 0 => v = .agg #[.slice A n c, .bool s, .slice B m d] | 1 => v = .agg #[.slice A2 n2 c2, .bool s2, .slice B2 m2 d2] | 2 => TRes w v (norm (M.map fun p => (p.1, -1 * p.2))) (-KM) (k + M.length) | 3 => TRes w v (norm (L ++ norm (M.map fun p => (p.1, -1 * p.2)))) (K + -KM) (k + M.length + 1 + (L.length + M.length)) | _ => True) (fun _ _ w => Below W0.heap.size W0 w) ?_ (fun _ => bl_drewN W0 1) ?_ ?_
  · intro j v w w' hT h
    match j, h with
    | 0, h => exact h
    | 1, h => exact h
    | 2, h => exact h.below hT
    | 3, h => exact h.below hT
    | j + 4, h => trivial
  · refine ⟨?_, ?_, ?_, ?_, trivial⟩
    · intro listed σ w a hin hout hl hla hs hc hp hG hF
      refine Guarded.none rfl ?_
      have e2 : a.tmps.getD 2 undef = .pointer (some ⟨w0.heap.size, 0, none⟩) := hout 2 (outB_spec (by kernel_rfl))
      have CC := SOF.out w hG; obtain ⟨C0, C1, C2, D0, D1, D2⟩ := CC
      refine Does.val (.agg #[.slice A n c, .bool s, .slice B m d]) (w' := w) ?_ ⟨Below.refl _ _, rfl, hG⟩
      go_simp
    · intro listed σ w a hin hout hl hla hs hc hp hG hF
      refine Guarded.none rfl ?_
      have e3 : a.tmps.getD 3 undef = .pointer (some ⟨w0.heap.size + 1, 0, none⟩) := hout 3 (outB_spec (by kernel_rfl))
      have CC := SOF.out w hG; obtain ⟨C0, C1, C2, D0, D1, D2⟩ := CC
      refine Does.val (.agg #[.slice A2 n2 c2, .bool s2, .slice B2 m2 d2]) (w' := w) ?_ ⟨Below.refl _ _, rfl, hG⟩
      go_simp
    · intro listed σ w a hin hout hl hla hs hc hp hG hF
      refine Guarded.none rfl ?_
      have e6 : a.tmps.getD 6 undef = .agg #[.slice A2 n2 c2, .bool s2, .slice B2 m2 d2] := (hin 1 6 rfl (hp ⟨1, .data⟩ (by simp) rfl)).trans (hF 1 (hp ⟨1, .data⟩ (by simp) rfl))
      refine Does.call ?_ (tneg_any _ M KM k w (HB.out.below hG) (by omega) (by omega)) ?_
      · go_simp
      · rintro e w' ⟨v, rfl, z, hb⟩
        exact ⟨_, rfl, hb, z, hG.next hb⟩
    · intro listed σ w a hin hout hl hla hs hc hp hG hF
      refine Guarded.none rfl ?_
      have e5 : a.tmps.getD 5 undef = .agg #[.slice A n c, .bool s, .slice B m d] := (hin 0 5 rfl (hp ⟨0, .data⟩ (by simp) rfl)).trans (hF 0 (hp ⟨0, .data⟩ (by simp) rfl))
      have e7 := hin 2 7 rfl (hp ⟨2, .data⟩ (by simp) rfl)
      have z2 := hF 2 (hp ⟨2, .data⟩ (by simp) rfl)
      refine Does.call ?_ (HAD.out w _ z2 hG) ?_
      · go_simp
      · rintro e w' ⟨v, rfl, z, hb⟩
        exact ⟨_, rfl, hb, z, hG.next hb⟩
  · intro o ho
    injection ho with ho; subst ho
    intro listed σ w a hall hin hout hG hF
    refine Guarded.none rfl ?_
    have e4 : a.tmps.getD 4 undef = .pointer (some ⟨w0.heap.size + 1 + 1, 0, none⟩) := hout 4 (outL (by kernel_rfl))
    have e8 := hin 3 8 rfl (by decide)
    have z3 := hF 3 (by decide)
    have z3 := hF 3 (by decide)
    obtain ⟨A8, n8, c8, s8, B8, m8, d8, ev8⟩ := TRes.form z3
    rw [ev8] at e8 z3
    have HR8 := hide (R0.out.next hG)
    have HT8 := hide (T0.out.next hG)
    refine Does.store_box (T := 28) (cells := #[.slice A8 n8 c8, .bool s8, .slice B8 m8 d8]) rfl e4 e8 HR8.out (by kernel_rfl) rfl (by simp [Value.oneCell']) (fun w2 x9 o9 => ?_)
    rw [show fin _ σ undef _ = (Act.put (Act.put (Act.put (Act.put (Act.put _ (some 5) (σ 0)) (some 6) (σ 1)) (some 7) (σ 2)) (some 8) (σ 3)) none undef) from (fin_all hall).trans rfl]
    simp only [Act.put, List.setIfInBounds_toArray, List.set_cons_zero, List.set_cons_succ]
    have HZ8 := hide (z3.only HR8.out o9)
    have HO := hide o9
    generalize σ 0 = tt0 at *; generalize σ 1 = tt1 at *; generalize σ 2 = tt2 at *; generalize σ 3 = tt3 at *
    clear hF hG hall hin hout SOF z3 o9 e4 e8 ev8
    go_wp2_with fail
    refine bodyPost_t rfl rfl x9 rfl ?_
    exact TPost.eq ⟨_, rfl, HZ8.out, zback HT8.out (by omega) HO.out⟩ (norm_append_congr (fun _ => rfl) (fun x => by rw [norm_coef]; simp)) (by omega)
end Go.Proofs.YtdeakieenppmiaaGreatDoor
/- plumblineref03.Coef. -/
namespace Go.Proofs.YtdeakieenppmiaaGreatDoor
open Go.RowKit
open Tm

theorem coef_take_succ (L : List (Int × Int)) (q : Nat) (u c x : Int) (h : L[q]? = some (u, c)) : coef (L.take (q + 1)) x = coef (L.take q) x + (if u = x ∧ 0 ≤ x then c else 0) := by
  rw [List.take_add_one, h, coef_append]
  simp [coef]
/-- How far the loop has come. -/
def CoefRel (w0 W1 : World) (L : List (Int × Int)) (x : Int) (k q : Nat) (wr : World) : Prop :=
  ∃ s A n c, Blk wr (w0.heap.size + 1 + 1) #[.bool s, .slice A n c] ∧ ZRes wr (.agg #[.bool s, .slice A n c]) (coef (L.take q) x) (k + q) ∧ Below (w0.heap.size + 1 + 1) W1 wr
set_option maxRecDepth 100000 in
set_option maxHeartbeats 2000000 in
theorem rcoef_any (v : Value) (L : List (Int × Int)) (K x : Int) (k : Nat) (w0 : World) (hv : TIn w0 v L K k) (hl : L.length ≤ 1099511) (hk : k ≤ 1099511627) : Calls Tryz.prog 46 #[v, .int .i64 x] w0 (ZPost (coef L x) (k + L.length) w0) := by
  obtain ⟨A, n, c, s, B, m, d, rfl, hp, hc1, hc2, -⟩ := hv
  have hn := hp.len
  obtain ⟨z0, z1, z2, z3, z4⟩ := bstart3 28 26 26 w0 #[.slice A n c, .bool s, .slice B m d] #[.bool false, .slice none 0 0] #[.bool false, .slice none 0 0]
  have x0 := z0.c0
  rw [hn] at hl
  have HN := hide hn
  clear hn
  go_enter Tryz.func46, Tryz.ntmps46
  go_wp2_with fail
  generalize hW1 : (((w0.alloc (.cells #[.slice A n c, .bool s, .slice B m d] 28)).alloc (.cells #[.bool false, .slice none 0 0] 26)).alloc (.cells #[.bool false, .slice none 0 0] 26)) = W1 at *
  clear hW1 x0
  have HS := hide (show CoefRel w0 W1 L x k 0 W1 from ⟨false, none, 0, 0, z2, ZRes.zero _ _, Below.refl _ _⟩)
  have R0 := hide z1
  have T0 := hide z3
  have HZ4 := hide z4
  have HP0 := hide hp
  have Z0 := hide z0
  clear z0 z1 z2 z3 z4 hp
  go_loopw [6] (fun i wr => ∃ q : Nat, q ≤ n ∧ i = .int .i64 q ∧ Hid (CoefRel w0 W1 L x k q wr)) (fun i _ => n - (intOf i).toNat)
  case atStart => exact ⟨0, Nat.zero_le _, rfl, HS⟩
  case round =>
    obtain ⟨q, hq, rfl, HR⟩ := hrel
    obtain ⟨s5, A5, n5, c5, b5, zz5, hB⟩ := HR.out
    have hBW : w0.heap.size + 1 + 1 ≤ W1.heap.size := by have := HZ4.out; omega
    have zt := Z0.out.below hB (by omega)
    have hT : Below w0.heap.size w0 wr := T0.out.trans (hB.mono (by omega))
    have x0 := zt.c0
    by_cases hqn : q < n
    · have hPw : PIn wr A n L k := by
        obtain ⟨ps, h1, h2⟩ := HP0.out
        exact ⟨ps, h1.below hT, h2⟩
      obtain ⟨bb, o, p, rfl, hlt, hLp, c0, c1, c2, hz⟩ := hPw.at_ hqn
      by_cases hpx : p.v = x
      · by_cases hx0 : 0 ≤ x
        · have HC := hide (show coef (L.take q) x + p.Z = coef (L.take (q + 1)) x by rw [coef_take_succ L q _ _ x hLp, if_pos ⟨hpx, hx0⟩])
          have hbb : (p.v == x) = true := by simpa using hpx
          have HZ := hide hz
          have HZ5 := hide zz5
          generalize hY : coef (L.take q) x = Y at *
          clear hY hz zz5 hLp hpx HR
          have HB5 := hide b5
          have HZT := hide zt
          have HBB := hide hB
          have HTT := hide hT
          have b50 := b5.c0
          have b51 := b5.c1
          go_wp2_with fail
          clear b50 b51 x0
          have HA := hide (fun W (h : Below wr.heap.size wr W) => rzadd_z (.agg #[.bool s5, .slice A5 n5 c5]) (.agg #[.bool p.s, .slice p.B p.m p.d]) Y p.Z (k + q) W ((HZ5.out.in_).below h) ((HZ.out.mono (by omega)).below h) (by omega))
          have SOF := hide (show ∀ W, Below wr.heap.size wr W → (W.cell? ⟨w0.heap.size + 1 + 1, 0, none⟩ = some (.bool s5) ∧ W.cell? ⟨w0.heap.size + 1 + 1, 1, none⟩ = some (.slice A5 n5 c5) ∧ W.cell? ⟨w0.heap.size, 0, none⟩ = some (.slice (some ⟨bb, o, none⟩) n c) ∧ W.cell? ⟨bb, o + q * 3 + 1, none⟩ = some (.bool p.s) ∧ W.cell? ⟨bb, o + q * 3 + 2, none⟩ = some (.slice p.B p.m p.d)) from fun W h => ⟨(HB5.out.next h).c0, (HB5.out.next h).c1, (HZT.out.next h).c0, (h.cell (p := ⟨bb, o + q * 3 + 1, none⟩) hlt).trans c1, (h.cell (p := ⟨bb, o + q * 3 + 2, none⟩) hlt).trans c2⟩)
          clear b5 zt c0 c1 c2 hB hT
          refine wp_drawnL (by kernel_rfl) (by kernel_rfl) (by kernel_rfl) (by kernel_rfl) (fun w w' => Below w.heap.size w w') (fun j v w => match j with | 0 => v = .agg #[.bool s5, .slice A5 n5 c5] | 1 => v = .pointer (some ⟨w0.heap.size, 0, none⟩) | 2 => v = .slice (some ⟨bb, o, none⟩) n c | 3 => v = .int .i64 (q : Int) | 4 => v = .pointer (some ⟨bb, o + q * 3, none⟩) | 5 => v = .pointer (some ⟨bb, o + q * 3 + 1, none⟩) | 6 => v = .agg #[.bool p.s, .slice p.B p.m p.d] | 7 => ZRes w v (Y + p.Z) (k + q + 1) | _ => True) (fun _ _ w => Below wr.heap.size wr w) ?_ (fun _ => bl_drewN wr 1) ?_ ?_
          · intro j v w w' hT h
            match j, h with
            | 0, h => exact h
            | 1, h => exact h
            | 2, h => exact h
            | 3, h => exact h
            | 4, h => exact h
            | 5, h => exact h
            | 6, h => exact h
            | 7, h => exact h.below hT
            | j + 8, h => trivial
          · refine ⟨?_, ?_, ?_, ?_, ?_, ?_, ?_, ?_, trivial⟩
            · intro listed σ w a hin hout hl hla hs hc hp hG hF
              refine Guarded.none rfl ?_
              have e5 : a.tmps.getD 5 undef = .pointer (some ⟨w0.heap.size + 1 + 1, 0, none⟩) := hout 5 (outB_spec (by kernel_rfl))
              have CC := SOF.out w hG; obtain ⟨C0, C1, C2, D0, D1⟩ := CC
              refine Does.val (.agg #[.bool s5, .slice A5 n5 c5]) (w' := w) ?_ ⟨Below.refl _ _, rfl, hG⟩
              go_simp
            · intro listed σ w a hin hout hl hla hs hc hp hG hF
              refine Guarded.none rfl ?_
              have e2 : a.tmps.getD 2 undef = .pointer (some ⟨w0.heap.size, 0, none⟩) := hout 2 (outB_spec (by kernel_rfl))
              refine Does.val (.pointer (some ⟨w0.heap.size, 0, none⟩)) (w' := w) ?_ ⟨Below.refl _ _, rfl, hG⟩
              simp only [Array.getD_eq_getD_getElem?] at e2
              go_simp
            · intro listed σ w a hin hout hl hla hs hc hp hG hF
              refine Guarded.none rfl ?_
              have e28 : a.tmps.getD 28 undef = .pointer (some ⟨w0.heap.size, 0, none⟩) := (hin 1 28 rfl (hp ⟨1, .data⟩ (by simp) rfl)).trans (hF 1 (hp ⟨1, .data⟩ (by simp) rfl))
              have CC := SOF.out w hG; obtain ⟨C0, C1, C2, D0, D1⟩ := CC
              refine Does.val (.slice (some ⟨bb, o, none⟩) n c) (w' := w) ?_ ⟨Below.refl _ _, rfl, hG⟩
              go_simp
            · intro listed σ w a hin hout hl hla hs hc hp hG hF
              refine Guarded.none rfl ?_
              have e6 : a.tmps.getD 6 undef = .int .i64 (q : Int) := hout 6 (outB_spec (by kernel_rfl))
              refine Does.val (.int .i64 (q : Int)) (w' := w) ?_ ⟨Below.refl _ _, rfl, hG⟩
              simp only [Array.getD_eq_getD_getElem?] at e6
              go_simp
            · intro listed σ w a hin hout hl hla hs hc hp hG hF
              refine Guarded.none rfl ?_
              have e29 : a.tmps.getD 29 undef = .slice (some ⟨bb, o, none⟩) n c := (hin 2 29 rfl (hp ⟨2, .data⟩ (by simp) rfl)).trans (hF 2 (hp ⟨2, .data⟩ (by simp) rfl))
              have e30 : a.tmps.getD 30 undef = .int .i64 (q : Int) := (hin 3 30 rfl (hp ⟨3, .data⟩ (by simp) rfl)).trans (hF 3 (hp ⟨3, .data⟩ (by simp) rfl))
              refine Does.val (.pointer (some ⟨bb, o + q * 3, none⟩)) (w' := w) ?_ ⟨Below.refl _ _, rfl, hG⟩
              simp only [Array.getD_eq_getD_getElem?] at e29 e30
              go_simp
              (try (intro hh; exfalso; omega))
            · intro listed σ w a hin hout hl hla hs hc hp hG hF
              refine Guarded.none rfl ?_
              have e31 : a.tmps.getD 31 undef = .pointer (some ⟨bb, o + q * 3, none⟩) := (hin 4 31 rfl (hp ⟨4, .data⟩ (by simp) rfl)).trans (hF 4 (hp ⟨4, .data⟩ (by simp) rfl))
              refine Does.val (.pointer (some ⟨bb, o + q * 3 + 1, none⟩)) (w' := w) ?_ ⟨Below.refl _ _, rfl, hG⟩
              simp only [Array.getD_eq_getD_getElem?] at e31
              go_simp
            · intro listed σ w a hin hout hl hla hs hc hp hG hF
              refine Guarded.none rfl ?_
              have e32 : a.tmps.getD 32 undef = .pointer (some ⟨bb, o + q * 3 + 1, none⟩) := (hin 5 32 rfl (hp ⟨5, .data⟩ (by simp) rfl)).trans (hF 5 (hp ⟨5, .data⟩ (by simp) rfl))
              have CC := SOF.out w hG; obtain ⟨C0, C1, C2, D0, D1⟩ := CC
              refine Does.val (.agg #[.bool p.s, .slice p.B p.m p.d]) (w' := w) ?_ ⟨Below.refl _ _, rfl, hG⟩
              go_simp
            · intro listed σ w a hin hout hl hla hs hc hp hG hF
              refine Guarded.none rfl ?_
              have e27 : a.tmps.getD 27 undef = .agg #[.bool s5, .slice A5 n5 c5] := (hin 0 27 rfl (hp ⟨0, .data⟩ (by simp) rfl)).trans (hF 0 (hp ⟨0, .data⟩ (by simp) rfl))
              have e33 : a.tmps.getD 33 undef = .agg #[.bool p.s, .slice p.B p.m p.d] := (hin 6 33 rfl (hp ⟨6, .data⟩ (by simp) rfl)).trans (hF 6 (hp ⟨6, .data⟩ (by simp) rfl))
              refine Does.call ?_ (HA.out w hG) ?_
              · go_simp
              · rintro e w' ⟨v, rfl, z, hb⟩
                exact ⟨_, rfl, hb, z, hG.next hb⟩
          · intro o ho
            injection ho with ho; subst ho
            intro listed σ w a hall hin hout hG hF
            refine Guarded.none rfl ?_
            have e5 : a.tmps.getD 5 undef = .pointer (some ⟨w0.heap.size + 1 + 1, 0, none⟩) := hout 5 (outL (by kernel_rfl))
            have e34 := hin 7 34 rfl (by decide)
            have z7 := hF 7 (by decide)
            have z7 := hF 7 (by decide)
            obtain ⟨s8, A8, n8, c8, ev8⟩ := ZRes.form z7
            rw [ev8] at e34 z7
            have HX := hide (HB5.out.next hG)
            refine Does.store_box (T := 26) (cells := #[.bool s8, .slice A8 n8 c8]) rfl e5 e34 (Blk.box HX.out) (by kernel_rfl) rfl (by simp [Value.oneCell']) (fun w2 x9 o9 => ?_)
            rw [show fin _ σ undef _ = (Act.put (Act.put (Act.put (Act.put (Act.put (Act.put (Act.put (Act.put (Act.put _ (some 27) (σ 0)) (some 28) (σ 1)) (some 29) (σ 2)) (some 30) (σ 3)) (some 31) (σ 4)) (some 32) (σ 5)) (some 33) (σ 6)) (some 34) (σ 7)) none undef) from (fin_all hall).trans rfl]
            simp only [Act.put, List.setIfInBounds_toArray, List.set_cons_zero, List.set_cons_succ]
            have HE := hide (show CoefRel w0 W1 L x k (q + 1) w2 from ⟨s8, A8, n8, c8, x9, by rw [← HC.out]; exact (z7.only HX.out o9).mono (by omega), (HBB.out.trans (hG.mono (Nat.le_trans hBW HBB.out.size))).trans (o9.below (Nat.le_trans hBW (Nat.le_trans HBB.out.size hG.size)) (Nat.le_refl _))⟩)
            generalize σ 0 = tt0 at *; generalize σ 1 = tt1 at *; generalize σ 2 = tt2 at *; generalize σ 3 = tt3 at *; generalize σ 4 = tt4 at *; generalize σ 5 = tt5 at *; generalize σ 6 = tt6 at *; generalize σ 7 = tt7 at *
            clear hF hG hall hin hout SOF HA z7 x9 o9 e5 e34 ev8
            go_wp2_with fail
            go_roundw
            case rel => exact ⟨q + 1, by omega, by go_num, HE⟩
            case measure => simp [intOf] <;> omega
        · have HE := hide (show CoefRel w0 W1 L x k (q + 1) wr from ⟨s5, A5, n5, c5, b5, by rw [coef_take_succ L q _ _ x hLp, if_neg (fun h => hx0 h.2), Int.add_zero]; exact zz5.mono (by omega), hB⟩)
          have hbb : (p.v == x) = true := by simpa using hpx
          clear zz5 hLp hpx HR hz b5
          go_wp2_with fail
          go_roundw
          case rel => exact ⟨q + 1, by omega, by go_num, HE⟩
          case measure => simp [intOf] <;> omega
      · have HE := hide (show CoefRel w0 W1 L x k (q + 1) wr from ⟨s5, A5, n5, c5, b5, by rw [coef_take_succ L q _ _ x hLp, if_neg (fun h => hpx h.1), Int.add_zero]; exact zz5.mono (by omega), hB⟩)
        have hbb : (p.v == x) = false := by simpa using hpx
        clear zz5 hLp hpx HR hz b5
        go_wp2_with fail
        go_roundw
        case rel => exact ⟨q + 1, by omega, by go_num, HE⟩
        case measure => simp [intOf] <;> omega
    · obtain rfl : q = n := by omega
      have HL := hide (show coef (L.take q) x = coef L x by rw [List.take_of_length_le (by rw [HN.out]; exact Nat.le_refl _)])
      have b50 := b5.c0
      have b51 := b5.c1
      have k1 : Blk wr (w0.heap.size + 1) #[.bool false, .slice none 0 0] := Box.below R0.out hB (by omega)
      have HZ5 := hide zz5
      have HT := hide hT
      clear zz5 b5 HR hT
      go_wp2_with (with_reducible refine wpList_store_z rfl _ _ rfl (w0.heap.size + 1) _ _ _ _ rfl rfl _ _ k1 ?_; intro w3 k3 ho3)
      refine bodyPost_z rfl rfl k3 rfl ?_
      refine ⟨_, rfl, ?_, zback HT.out (by omega) ho3⟩
      rw [HN.out, ← HL.out]
      exact HZ5.out.only k1 ho3
end Go.Proofs.YtdeakieenppmiaaGreatDoor
