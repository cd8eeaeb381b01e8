/- Texts of one seat, put together: TermB ConcatP TermC. -/
import Derived.Test.YtdeakieenppmiaaGreatDoorC20
set_option linter.unusedVariables false
set_option linter.unusedSimpArgs false
set_option maxRecDepth 100000
set_option maxHeartbeats 16000000
/- term: Plain, Neg, Scale, Var. -/
namespace Go.Proofs.YtdeakieenppmiaaGreatDoor
open Go.RowKit
open Tm

theorem TPost.eq {L L' : List (Int × Int)} {K K' : Int} {k : Nat} {w : World} {e : Ending} {w' : World} (h : TPost L K k w e w') (h1 : L = L') (h2 : K = K') : TPost L' K' k w e w' := h1 ▸ h2 ▸ h
theorem TPost.mono {L : List (Int × Int)} {K : Int} {k j : Nat} {w : World} {e : Ending} {w' : World} (h : TPost L K k w e w') (hj : k ≤ j) : TPost L K j w e w' := by
 obtain ⟨v, h1, h2, h3⟩ := h
 exact ⟨v, h1, h2.mono hj, h3⟩
theorem enters_copied : ∀ args w, (callFunc 88 args).run Tryz.prog w = .ok (.enter 88 args) w := enters_of Tryz.func88 (by kernel_rfl) rfl
theorem enters_zneg : ∀ args w, (callFunc 78 args).run Tryz.prog w = .ok (.enter 78 args) w := enters_of Tryz.func78 (by kernel_rfl) rfl
theorem enters_scale1 : ∀ args w, (callFunc 158 args).run Tryz.prog w = .ok (.enter 158 args) w := enters_of Tryz.func158 (by kernel_rfl) rfl
theorem norm_neg (L : List (Int × Int)) : (norm L).map (fun p => (p.1, -p.2)) = norm (L.map fun p => (p.1, -1 * p.2)) := by
 rw [norm_scale (by decide)]
 apply List.map_congr_left
 intro p _
 simp
theorem tplain_any (v : Value) (L : List (Int × Int)) (K : Int) (k : Nat) (w : World) (hv : TIn w v L K k) (hl : L.length ≤ 1099511) (hk : k ≤ 1099511627) : Calls Tryz.prog 56 #[v] w (TPost (norm L) K (k + L.length) w) := by
 have hv0 := hv
 obtain ⟨A, n, c, s, B, m, d, rfl, -⟩ := hv
 obtain ⟨z0, z1, z2, -⟩ := bstart2 28 28 w #[.slice A n c, .bool s, .slice B m d] #[.slice none 0 0, .bool false, .slice none 0 0]
 have hf := each_any _ L K k (k + L.length) 88 #[] (fun z => z) _ (hv0.below z2) (fun W u Z _ hu => copied_z u Z _ W hu (by omega)) enters_copied hl hk
 have x0 := z0.c0
 have x1 := z0.c1
 have x2 := z0.c2
 go_enter Tryz.func56, Tryz.ntmps56
 go_wp2_with fail
 refine hf.mono ?_
 rintro e w1 ⟨v1, rfl, r1, b1⟩
 obtain ⟨A1, n1, c1, s1, B1, m1, d1, rfl⟩ := r1.form
 have k1 := z1.next b1
 go_wp2_with (with_reducible refine wpList_store_t rfl _ _ rfl (w.heap.size + 1) _ _ _ _ _ _ _ rfl rfl _ _ _ k1 ?_; intro w3 k3 ho3)
 refine bodyPost_t rfl rfl k3 rfl ?_
 refine TPost.eq ⟨_, rfl, r1.only k1 ho3, zback (z2.next b1) (by omega) ho3⟩ ?_ rfl
 simp
theorem tneg_any (v : Value) (L : List (Int × Int)) (K : Int) (k : Nat) (w : World) (hv : TIn w v L K k) (hl : L.length ≤ 1099511) (hk : k ≤ 1099511627) : Calls Tryz.prog 37 #[v] w (TPost (norm (L.map fun p => (p.1, -1 * p.2))) (-K) (k + L.length) w) := by
 have hv0 := hv
 obtain ⟨A, n, c, s, B, m, d, rfl, -⟩ := hv
 obtain ⟨z0, z1, z2, -⟩ := bstart2 28 28 w #[.slice A n c, .bool s, .slice B m d] #[.slice none 0 0, .bool false, .slice none 0 0]
 have hf := each_any _ L K k (k + L.length) 78 #[] (fun z => -z) _ (hv0.below z2) (fun W u Z _ hu => neg_z u Z _ W hu (by omega)) enters_zneg hl hk
 have x0 := z0.c0
 have x1 := z0.c1
 have x2 := z0.c2
 go_enter Tryz.func37, Tryz.ntmps37
 go_wp2_with fail
 refine hf.mono ?_
 rintro e w1 ⟨v1, rfl, r1, b1⟩
 obtain ⟨A1, n1, c1, s1, B1, m1, d1, rfl⟩ := r1.form
 have k1 := z1.next b1
 go_wp2_with (with_reducible refine wpList_store_t rfl _ _ rfl (w.heap.size + 1) _ _ _ _ _ _ _ rfl rfl _ _ _ k1 ?_; intro w3 k3 ho3)
 refine bodyPost_t rfl rfl k3 rfl ?_
 exact TPost.eq ⟨_, rfl, r1.only k1 ho3, zback (z2.next b1) (by omega) ho3⟩ (norm_neg L) rfl
theorem zeroTerm_res (w : World) (k : Nat) : TRes w (.agg #[.slice none 0 0, .bool false, .slice none 0 0]) [] 0 k := ⟨none, 0, 0, false, none, 0, 0, rfl, PRes.nil _ _ _, Nat.le_refl _, by omega, ZRes.zero _ _⟩
theorem norm_scale_all (N : Int) (L : List (Int × Int)) : (if N = 0 then [] else (norm L).map fun p => (p.1, N * p.2)) = norm (L.map fun p => (p.1, N * p.2)) := by
 split
 · rename_i h
   subst h
   exact (norm_zero _ (fun v => by rw [coef_scale]; simp)).symm
 · rename_i h
   exact (norm_scale h L).symm
theorem tscale_any (v u : Value) (L : List (Int × Int)) (K N : Int) (k j : Nat) (w : World) (hv : TIn w v L K k) (hu : ZIn w u N j) (hl : L.length ≤ 1099511) (hk : k ≤ 1099511627) (hj : j ≤ 1099511627) :
   Calls Tryz.prog 113 #[v, u] w (TPost (norm (L.map fun p => (p.1, N * p.2))) (N * K) (j + (k + L.length)) w) := by
 have hv0 := hv
 have hu0 := hu
 obtain ⟨A, n, c, s, B, m, d, rfl, -⟩ := hv
 obtain ⟨t, C, q, r, xs, rfl, -⟩ := hu
 obtain ⟨z0, zn, z1, z2, -⟩ := bstart3 28 26 28 w #[.slice A n c, .bool s, .slice B m d] #[.bool t, .slice C q r] #[.slice none 0 0, .bool false, .slice none 0 0]
 have hs := sign_z _ N j _ (hu0.below z2) (by omega)
 unfold SignPost at hs
 have y0 := Blk.c0 zn
 have y1 := Blk.c1 zn
 by_cases h0 : N = 0
 · have HN := hide (norm_scale_all N L)
   have HK := hide (show 0 = N * K by rw [h0, Int.zero_mul])
   have H0 := hide h0
   rw [h0] at hs
   rw [show Int.sign 0 = 0 from rfl] at hs
   clear h0
   go_enter Tryz.func113, Tryz.ntmps113
   go_wp2_with fail
   refine hs.mono ?_
   rintro e w1 ⟨rfl, b1⟩
   have k1 := z1.next b1
   go_wp2_with (with_reducible refine wpList_store_t rfl _ _ rfl (w.heap.size + 1 + 1) _ _ _ _ _ _ _ rfl rfl _ _ _ k1 ?_; intro w3 k3 ho3)
   refine bodyPost_t rfl rfl k3 rfl ?_
   refine TPost.eq ⟨_, rfl, zeroTerm_res w3 _, zback (z2.next b1) (by omega) ho3⟩ ?_ HK.out
   rw [← HN.out, if_pos H0.out]
 · have h1 : (N.sign == 0) = false := sgn_ne h0
   have HN := hide (norm_scale h0 L)
   generalize N.sign = sgn at *
   clear h0
   go_enter Tryz.func113, Tryz.ntmps113
   go_wp2_with fail
   refine hs.mono ?_
   rintro e w1 ⟨rfl, b1⟩
   have t1 := z2.next b1
   have q0 := z0.next b1
   have qn := zn.next b1
   have k1 := z1.next b1
   have x0 := q0.c0
   have x1 := q0.c1
   have x2 := q0.c2
   have hf := each_any _ L K k (j + (k + L.length)) 158 #[.pointer (some ⟨w.heap.size + 1, 0, none⟩)] (fun z => N * z) w1 (hv0.below t1) (fun W u Z hb hu => scale1_any _ u N Z (w.heap.size + 1) j (k + L.length) W ⟨t, C, q, r, rfl, Box.next qn hb⟩ ((hu0.below t1).below hb) hu (by omega) (by omega)) enters_scale1 hl hk
   clear y0 y1 zn z0 z1
   go_wp2_with fail
   refine hf.mono ?_
   rintro e w2 ⟨v1, rfl, r1, b2⟩
   obtain ⟨A1, n1, c1, s1, B1, m1, d1, rfl⟩ := r1.form
   have k2 := k1.next b2
   go_wp2_with (with_reducible refine wpList_store_t rfl _ _ rfl (w.heap.size + 1 + 1) _ _ _ _ _ _ _ rfl rfl _ _ _ k2 ?_; intro w3 k3 ho3)
   refine bodyPost_t rfl rfl k3 rfl ?_
   exact TPost.eq ⟨_, rfl, r1.only k2 ho3, zback (t1.next b2) (by omega) ho3⟩ HN.out.symm rfl
end Go.Proofs.YtdeakieenppmiaaGreatDoor
/- slices.Concat of two slices of parts. -/
namespace Go.Proofs.YtdeakieenppmiaaGreatDoor
open Go.RowKit
open Tm

theorem run_append_nothingL {P : Program} {w : World} (base : Nat) (t ty e : TypeId) (i : TypeInfo) (size : Nat) (ht : P.underlying t = some (.slice e)) (hi : P.info? e = some i)
   (v : Value) (n c : Nat) (xs : List Value) (hown : LRow e size w base v n xs) : (Builtin.append_ #[t, t] ty #[v, .slice none 0 c]).run P w = .ok v w := by
 rcases hown.2 with ⟨rfl, rfl⟩ | ⟨g, cap, cur, rfl, _, _, hnc, _⟩
 · simp [Builtin.append_, run_underlying ht, sizeOf, typeInfo, hi, Builtin.lenOf, Builtin.firstCells]
 · simp [Builtin.append_, run_underlying ht, sizeOf, typeInfo, hi, Builtin.lenOf, Builtin.firstCells, hnc, storeCells]
/-- append(xs, ys...), ys whatever parts. -/
theorem wpList_append_partsA {w : World} {ops : Array Oper} {rest : List Oper} {o : Oper} {a : Act} {Q : Exit → Act → World → Prop} (hgd : o.guard = none) (s x : Operand)
   (ho : o.op = .call { callee := .builtin .append, args := #[s, x], argTypes := #[22, 22] }) (base : Nat) (v : Value) (ps : List PV) (hs : a.eval s = v) (hown : LRow 60 3 w base v ps.length (flat ps))
   (A : Option Addr) (m c k : Nat) (qs : List PV) (hx : a.eval x = .slice A m c) (hq : PartsIn w A m qs k) (hn : ps.length + m ≤ 1099511627776) (hbase : base ≤ w.heap.size)
   (h : ∀ v' w', LRow 60 3 w' base v' (ps ++ qs).length (flat (ps ++ qs)) → w.grownBy w' v.ownBlock → wpList Tryz.prog ops Q rest (a.put o.dst v') w') : wpList Tryz.prog ops Q (o :: rest) a w := by
 rcases A with _ | ⟨b, q, sp⟩
 · obtain rfl : m = 0 := by
     rcases Nat.eq_zero_or_pos m with h0 | h0
     · exact h0
     · obtain ⟨b, o, e, -⟩ := hq.2.1 h0
       cases e
   obtain rfl : qs = [] := List.eq_nil_of_length_eq_zero hq.1
   obtain ⟨i0, hi0, hz0, hz1, hz2⟩ := info_parts part_info
   refine wpList_plain hgd fun K hK => ?_
   have hrun := run_append_nothingL (P := Tryz.prog) (w := w) base 22 o.type 60 i0 3 Tryz.underlying22 hi0 v ps.length c (flat ps) hown
   unfold Oper.wp
   rw [exec_append ho hs hx hrun]
   exact hK _ _ (h v w (by rw [List.append_nil]; exact hown) ⟨rfl, rfl, rfl, Nat.le_refl _, fun _ _ _ => rfl⟩)
 · rcases Nat.eq_zero_or_pos m with h0 | h0
   · subst h0
     obtain rfl : qs = [] := List.eq_nil_of_length_eq_zero hq.1
     obtain ⟨i0, hi0, hz0, hz1, hz2⟩ := info_parts part_info
     exact wpList_append_lrow hgd s x 22 ho base 60 i0 _ 3 40 Tryz.underlying22 hi0 hz0 hz1 hz2 rfl (by decide) part_zero_nls v ps.length (flat ps) hs hown ⟨b, q, sp⟩ 0 c [] hx rfl
       (fun j u hu => by simp at hu) (fun u hu => by cases hu) (fun u hu => by cases hu) (by unfold maxLen; omega) (by omega) hbase (fun v' w' h1 h2 => h v' w' (by rw [List.append_nil]; simpa using h1) h2)
   · obtain ⟨b', q', e, hc⟩ := hq.2.1 h0
     injection e with e
     injection e with e1 e2 e3
     subst e1 e2 e3
     exact wpList_append_parts hgd s x ho base v ps hs hown b q m c qs hx hq.1 hc hn hbase h
def ConcatPost (ps qs : List PV) (k : Nat) (w : World) (e : Ending) (w' : World) : Prop := ∃ A n c, e = .returned (.slice A n c) ∧ PartsIn w' A n (ps ++ qs) k ∧ n ≤ c ∧ c ≤ 9223372036854775807 ∧ Below w.heap.size w w'
theorem concatPart_any (gs cs : Nat) (A B : Option Addr) (n c m d k : Nat) (ps qs : List PV) (w : World) (h0 : w.cell? ⟨gs, 0, none⟩ = some (.slice A n c)) (h1 : w.cell? ⟨gs, 1, none⟩ = some (.slice B m d)) (hp : PartsIn w A n ps k) (hq : PartsIn w B m qs k) (hn : n ≤ 500000) (hm : m ≤ 500000) :
  Calls Tryz.prog 130 #[.slice (some ⟨gs, 0, none⟩) 2 cs] w (ConcatPost ps qs k w) := by
 have hpl := hide hp.1
 have hql := hide hq.1
 have hlt := World.block_lt_of_cell? w _ h0
 go_enter Tryz.func130, Tryz.ntmps130
 go_wp2_with fail
 go_loop [3, 11] (fun s i => ∃ q t : Nat, i = .int .i64 q ∧ s = .int .i64 t ∧ ((q = 0 ∧ t = 0) ∨ (q = 1 ∧ t = n) ∨ (q = 2 ∧ t = n + m))) (fun _ i => 2 - (intOf i).toNat)
 case atStart => exact ⟨0, 0, rfl, rfl, .inl ⟨rfl, rfl⟩⟩
 case round =>
  obtain ⟨q, t, rfl, rfl, ⟨rfl, rfl⟩ | ⟨rfl, rfl⟩ | ⟨rfl, rfl⟩⟩ := hrel
  · go_wp2_with fail
    go_round
    case rel => exact ⟨1, n, by go_num, by go_num, .inr (.inl ⟨rfl, rfl⟩)⟩
    case measure => simp [intOf] <;> omega
  · go_wp2_with fail
    go_round
    case rel => exact ⟨2, t + m, by go_num, by go_num, .inr (.inr ⟨rfl, rfl⟩)⟩
    case measure => simp [intOf] <;> omega
  · have hgr := fun W => growPart_any (n + m) W (by omega)
    have e2 : ((n + m : Nat) : Int) = (n : Int) + (m : Int) := by omega
    rw [e2] at hgr
    clear e2
    go_wp2_with fail
    refine (hgr _).mono ?_
    rintro e w1 ⟨A1, c1, rfl, l1, b1⟩
    have HP := hide hp
    have HQ := hide hq
    have H0 := hide h0
    have H1 := hide h1
    have HL := hide l1
    have HB := hide b1
    clear hp hq h0 h1 hgr l1 b1
    go_wp2_with fail
    go_loopw [6, 27] (fun v i wr => ∃ (q : Nat) (rs : List PV), i = .int .i64 q ∧ Hid (LRow 60 3 wr w.heap.size v rs.length (flat rs)) ∧ Hid (Below w.heap.size w wr) ∧ ((q = 0 ∧ rs = []) ∨ (q = 1 ∧ rs = ps) ∨ (q = 2 ∧ rs = ps ++ qs))) (fun _ i _ => 2 - (intOf i).toNat)
    case atStart => exact ⟨0, [], rfl, HL, HB, .inl ⟨rfl, rfl⟩⟩
    case round =>
     obtain ⟨q, rs, rfl, HR, hB2, ⟨rfl, rfl⟩ | ⟨rfl, rfl⟩ | ⟨rfl, rfl⟩⟩ := hrel
     · have y0 := (hB2.out.cell (p := ⟨gs, 0, none⟩) hlt).trans H0.out
       go_wp2_with (at_builtin; refine wpList_append_partsA rfl _ _ rfl w.heap.size _ [] rfl HR.out A n c k ps rfl (HP.out.below hB2.out) (by simp; omega) hB2.out.size ?_; intro v' w2 l2 g2)
       have HL2 := hide (show LRow 60 3 w2 w.heap.size v' ps.length (flat ps) by simpa using l2)
       have HB2 := hide (HR.out.old hB2.out g2 (Nat.le_refl _) (Nat.le_refl _))
       clear l2 g2 y0
       go_wp2_with fail
       go_roundw
       case rel => exact ⟨1, ps, by go_num, HL2, HB2, .inr (.inl ⟨rfl, rfl⟩)⟩
       case measure => simp [intOf] <;> omega
     · have y1 := (hB2.out.cell (p := ⟨gs, 1, none⟩) hlt).trans H1.out
       have hle : rs.length + m ≤ 1099511627776 := by have := hpl.out; omega
       go_wp2_with (at_builtin; refine wpList_append_partsA rfl _ _ rfl w.heap.size _ rs rfl HR.out B m d k qs rfl (HQ.out.below hB2.out) hle hB2.out.size ?_; intro v' w2 l2 g2)
       have HL2 := hide (show LRow 60 3 w2 w.heap.size v' (rs ++ qs).length (flat (rs ++ qs)) by simpa using l2)
       have HB2 := hide (HR.out.old hB2.out g2 (Nat.le_refl _) (Nat.le_refl _))
       clear l2 g2 y1
       go_wp2_with fail
       go_roundw
       case rel => exact ⟨2, rs ++ qs, by go_num, HL2, HB2, .inr (.inr ⟨rfl, rfl⟩)⟩
       case measure => simp [intOf] <;> omega
     · obtain ⟨A9, c9, rfl, h91, h92, -⟩ := HR.out.len
       have HX := hide (HR.out.parts rfl (fun p hp => by
        rcases List.mem_append.1 hp with h | h
        · exact (HP.out.2.2 p h).below hB2.out
        · exact (HQ.out.2.2 p h).below hB2.out))
       clear HR
       go_wp2_with fail
       go_ret
       exact ⟨A9, _, c9, rfl, HX.out, h91, h92, hB2.out⟩
end Go.Proofs.YtdeakieenppmiaaGreatDoor
/- term: Add, Sub, Var. -/
namespace Go.Proofs.YtdeakieenppmiaaGreatDoor
open Go.RowKit
open Tm

theorem tadd_any (v u : Value) (L M : List (Int × Int)) (K KM : Int) (k : Nat) (w0 : World) (hv : TIn w0 v L K k) (hu : TIn w0 u M KM k) (hl : L.length ≤ 500000) (hm : M.length ≤ 500000) (hk : k ≤ 109951162) :
   Calls Tryz.prog 90 #[v, u] w0 (TPost (norm (L ++ M)) (K + KM) (k + 1 + (L.length + M.length)) w0) := by
 obtain ⟨A, n, c, s, B, m, d, rfl, ⟨ps, hps, rfl⟩, hc1, hc2, hK⟩ := hv
 obtain ⟨A2, n2, c2, s2, B2, m2, d2, rfl, ⟨qs, hqs, rfl⟩, hc3, hc4, hK2⟩ := hu
 have hn : n ≤ 500000 := by have := hps.1; unfold lin at hl; rw [List.length_map] at hl; omega
 have hn2 : n2 ≤ 500000 := by have := hqs.1; unfold lin at hm; rw [List.length_map] at hm; omega
 have HLL := hide (show (lin ps).length = ps.length ∧ (lin qs).length = qs.length from ⟨by simp [lin], by simp [lin]⟩)
 obtain ⟨z0, z1, z2, z3, z4⟩ := bstart3 28 28 28 w0 #[.slice A n c, .bool s, .slice B m d] #[.slice A2 n2 c2, .bool s2, .slice B2 m2 d2] #[.slice none 0 0, .bool false, .slice none 0 0]
 go_enter Tryz.func90, Tryz.ntmps90
 go_wp2_with fail
 generalize hW0 : (((w0.alloc (.cells #[.slice A n c, .bool s, .slice B m d] 28)).alloc (.cells #[.slice A2 n2 c2, .bool s2, .slice B2 m2 d2] 28)).alloc (.cells #[.slice none 0 0, .bool false, .slice none 0 0] 28)) = W0 at *
 clear hW0
 have HPA := hide (hps.below z3)
 have HPB := hide (hqs.below z3)
 have HKA := hide (hK.below z3)
 have HKB := hide (hK2.below z3)
 have R0 := hide z2
 have T0 := hide z3
 have HPL := hide (fun W v (h : TIn W v (lin (ps ++ qs)) (K + KM) (k + 1)) => (show Calls Tryz.prog 56 #[v] W (TPost (norm (lin (ps ++ qs))) (K + KM) (k + 1 + (ps.length + qs.length)) W) from by
   have h1 := tplain_any v _ _ (k + 1) W h (by rw [lin_append, List.length_append, HLL.out.1, HLL.out.2]; have := hps.1; have := hqs.1; omega) (by omega)
   rw [lin_append, List.length_append, HLL.out.1, HLL.out.2] at h1
   rw [lin_append]
   exact h1))
 unfold TPost at HPL
 have SOF := hide (show ∀ W, Below W0.heap.size W0 W → (W.cell? ⟨w0.heap.size, 0, none⟩ = some (.slice A n c) ∧ W.cell? ⟨w0.heap.size, 1, none⟩ = some (.bool s) ∧ W.cell? ⟨w0.heap.size, 2, none⟩ = some (.slice B m d) ∧ W.cell? ⟨w0.heap.size + 1, 0, none⟩ = some (.slice A2 n2 c2) ∧ W.cell? ⟨w0.heap.size + 1, 1, none⟩ = some (.bool s2) ∧ W.cell? ⟨w0.heap.size + 1, 2, none⟩ = some (.slice B2 m2 d2)) from fun W h => ⟨(z0.next h).c0, (z0.next h).c1, (z0.next h).c2, (z1.next h).c0, (z1.next h).c1, (z1.next h).c2⟩)
 clear z0 z1 z2 z3 z4 hps hqs hK hK2
 refine wp_drawnL (by kernel_rfl) (by kernel_rfl) (by kernel_rfl) (by kernel_rfl) (fun w w' => Below w.heap.size w w') (fun j v w => match j with | 0 => v = .pointer (some ⟨w0.heap.size, 0, none⟩) | 1 => v = .slice A n c | 2 => v = .pointer (some ⟨w0.heap.size + 1, 0, none⟩) | 3 => v = .slice A2 n2 c2 | 4 => ∃ gs, v = .slice (some ⟨gs, 0, none⟩) 2 2 ∧ Box 22 w gs #[.slice A n c, .slice A2 n2 c2] | 5 => ∃ A n c, v = .slice A n c ∧ PartsIn w A n (ps ++ qs) k ∧ n ≤ c ∧ c ≤ 9223372036854775807 | 6 => v = .pointer (some ⟨w0.heap.size, 1, none⟩) | 7 => v = .agg #[.bool s, .slice B m d] | 8 => v = .pointer (some ⟨w0.heap.size + 1, 1, none⟩) | 9 => v = .agg #[.bool s2, .slice B2 m2 d2] | 10 => ∃ s B m d, v = .agg #[.bool s, .slice B m d] ∧ ZRes w (.agg #[.bool s, .slice B m d]) (K + KM) (k + 1) | 11 => TIn w v (lin (ps ++ qs)) (K + KM) (k + 1) | 12 => TRes w v (norm (lin (ps ++ qs))) (K + KM) (k + 1 + (ps.length + qs.length)) | _ => True) (fun _ _ w => Below W0.heap.size W0 w) ?_ (fun _ => bl_drewN W0 1) ?_ ?_
 · intro j v w w' hT h
   match j, h with
   | 0, h => exact h
   | 1, h => exact h
   | 2, h => exact h
   | 3, h => exact h
   | 4, h => exact (by obtain ⟨g, e, h2⟩ := h; exact ⟨g, e, h2.next hT⟩)
   | 5, h => exact (by obtain ⟨A, n, c, e, h1, h2, h3⟩ := h; exact ⟨A, n, c, e, h1.below hT, h2, h3⟩)
   | 6, h => exact h
   | 7, h => exact h
   | 8, h => exact h
   | 9, h => exact h
   | 10, h => exact (by obtain ⟨s, B, m, d, e, z⟩ := h; exact ⟨s, B, m, d, e, z.below hT⟩)
   | 11, h => exact h.below hT
   | 12, h => exact h.below hT
   | j + 13, h => trivial
 · refine ⟨?_, ?_, ?_, ?_, ?_, ?_, ?_, ?_, ?_, ?_, ?_, ?_, ?_, trivial⟩
   · intro listed σ w a hin hout hl hla hs hc hp hG hF
     refine Guarded.none rfl ?_
     have e2 : a.tmps.getD 2 undef = .pointer (some ⟨w0.heap.size, 0, none⟩) := hout 2 (outB_spec (by kernel_rfl))
     refine Does.val (.pointer (some ⟨w0.heap.size, 0, none⟩)) (w' := w) ?_ ⟨Below.refl _ _, rfl, hG⟩
     simp only [Array.getD_eq_getD_getElem?] at e2
     go_simp
   · intro listed σ w a hin hout hl hla hs hc hp hG hF
     refine Guarded.none rfl ?_
     have e5 : a.tmps.getD 5 undef = .pointer (some ⟨w0.heap.size, 0, none⟩) := (hin 0 5 rfl (hp ⟨0, .data⟩ (by simp) rfl)).trans (hF 0 (hp ⟨0, .data⟩ (by simp) rfl))
     have CC := SOF.out w hG; obtain ⟨C0, C1, C2, D0, D1, D2⟩ := CC
     refine Does.val (.slice A n c) (w' := w) ?_ ⟨Below.refl _ _, rfl, hG⟩
     go_simp
   · intro listed σ w a hin hout hl hla hs hc hp hG hF
     refine Guarded.none rfl ?_
     have e3 : a.tmps.getD 3 undef = .pointer (some ⟨w0.heap.size + 1, 0, none⟩) := hout 3 (outB_spec (by kernel_rfl))
     refine Does.val (.pointer (some ⟨w0.heap.size + 1, 0, none⟩)) (w' := w) ?_ ⟨Below.refl _ _, rfl, hG⟩
     simp only [Array.getD_eq_getD_getElem?] at e3
     go_simp
   · intro listed σ w a hin hout hl hla hs hc hp hG hF
     refine Guarded.none rfl ?_
     have e7 : a.tmps.getD 7 undef = .pointer (some ⟨w0.heap.size + 1, 0, none⟩) := (hin 2 7 rfl (hp ⟨2, .data⟩ (by simp) rfl)).trans (hF 2 (hp ⟨2, .data⟩ (by simp) rfl))
     have CC := SOF.out w hG; obtain ⟨C0, C1, C2, D0, D1, D2⟩ := CC
     refine Does.val (.slice A2 n2 c2) (w' := w) ?_ ⟨Below.refl _ _, rfl, hG⟩
     go_simp
   · intro listed σ w a hin hout hl hla hs hc hp hG hF
     refine Guarded.none rfl ?_
     have e6 : a.tmps.getD 6 undef = .slice A n c := (hin 1 6 rfl (hp ⟨1, .data⟩ (by simp) rfl)).trans (hF 1 (hp ⟨1, .data⟩ (by simp) rfl))
     have e8 : a.tmps.getD 8 undef = .slice A2 n2 c2 := (hin 3 8 rfl (hp ⟨3, .data⟩ (by simp) rfl)).trans (hF 3 (hp ⟨3, .data⟩ (by simp) rfl))
     refine Does.val (.slice (some ⟨w.heap.size, 0, none⟩) 2 2) (w' := w.alloc (.cells #[.slice A n c, .slice A2 n2 c2] 22)) ?_ ⟨bl_alloc w _, ⟨w.heap.size, rfl, Box.new _ _ _⟩, hG.next (bl_alloc w _)⟩
     simp only [Array.getD_eq_getD_getElem?] at e6 e8
     go_simp
   · intro listed σ w a hin hout hl hla hs hc hp hG hF
     refine Guarded.none rfl ?_
     have e9 := hin 4 9 rfl (hp ⟨4, .data⟩ (by simp) rfl)
     obtain ⟨g4, ev4, x4⟩ := hF 4 (hp ⟨4, .data⟩ (by simp) rfl)
     rw [ev4] at e9
     refine Does.call ?_ (concatPart_any g4 2 A A2 n c n2 c2 k ps qs w (x4.cell 0 _ rfl) (x4.cell 1 _ rfl) (HPA.out.below hG) (HPB.out.below hG) hn hn2) ?_
     · go_simp
     · rintro e w' ⟨A, n, c, rfl, hp, h1, h2, hb⟩
       exact ⟨_, rfl, hb, ⟨A, n, c, rfl, hp, h1, h2⟩, hG.next hb⟩
   · intro listed σ w a hin hout hl hla hs hc hp hG hF
     refine Guarded.none rfl ?_
     have e2 : a.tmps.getD 2 undef = .pointer (some ⟨w0.heap.size, 0, none⟩) := hout 2 (outB_spec (by kernel_rfl))
     refine Does.val (.pointer (some ⟨w0.heap.size, 1, none⟩)) (w' := w) ?_ ⟨Below.refl _ _, rfl, hG⟩
     simp only [Array.getD_eq_getD_getElem?] at e2
     go_simp
   · intro listed σ w a hin hout hl hla hs hc hp hG hF
     refine Guarded.none rfl ?_
     have e11 : a.tmps.getD 11 undef = .pointer (some ⟨w0.heap.size, 1, none⟩) := (hin 6 11 rfl (hp ⟨6, .data⟩ (by simp) rfl)).trans (hF 6 (hp ⟨6, .data⟩ (by simp) rfl))
     have CC := SOF.out w hG; obtain ⟨C0, C1, C2, D0, D1, D2⟩ := CC
     refine Does.val (.agg #[.bool s, .slice B m d]) (w' := w) ?_ ⟨Below.refl _ _, rfl, hG⟩
     go_simp
   · intro listed σ w a hin hout hl hla hs hc hp hG hF
     refine Guarded.none rfl ?_
     have e3 : a.tmps.getD 3 undef = .pointer (some ⟨w0.heap.size + 1, 0, none⟩) := hout 3 (outB_spec (by kernel_rfl))
     refine Does.val (.pointer (some ⟨w0.heap.size + 1, 1, none⟩)) (w' := w) ?_ ⟨Below.refl _ _, rfl, hG⟩
     simp only [Array.getD_eq_getD_getElem?] at e3
     go_simp
   · intro listed σ w a hin hout hl hla hs hc hp hG hF
     refine Guarded.none rfl ?_
     have e13 : a.tmps.getD 13 undef = .pointer (some ⟨w0.heap.size + 1, 1, none⟩) := (hin 8 13 rfl (hp ⟨8, .data⟩ (by simp) rfl)).trans (hF 8 (hp ⟨8, .data⟩ (by simp) rfl))
     have CC := SOF.out w hG; obtain ⟨C0, C1, C2, D0, D1, D2⟩ := CC
     refine Does.val (.agg #[.bool s2, .slice B2 m2 d2]) (w' := w) ?_ ⟨Below.refl _ _, rfl, hG⟩
     go_simp
   · intro listed σ w a hin hout hl hla hs hc hp hG hF
     refine Guarded.none rfl ?_
     have e12 : a.tmps.getD 12 undef = .agg #[.bool s, .slice B m d] := (hin 7 12 rfl (hp ⟨7, .data⟩ (by simp) rfl)).trans (hF 7 (hp ⟨7, .data⟩ (by simp) rfl))
     have e14 : a.tmps.getD 14 undef = .agg #[.bool s2, .slice B2 m2 d2] := (hin 9 14 rfl (hp ⟨9, .data⟩ (by simp) rfl)).trans (hF 9 (hp ⟨9, .data⟩ (by simp) rfl))
     refine Does.call ?_ (add_z (.agg #[.bool s, .slice B m d]) (.agg #[.bool s2, .slice B2 m2 d2]) K KM k w (HKA.out.below hG) (HKB.out.below hG) (by omega)) ?_
     · go_simp
     · rintro e w' ⟨v, rfl, z, hb⟩
       exact ⟨_, rfl, hb, (by obtain ⟨s, B, m, d, rfl⟩ := z.form; exact ⟨s, B, m, d, rfl, z⟩), hG.next hb⟩
   · intro listed σ w a hin hout hl hla hs hc hp hG hF
     refine Guarded.none rfl ?_
     have e10 := hin 5 10 rfl (hp ⟨5, .data⟩ (by simp) rfl)
     obtain ⟨A5, n5, c5, ev5, p5, q5, r5⟩ := hF 5 (hp ⟨5, .data⟩ (by simp) rfl)
     rw [ev5] at e10
     have e15 := hin 10 15 rfl (hp ⟨10, .data⟩ (by simp) rfl)
     obtain ⟨s10, B10, m10, d10, ev10, z10⟩ := hF 10 (hp ⟨10, .data⟩ (by simp) rfl)
     rw [ev10] at e15
     refine Does.val (.agg #[.slice A5 n5 c5, .bool s10, .slice B10 m10 d10]) (w' := w) ?_ ⟨Below.refl _ _, ⟨A5, n5, c5, s10, B10, m10, d10, rfl, ⟨_, p5.mono (by omega), rfl⟩, q5, r5, z10.in_⟩, hG⟩
     simp only [Array.getD_eq_getD_getElem?] at e10 e15
     go_simp
   · intro listed σ w a hin hout hl hla hs hc hp hG hF
     refine Guarded.none rfl ?_
     have e16 := hin 11 16 rfl (hp ⟨11, .data⟩ (by simp) rfl)
     have z11 := hF 11 (hp ⟨11, .data⟩ (by simp) rfl)
     refine Does.call ?_ (HPL.out w _ z11) ?_
     · go_simp
     · rintro e w' ⟨v, rfl, z, hb⟩
       exact ⟨_, rfl, hb, z, hG.next hb⟩
 · intro o ho
   injection ho with ho; subst ho
   intro listed σ w a hall hin hout hG hF
   refine Guarded.none rfl ?_
   have e4 : a.tmps.getD 4 undef = .pointer (some ⟨w0.heap.size + 1 + 1, 0, none⟩) := hout 4 (outL (by kernel_rfl))
   have e17 := hin 12 17 rfl (by decide)
   have z12 := hF 12 (by decide)
   have z12 := hF 12 (by decide)
   obtain ⟨A8, n8, c8, s8, B8, m8, d8, ev8⟩ := TRes.form z12
   rw [ev8] at e17 z12
   have HR8 := hide (R0.out.next hG)
   have HT8 := hide (T0.out.next hG)
   refine Does.store_box (T := 28) (cells := #[.slice A8 n8 c8, .bool s8, .slice B8 m8 d8]) rfl e4 e17 HR8.out (by kernel_rfl) rfl (by simp [Value.oneCell']) (fun w2 x9 o9 => ?_)
   rw [show fin _ σ undef _ = (Act.put (Act.put (Act.put (Act.put (Act.put (Act.put (Act.put (Act.put (Act.put (Act.put (Act.put (Act.put (Act.put (Act.put _ (some 5) (σ 0)) (some 6) (σ 1)) (some 7) (σ 2)) (some 8) (σ 3)) (some 9) (σ 4)) (some 10) (σ 5)) (some 11) (σ 6)) (some 12) (σ 7)) (some 13) (σ 8)) (some 14) (σ 9)) (some 15) (σ 10)) (some 16) (σ 11)) (some 17) (σ 12)) none undef) from (fin_all hall).trans rfl]
   simp only [Act.put, List.setIfInBounds_toArray, List.set_cons_zero, List.set_cons_succ]
   have HZ8 := hide (z12.only HR8.out o9)
   have HO := hide o9
   generalize σ 0 = tt0 at *; generalize σ 1 = tt1 at *; generalize σ 2 = tt2 at *; generalize σ 3 = tt3 at *; generalize σ 4 = tt4 at *; generalize σ 5 = tt5 at *; generalize σ 6 = tt6 at *; generalize σ 7 = tt7 at *; generalize σ 8 = tt8 at *; generalize σ 9 = tt9 at *; generalize σ 10 = tt10 at *; generalize σ 11 = tt11 at *; generalize σ 12 = tt12 at *
   clear hF hG hall hin hout SOF z12 o9 e4 e17 ev8
   go_wp2_with fail
   refine bodyPost_t rfl rfl x9 rfl ?_
   exact TPost.eq (TPost.mono ⟨_, rfl, HZ8.out, zback HT8.out (by omega) HO.out⟩ (by have := HLL.out; omega)) (by rw [lin_append]) rfl
theorem tsub_any (v u : Value) (L M : List (Int × Int)) (K KM : Int) (k : Nat) (w0 : World) (hv : TIn w0 v L K k) (hu : TIn w0 u M KM k) (hl : L.length ≤ 500000) (hm : M.length ≤ 500000) (hk : k ≤ 10995116) :
   Calls Tryz.prog 50 #[v, u] w0 (TPost (norm (L ++ M.map fun p => (p.1, -1 * p.2))) (K - KM) (k + M.length + 1 + (L.length + M.length)) w0) := by
 have hv0 := hv
 have hu0 := hu
 obtain ⟨A, n, c, s, B, m, d, rfl, -⟩ := hv
 obtain ⟨A2, n2, c2, s2, B2, m2, d2, rfl, -⟩ := hu
 obtain ⟨z0, z1, z2, z3, z4⟩ := bstart3 28 28 28 w0 #[.slice A n c, .bool s, .slice B m d] #[.slice A2 n2 c2, .bool s2, .slice B2 m2 d2] #[.slice none 0 0, .bool false, .slice none 0 0]
 go_enter Tryz.func50, Tryz.ntmps50
 go_wp2_with fail
 generalize hW0 : (((w0.alloc (.cells #[.slice A n c, .bool s, .slice B m d] 28)).alloc (.cells #[.slice A2 n2 c2, .bool s2, .slice B2 m2 d2] 28)).alloc (.cells #[.slice none 0 0, .bool false, .slice none 0 0] 28)) = W0 at *
 clear hW0
 have HB := hide (hu0.below z3)
 have HA := hide (hv0.below z3)
 have R0 := hide z2
 have T0 := hide z3
 have HAD := hide (fun W v (h : TRes W v (norm (M.map fun p => (p.1, -1 * p.2))) (-KM) (k + M.length)) (hb : Below W0.heap.size W0 W) => (show Calls Tryz.prog 90 #[.agg #[.slice A n c, .bool s, .slice B m d], v] W (TPost (norm (L ++ norm (M.map fun p => (p.1, -1 * p.2)))) (K + -KM) (k + M.length + 1 + (L.length + M.length)) W) from by
   have hq := norm_length (M.map fun p => (p.1, -1 * p.2))
   rw [List.length_map] at hq
   exact (tadd_any _ v L _ K (-KM) (k + M.length) W ((HA.out.below hb).mono (by omega)) h.in_ hl (by omega) (by omega)).mono (fun e w' h => h.mono (by omega))))
 unfold TPost at HAD
 have SOF := hide (show ∀ W, Below W0.heap.size W0 W → (W.cell? ⟨w0.heap.size, 0, none⟩ = some (.slice A n c) ∧ W.cell? ⟨w0.heap.size, 1, none⟩ = some (.bool s) ∧ W.cell? ⟨w0.heap.size, 2, none⟩ = some (.slice B m d) ∧ W.cell? ⟨w0.heap.size + 1, 0, none⟩ = some (.slice A2 n2 c2) ∧ W.cell? ⟨w0.heap.size + 1, 1, none⟩ = some (.bool s2) ∧ W.cell? ⟨w0.heap.size + 1, 2, none⟩ = some (.slice B2 m2 d2)) from fun W h => ⟨(z0.next h).c0, (z0.next h).c1, (z0.next h).c2, (z1.next h).c0, (z1.next h).c1, (z1.next h).c2⟩)
 clear z0 z1 z2 z3 z4 hv0 hu0
 refine wp_drawnL (by kernel_rfl) (by kernel_rfl) (by kernel_rfl) (by kernel_rfl) (fun w w' => Below w.heap.size w w') (fun j v w => match j with | 0 => v = .agg #[.slice A n c, .bool s, .slice B m d] | 1 => v = .agg #[.slice A2 n2 c2, .bool s2, .slice B2 m2 d2] | 2 => TRes w v (norm (M.map fun p => (p.1, -1 * p.2))) (-KM) (k + M.length) | 3 => TRes w v (norm (L ++ norm (M.map fun p => (p.1, -1 * p.2)))) (K + -KM) (k + M.length + 1 + (L.length + M.length)) | _ => True) (fun _ _ w => Below W0.heap.size W0 w) ?_ (fun _ => bl_drewN W0 1) ?_ ?_
 · intro j v w w' hT h
   match j, h with
   | 0, h => exact h
   | 1, h => exact h
   | 2, h => exact h.below hT
   | 3, h => exact h.below hT
   | j + 4, h => trivial
 · refine ⟨?_, ?_, ?_, ?_, trivial⟩
   · intro listed σ w a hin hout hl hla hs hc hp hG hF
     refine Guarded.none rfl ?_
     have e2 : a.tmps.getD 2 undef = .pointer (some ⟨w0.heap.size, 0, none⟩) := hout 2 (outB_spec (by kernel_rfl))
     have CC := SOF.out w hG; obtain ⟨C0, C1, C2, D0, D1, D2⟩ := CC
     refine Does.val (.agg #[.slice A n c, .bool s, .slice B m d]) (w' := w) ?_ ⟨Below.refl _ _, rfl, hG⟩
     go_simp
   · intro listed σ w a hin hout hl hla hs hc hp hG hF
     refine Guarded.none rfl ?_
     have e3 : a.tmps.getD 3 undef = .pointer (some ⟨w0.heap.size + 1, 0, none⟩) := hout 3 (outB_spec (by kernel_rfl))
     have CC := SOF.out w hG; obtain ⟨C0, C1, C2, D0, D1, D2⟩ := CC
     refine Does.val (.agg #[.slice A2 n2 c2, .bool s2, .slice B2 m2 d2]) (w' := w) ?_ ⟨Below.refl _ _, rfl, hG⟩
     go_simp
   · intro listed σ w a hin hout hl hla hs hc hp hG hF
     refine Guarded.none rfl ?_
     have e6 : a.tmps.getD 6 undef = .agg #[.slice A2 n2 c2, .bool s2, .slice B2 m2 d2] := (hin 1 6 rfl (hp ⟨1, .data⟩ (by simp) rfl)).trans (hF 1 (hp ⟨1, .data⟩ (by simp) rfl))
     refine Does.call ?_ (tneg_any _ M KM k w (HB.out.below hG) (by omega) (by omega)) ?_
     · go_simp
     · rintro e w' ⟨v, rfl, z, hb⟩
       exact ⟨_, rfl, hb, z, hG.next hb⟩
   · intro listed σ w a hin hout hl hla hs hc hp hG hF
     refine Guarded.none rfl ?_
     have e5 : a.tmps.getD 5 undef = .agg #[.slice A n c, .bool s, .slice B m d] := (hin 0 5 rfl (hp ⟨0, .data⟩ (by simp) rfl)).trans (hF 0 (hp ⟨0, .data⟩ (by simp) rfl))
     have e7 := hin 2 7 rfl (hp ⟨2, .data⟩ (by simp) rfl)
     have z2 := hF 2 (hp ⟨2, .data⟩ (by simp) rfl)
     refine Does.call ?_ (HAD.out w _ z2 hG) ?_
     · go_simp
     · rintro e w' ⟨v, rfl, z, hb⟩
       exact ⟨_, rfl, hb, z, hG.next hb⟩
 · intro o ho
   injection ho with ho; subst ho
   intro listed σ w a hall hin hout hG hF
   refine Guarded.none rfl ?_
   have e4 : a.tmps.getD 4 undef = .pointer (some ⟨w0.heap.size + 1 + 1, 0, none⟩) := hout 4 (outL (by kernel_rfl))
   have e8 := hin 3 8 rfl (by decide)
   have z3 := hF 3 (by decide)
   have z3 := hF 3 (by decide)
   obtain ⟨A8, n8, c8, s8, B8, m8, d8, ev8⟩ := TRes.form z3
   rw [ev8] at e8 z3
   have HR8 := hide (R0.out.next hG)
   have HT8 := hide (T0.out.next hG)
   refine Does.store_box (T := 28) (cells := #[.slice A8 n8 c8, .bool s8, .slice B8 m8 d8]) rfl e4 e8 HR8.out (by kernel_rfl) rfl (by simp [Value.oneCell']) (fun w2 x9 o9 => ?_)
   rw [show fin _ σ undef _ = (Act.put (Act.put (Act.put (Act.put (Act.put _ (some 5) (σ 0)) (some 6) (σ 1)) (some 7) (σ 2)) (some 8) (σ 3)) none undef) from (fin_all hall).trans rfl]
   simp only [Act.put, List.setIfInBounds_toArray, List.set_cons_zero, List.set_cons_succ]
   have HZ8 := hide (z3.only HR8.out o9)
   have HO := hide o9
   generalize σ 0 = tt0 at *; generalize σ 1 = tt1 at *; generalize σ 2 = tt2 at *; generalize σ 3 = tt3 at *
   clear hF hG hall hin hout SOF z3 o9 e4 e8 ev8
   go_wp2_with fail
   refine bodyPost_t rfl rfl x9 rfl ?_
   exact TPost.eq ⟨_, rfl, HZ8.out, zback HT8.out (by omega) HO.out⟩ (norm_append_congr (fun _ => rfl) (fun x => by rw [norm_coef]; simp)) (by omega)
end Go.Proofs.YtdeakieenppmiaaGreatDoor
