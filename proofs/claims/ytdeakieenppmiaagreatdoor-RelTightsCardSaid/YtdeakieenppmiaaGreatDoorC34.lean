/- Texts of one seat, put together: PutAll Put. -/
import Derived.Test.YtdeakieenppmiaaGreatDoorC33
import Derived.Test.YtdeakieenppmiaaGreatDoorC21
import Derived.Test.YtdeakieenppmiaaGreatDoorC25
set_option linter.unusedVariables false
set_option linter.unusedSimpArgs false
set_option maxRecDepth 100000
set_option maxHeartbeats 16000000
/- term.PutAll. -/
namespace Go.Proofs.YtdeakieenppmiaaGreatDoor
open Go.RowKit Go.Maps
open Tm

theorem MapI.only {w w' : World} {b n g : Nat} {f : Int → Option Nat} (h : MapI w b n f) (ho : Only g w w') (hne : b ≠ g) : MapI w' b n f := by
 have hlt := h.lt
 obtain ⟨D, ⟨es, clock, h1, h2⟩, h3⟩ := h
 exact ⟨D, ⟨es, clock, (ho.gb.block b hlt (fun e => hne (by injection e))).trans h1, h2⟩, h3⟩
theorem at_int {D : DataW Unit} {x c : Int} {i : Nat} (h : D.atKey (.int .i64 x) (.lit (.int .i64 0)) = .lit (.int .i64 c)) (h1 : ∀ z, D.atKey (.int .i64 x) z = .lit (.int .i64 i)) : c = (i : Int) := by
 rw [h1] at h
 injection h with h
 injection h with _ h
 exact h.symm
def pairs (ts : List TV) : List (List (Int × Int) × Int) := ts.map fun t => (t.L, t.K)
theorem pairs_get (ts : List TV) (i : Nat) (t : TV) (d : List (Int × Int) × Int) (h : ts[i]? = some t) : (pairs ts).getD i d = (t.L, t.K) := by
 unfold pairs
 rw [List.getD_eq_getElem?_getD, List.getElem?_map, h]; rfl
theorem pairs_out (ts : List TV) (i : Nat) (d : List (Int × Int) × Int) (h : ts.length ≤ i) : (pairs ts).getD i d = d := by
 unfold pairs
 rw [List.getD_eq_getElem?_getD, List.getElem?_eq_none (by rw [List.length_map]; exact h)]; rfl
theorem place_none {vs : List Int} {ts : List (List (Int × Int) × Int)} {v : Int} (h : firstAt v vs = none) : place vs ts v = ([(v, 1)], 0) := by unfold place; rw [h]
theorem place_out {vs : List Int} {ts : List TV} {v : Int} {i : Nat} (h : firstAt v vs = some i) (hi : ts.length ≤ i) : place vs (pairs ts) v = ([(v, 1)], 0) := by unfold place; rw [h]; exact pairs_out ts i _ hi
theorem place_at {vs : List Int} {ts : List TV} {v : Int} {i : Nat} {t : TV} (h : firstAt v vs = some i) (hi : ts[i]? = some t) : place vs (pairs ts) v = (t.L, t.K) := by unfold place; rw [h]; exact pairs_get ts i t _ hi
theorem putL_take_succ (vs : List Int) (ts : List (List (Int × Int) × Int)) (L : List (Int × Int)) (q : Nat) (u c : Int) (h : L[q]? = some (u, c)) : putL vs ts (L.take (q + 1)) = putL vs ts (L.take q) ++ ((place vs ts u).1.map fun r => (r.1, c * r.2)) := by
 rw [List.take_add_one, h, putL_append]
 simp [putL]
theorem putK_take_succ (vs : List Int) (ts : List (List (Int × Int) × Int)) (L : List (Int × Int)) (q : Nat) (u c : Int) (h : L[q]? = some (u, c)) : putK vs ts (L.take (q + 1)) = putK vs ts (L.take q) + c * (place vs ts u).2 := by
 rw [List.take_add_one, h, putK_append]
 simp [putK]
theorem norm_range {L : List (Int × Int)} {b : Int} (h : ∀ p ∈ L, p.1 ≤ b) : ∀ p ∈ norm L, 0 ≤ p.1 ∧ p.1 ≤ b := by
 intro p hp
 have h1 : p.1 ∈ vars L := List.mem_map.2 ⟨p, hp, rfl⟩
 have h2 := (vars_up L).gt p.1 h1
 obtain ⟨q, hq, e⟩ := List.mem_map.1 (coef_ne_mem L p.1 ((mem_vars L p.1).1 h1))
 have h3 := h q hq
 omega
theorem TRes.opened {w : World} {A B : Option Addr} {n c m d k : Nat} {s : Bool} {L : List (Int × Int)} {K : Int} (h : TRes w (.agg #[.slice A n c, .bool s, .slice B m d]) L K k) : PRes w A n L k ∧ n ≤ c ∧ c ≤ 9223372036854775807 ∧ ZRes w (.agg #[.bool s, .slice B m d]) K k := by
 obtain ⟨A', n', c', s', B', m', d', e, h1, h2, h3, h4⟩ := h
 have e2 : A' = A ∧ n' = n ∧ c' = c ∧ s' = s ∧ B' = B ∧ m' = m ∧ d' = d := by simpa [eq_comm, and_assoc] using e
 obtain ⟨rfl, rfl, rfl, rfl, rfl, rfl, rfl⟩ := e2
 exact ⟨h1, h2, h3, h4⟩
/-- How far the loop of PutAll has come. -/
def PutRel (W2 : World) (g : Nat) (R : List (Int × Int)) (K : Int) (kk q : Nat) (wr : World) : Prop :=
 ∃ (rs : List PV) (A : Option Addr) (c : Nat) (s : Bool) (B : Option Addr) (m d : Nat), Box 28 wr g #[.slice A rs.length c, .bool s, .slice B m d] ∧ LRow 60 3 wr W2.heap.size (.slice A rs.length c) rs.length (flat rs) ∧
  (∀ v, coef (lin rs) v = coef R v) ∧ (∀ p ∈ rs, ZIn wr p.num p.Z kk) ∧ ZIn wr (.agg #[.bool s, .slice B m d]) K (kk + q) ∧ Only g W2 wr ∧ rs.length ≤ 1000 * q
/-- An append to the parts in box g. -/
theorem put_app {W2 W w : World} {g l c m d : Nat} {A B : Option Addr} {s : Bool} {rs qs : List PV} {v' : Value} (xg : Box 28 W g #[.slice A l c, .bool s, .slice B m d]) (lr : LRow 60 3 W W2.heap.size (.slice A l c) rs.length (flat rs)) (oW : Only g W2 W)
  (l2 : LRow 60 3 w W2.heap.size v' (rs ++ qs).length (flat (rs ++ qs))) (g1 : W.grownBy w (Value.slice A l c).ownBlock) :
  ∃ A2 c2, v' = .slice A2 (rs ++ qs).length c2 ∧ Box 28 w g #[.slice A l c, .bool s, .slice B m d] ∧ Kp W w ∧ Only g W2 w ∧
   Box 28 (w.setCell ⟨g, 0, none⟩ (.slice A2 (rs ++ qs).length c2)) g #[.slice A2 (rs ++ qs).length c2, .bool s, .slice B m d] ∧ LRow 60 3 (w.setCell ⟨g, 0, none⟩ (.slice A2 (rs ++ qs).length c2)) W2.heap.size (.slice A2 (rs ++ qs).length c2) (rs ++ qs).length (flat (rs ++ qs)) ∧
   Kp W (w.setCell ⟨g, 0, none⟩ (.slice A2 (rs ++ qs).length c2)) ∧ Only g W2 (w.setCell ⟨g, 0, none⟩ (.slice A2 (rs ++ qs).length c2)) := by
 obtain ⟨A2, c2, rfl, -, -, -⟩ := l2.len
 have hne : some g ≠ (Value.slice A l c).ownBlock := fun e => lr.offTerm xg e.symm
 have x9 := xg.grown g1 hne
 have o9 := only_set1 w g 0 (.slice A2 (rs ++ qs).length c2)
 have hk := x9.kp (nlT _ _ _ _ _ _ _) o9
 have hkp := lr.kp g1
 have oW9 : Only g W2 w := ⟨g1.os.trans oW.os, g1.tape.trans oW.tape, g1.output.trans oW.output, Nat.le_trans oW.size g1.size, fun b hb hbn =>
  (g1.block b (Nat.lt_of_lt_of_le hb oW.size) (fun e => by have := (lr.lt b e.symm).1; omega)).trans (oW.block b hb hbn)⟩
 exact ⟨A2, c2, rfl, x9, hkp, oW9, x9.set_0 _, l2.onlyTerm x9 o9, hkp.trans hk, oW9.trans o9⟩
theorem Box.set_12 {T : TypeId} {w : World} {g : Nat} {x y z : Value} (h : Box T w g #[x, y, z]) (y' z' : Value) : Box T ((w.setCell ⟨g, 1, none⟩ y').setCell ⟨g, 2, none⟩ z') g #[x, y', z'] := by
 unfold Box at h ⊢
 simp [World.setCell, Array.getElem?_modify, h]
theorem only_set12 (w : World) (g : Nat) (y z : Value) : Only g w ((w.setCell ⟨g, 1, none⟩ y).setCell ⟨g, 2, none⟩ z) := ((Only.refl g w).setCell 1 y).setCell 2 z
theorem World.size_alloc2 (w : World) (p : PV) : w.heap.size ≤ (w.alloc (.cells #[.int .i64 p.v, .bool p.s, .slice p.B p.m p.d] 60)).heap.size ∧ (w.alloc (.cells #[.int .i64 p.v, .bool p.s, .slice p.B p.m p.d] 60)).heap.size ≤ ((w.alloc (.cells #[.int .i64 p.v, .bool p.s, .slice p.B p.m p.d] 60)).alloc (.cells #[.int .i64 p.v, .bool p.s, .slice p.B p.m p.d] 60)).heap.size := by
 refine ⟨by rw [size_alloc]; omega, ?_⟩
 rw [size_alloc (w.alloc _)]
 omega
theorem tputAll_any (v : Value) (L : List (Int × Int)) (K : Int) (k : Nat) (VA : Option Addr) (vn vc : Nat) (vs : List Int) (TA : Option Addr) (tn tc : Nat) (ts : List TV) (kt : Nat) (w0 : World) (hv : TIn w0 v L K k) (hvs : IIn w0 VA vn vs) (hvn : vn ≤ 1099511627) (hwf : ∀ x ∈ vs, -9223372036854775808 ≤ x ∧ x ≤ 9223372036854775807)
  (hts : TermsIn w0 TA tn ts kt) (htn : tn ≤ 9223372036854775807) (htl : ∀ t ∈ ts, t.L.length ≤ 1000) (hl : L.length ≤ 1000) (hrg : ∀ p ∈ L, p.1 ≤ 9223372036854775807) (hk : k ≤ 100000000) (hkt : kt ≤ 100000000) :
  Calls Tryz.prog 67 #[v, .slice VA vn vc, .slice TA tn tc] w0 (TPost (norm (putL vs (pairs ts) (norm L))) (K + putK vs (pairs ts) (norm L)) (k + kt + 1010000) w0) := by
 obtain ⟨A, n, c, s, B, m, d, rfl, hp, hc1, hc2, hK⟩ := hv
 have hn := hp.len
 obtain ⟨z0, z1, z2, z3⟩ := bstart2 28 28 w0 #[.slice A n c, .bool s, .slice B m d] #[.slice none 0 0, .bool false, .slice none 0 0]
 have hfp := firstPlaces_any VA vn vc vs _ (hvs.below z2) hvn hwf
 have HNL := hide (norm_length L)
 have HVS := hide hvs.1
 have HRG := hide (norm_range hrg)
 rw [hn] at hl
 have HN := hide hn
 obtain ⟨kk, hkk0⟩ : ∃ kk, kk = k + kt + 2000 := ⟨_, rfl⟩
 have hkk1 : k + kt + 2000 ≤ kk := by omega
 have hkk2 : kk ≤ k + kt + 2000 := by omega
 clear hn hrg hwf hkk0
 go_enter Tryz.func67, Tryz.ntmps67
 go_wp2_with fail
 refine hfp.mono ?_
 rintro e w1 ⟨mb, rfl, mm, b1⟩
 have HT1 := hide (z2.next b1)
 have q0 := z0.next b1
 have q1 := z1.next b1
 have hw1 : w0.heap.size + 1 + 1 ≤ w1.heap.size := by have := b1.size; omega
 obtain ⟨y0, y1, y2⟩ := bstart1 28 w1 #[.slice none 0 0, .bool s, .slice B m d]
 have hpl := plain_any A n c L k _ ((hp.below HT1.out).below y1) hc1 hc2 (by omega) (by omega)
 have HM1 := hide (mm.below y1)
 have HMB := hide mm.lt
 have hK1 := hide ((hK.below HT1.out).below y1)
 have p0 := q0.c0
 have p1 := q0.c1
 have p2 := q0.c2
 have HT2 := hide (HT1.out.next y1)
 have HQ1 := hide (q1.next y1)
 have r0 := (q0.next y1).c0
 have HP := hide hp
 have HTS := hide hts
 have HTL := hide htl
 have HY0 := hide y0
 clear hfp z0 z1 z2 z3 b1 mm q0 q1 hp hts htl hvs hK y0 y1
 go_wp2_with fail
 refine hpl.mono ?_
 rintro e W2 ⟨A1, n1, c1, rfl, pin, h11, h12, b2⟩
 have hn1 : n1 ≤ 1000 := by have := pin.len; have := HNL.out; have := HN.out; omega
 have HT := hide (HT2.out.next b2)
 have HX2 := hide (HY0.out.next b2)
 have HP1 := hide pin
 have HM2 := hide (HM1.out.below b2)
 have HR2 := hide (HQ1.out.next b2)
 have hg8 : w1.heap.size < W2.heap.size := by have := b2.size; omega
 have HS := hide (show PutRel W2 w1.heap.size (putL vs (pairs ts) ((norm L).take 0)) (K + putK vs (pairs ts) ((norm L).take 0)) kk 0 W2 from ⟨[], none, 0, s, B, m, d, HX2.out, LRow.nil _ _ _ _, fun v => rfl, (fun p hp => by cases hp), by simpa [putK] using ((hK1.out.below b2).mono (show k ≤ kk by omega)), Only.refl _ _, by simp⟩)
 clear p0 p1 p2 r0 hpl pin b2
 go_wp2_with fail
 go_loopw [23] (fun i wr => ∃ q : Nat, q ≤ n1 ∧ i = .int .i64 q ∧ Hid (PutRel W2 w1.heap.size (putL vs (pairs ts) ((norm L).take q)) (K + putK vs (pairs ts) ((norm L).take q)) kk q wr)) (fun i _ => n1 - (intOf i).toNat)
 case atStart => exact ⟨0, Nat.zero_le _, rfl, HS⟩
 case round =>
  obtain ⟨q, hq, rfl, HR⟩ := hrel
  obtain ⟨rs, A4, c4, s4, B4, m4, d4, xg, lr, hco, hrz, zK, oW, hrl⟩ := HR.out
  have hT : Below w0.heap.size w0 wr := HT.out.trans (oW.below (by omega) (by omega))
  by_cases hqn : q < n1
  · obtain ⟨bb, o, p, rfl, hlt, hLp, c0, c1x, c2, hz⟩ := (HP1.out.keep oW (HX2.out.kp (nlT _ _ _ _ _ _ _) oW) (HP1.out.offTerm HX2.out)).at_ hqn
    obtain ⟨hv0, hv1⟩ := HRG.out _ (List.mem_of_getElem? hLp)
    have hkey := keyOf_int_mk Tryz.underlying3 (wf_int (show -9223372036854775808 ≤ p.v by dsimp only at hv0; omega) hv1)
    have y1 := bl_alloc wr (.cells #[.int .i64 p.v, .bool p.s, .slice p.B p.m p.d] 60)
    have hM := (HM2.out.only oW (by have := HMB.out; omega)).below y1
    obtain ⟨D, hown, h0, h1⟩ := hM
    have HL := hide (putL_take_succ vs (pairs ts) (norm L) q _ _ hLp)
    have HKS := hide (putK_take_succ vs (pairs ts) (norm L) q _ _ hLp)
    have XG := hide (xg.next y1)
    have LR := hide (lr.below y1)
    have HCO := hide hco
    have HRZ := hide (show ∀ p' ∈ rs, ZIn _ p'.num p'.Z kk from fun p' hp' => (hrz p' hp').below y1)
    have ZK := hide (zK.below y1)
    have OW := hide (oW.next y1)
    have HZ := hide (hz.below y1)
    have HTW := hide (hT.next y1)
    have hle : rs.length + 1 ≤ 1099511627776 := by omega
    have HSZ := hide (show W2.heap.size ≤ wr.heap.size from oW.size)
    have hgr : w1.heap.size < wr.heap.size := xg.lt
    by_cases hin : ∃ i t, firstAt p.v vs = some i ∧ ts[i]? = some t
    · obtain ⟨i, t, hf, hti⟩ := hin
      have hit : i < tn := by rw [← HTS.out.1]; exact (List.getElem?_eq_some_iff.1 hti).1
      have hhas : Maps.has D (.int .i64 p.v) = true := by have h2 : Maps.has D (.int .i64 p.v) = (firstAt p.v vs).isSome := (h1 p.v).1; rw [h2, hf]; rfl
      have HAT := hide (show ∀ z, D.atKey (.int .i64 p.v) z = .lit (.int .i64 i) from fun z => (h1 p.v).2 i z hf)
      have HPL := hide (place_at (ts := ts) hf hti)
      obtain ⟨tb, ot, t', rfl, hti', e0, e1, e2, htin⟩ := (HTS.out.below HTW.out).at_ hit
      obtain rfl : t' = t := by rw [hti] at hti'; injection hti' with hti'; exact hti'.symm
      have htl := HTL.out t' (List.mem_of_getElem? hti)
      have HTI := hide htin
      have hlt6 := World.block_lt_of_cell? _ _ e0
      have E0 := hide e0
      have E1 := hide e1
      have E2 := hide e2
      have y0 := Box.new 60 wr #[.int .i64 p.v, .bool p.s, .slice p.B p.m p.d]
      clear hf hti hti' h1 h0 hLp xg lr hco hrz zK oW hz hT HR htin e0 e1 e2 y1 hv0
      rename TV => t
      go_wp2_with (at_lookup; refine wpList_lookup_own_ok_int _ rfl _ _ 135 rfl 3 3 .i64 mapLaw Tryz.underlying135 Tryz.underlying3 (mapZero _) mb vs.length D rfl hown _ _ rfl hkey ?_; intro ci hat hwc; obtain rfl := at_int hat HAT.out; clear hat hwc)
      generalize hW6 : (wr.alloc (.cells #[.int .i64 p.v, .bool p.s, .slice p.B p.m p.d] 60)) = W6 at *
      have hw6 : wr.heap.size < W6.heap.size := by rw [← hW6, size_alloc]; omega
      clear hW6 hhas hown hkey
      have HSC := hide (fun W (h : Below W6.heap.size W6 W) => (tscale_any _ (.agg #[.bool p.s, .slice p.B p.m p.d]) t.L t.K p.Z kt (k + n) W (HTI.out.below h) (HZ.out.below h) (by omega) (by omega) (by omega)).mono (fun e w' (q : TPost _ _ _ _ _ _) => show TPost (norm (t.L.map fun r => (r.1, p.Z * r.2))) (p.Z * t.K) kk W e w' from q.mono (by omega)))
      unfold TPost at HSC
      have SOF := hide (show ∀ W, Below W6.heap.size W6 W → (W.cell? ⟨tb, ot + i * 3, none⟩ = some (.slice t.A t.n t.c) ∧ W.cell? ⟨tb, ot + i * 3 + 1, none⟩ = some (.bool t.s) ∧ W.cell? ⟨tb, ot + i * 3 + 2, none⟩ = some (.slice t.B t.m t.d) ∧ W.cell? ⟨wr.heap.size, 1, none⟩ = some (.bool p.s) ∧ W.cell? ⟨wr.heap.size, 2, none⟩ = some (.slice p.B p.m p.d)) from fun W h => ⟨(h.cell (p := ⟨tb, ot + i * 3, none⟩) hlt6).trans E0.out, (h.cell (p := ⟨tb, ot + i * 3 + 1, none⟩) hlt6).trans E1.out, (h.cell (p := ⟨tb, ot + i * 3 + 2, none⟩) hlt6).trans E2.out, (y0.next h).c1, (y0.next h).c2⟩)
      clear y0 c0 c1x c2
      refine wp_drawnL (by kernel_rfl) (by kernel_rfl) (by kernel_rfl) (by kernel_rfl) (fun w w' => Below w.heap.size w w') (fun j v w => match j with | 0 => v = .slice (some ⟨tb, ot, none⟩) tn tc | 1 => v = .int .i64 (i : Int) | 2 => v = .pointer (some ⟨tb, ot + i * 3, none⟩) | 3 => v = .agg #[.slice t.A t.n t.c, .bool t.s, .slice t.B t.m t.d] | 4 => v = .pointer (some ⟨wr.heap.size, 1, none⟩) | 5 => v = .agg #[.bool p.s, .slice p.B p.m p.d] | 6 => TRes w v (norm (t.L.map fun r => (r.1, p.Z * r.2))) (p.Z * t.K) kk | 7 => ∃ g, v = .pointer (some ⟨g, 0, none⟩) ∧ W6.heap.size ≤ g ∧ Box 28 w g #[.slice none 0 0, .bool false, .slice none 0 0] | _ => True) (fun _ _ w => Below W6.heap.size W6 w) ?_ (fun _ => bl_drewN W6 1) ?_ ?_
      · intro j v w w' hT h
        match j, h with
        | 0, h => exact h
        | 1, h => exact h
        | 2, h => exact h
        | 3, h => exact h
        | 4, h => exact h
        | 5, h => exact h
        | 6, h => exact h.below hT
        | 7, h => exact (by obtain ⟨g, e, h1, h2⟩ := h; exact ⟨g, e, h1, h2.next hT⟩)
        | j + 8, h => trivial
      · refine ⟨?_, ?_, ?_, ?_, ?_, ?_, ?_, ?_, trivial⟩
        · intro listed σ w a hin hout hl hla hs hc hp hG hF
          refine Guarded.none rfl ?_
          have e2 : a.tmps.getD 2 undef = .slice (some ⟨tb, ot, none⟩) tn tc := hout 2 (outB_spec (by kernel_rfl))
          refine Does.val (.slice (some ⟨tb, ot, none⟩) tn tc) (w' := w) ?_ ⟨Below.refl _ _, rfl, hG⟩
          simp only [Array.getD_eq_getD_getElem?] at e2
          go_simp
        · intro listed σ w a hin hout hl hla hs hc hp hG hF
          refine Guarded.none rfl ?_
          have e11 : a.tmps.getD 11 undef = .int .i64 (i : Int) := hout 11 (outB_spec (by kernel_rfl))
          refine Does.val (.int .i64 (i : Int)) (w' := w) ?_ ⟨Below.refl _ _, rfl, hG⟩
          simp only [Array.getD_eq_getD_getElem?] at e11
          go_simp
        · intro listed σ w a hin hout hl hla hs hc hp hG hF
          refine Guarded.none rfl ?_
          have e48 : a.tmps.getD 48 undef = .slice (some ⟨tb, ot, none⟩) tn tc := (hin 0 48 rfl (hp ⟨0, .data⟩ (by simp) rfl)).trans (hF 0 (hp ⟨0, .data⟩ (by simp) rfl))
          have e49 : a.tmps.getD 49 undef = .int .i64 (i : Int) := (hin 1 49 rfl (hp ⟨1, .data⟩ (by simp) rfl)).trans (hF 1 (hp ⟨1, .data⟩ (by simp) rfl))
          refine Does.val (.pointer (some ⟨tb, ot + i * 3, none⟩)) (w' := w) ?_ ⟨Below.refl _ _, rfl, hG⟩
          simp only [Array.getD_eq_getD_getElem?] at e48 e49
          go_simp
          (try (intro hh; exfalso; omega))
        · intro listed σ w a hin hout hl hla hs hc hp hG hF
          refine Guarded.none rfl ?_
          have e50 : a.tmps.getD 50 undef = .pointer (some ⟨tb, ot + i * 3, none⟩) := (hin 2 50 rfl (hp ⟨2, .data⟩ (by simp) rfl)).trans (hF 2 (hp ⟨2, .data⟩ (by simp) rfl))
          have CC := SOF.out w hG; obtain ⟨C0, C1, C2, D1, D2⟩ := CC
          refine Does.val (.agg #[.slice t.A t.n t.c, .bool t.s, .slice t.B t.m t.d]) (w' := w) ?_ ⟨Below.refl _ _, rfl, hG⟩
          go_simp
        · intro listed σ w a hin hout hl hla hs hc hp hG hF
          refine Guarded.none rfl ?_
          have e10 : a.tmps.getD 10 undef = .pointer (some ⟨wr.heap.size, 0, none⟩) := hout 10 (outB_spec (by kernel_rfl))
          refine Does.val (.pointer (some ⟨wr.heap.size, 1, none⟩)) (w' := w) ?_ ⟨Below.refl _ _, rfl, hG⟩
          simp only [Array.getD_eq_getD_getElem?] at e10
          go_simp
        · intro listed σ w a hin hout hl hla hs hc hp hG hF
          refine Guarded.none rfl ?_
          have e52 : a.tmps.getD 52 undef = .pointer (some ⟨wr.heap.size, 1, none⟩) := (hin 4 52 rfl (hp ⟨4, .data⟩ (by simp) rfl)).trans (hF 4 (hp ⟨4, .data⟩ (by simp) rfl))
          have CC := SOF.out w hG; obtain ⟨C0, C1, C2, D1, D2⟩ := CC
          refine Does.val (.agg #[.bool p.s, .slice p.B p.m p.d]) (w' := w) ?_ ⟨Below.refl _ _, rfl, hG⟩
          go_simp
        · intro listed σ w a hin hout hl hla hs hc hp hG hF
          refine Guarded.none rfl ?_
          have e51 : a.tmps.getD 51 undef = .agg #[.slice t.A t.n t.c, .bool t.s, .slice t.B t.m t.d] := (hin 3 51 rfl (hp ⟨3, .data⟩ (by simp) rfl)).trans (hF 3 (hp ⟨3, .data⟩ (by simp) rfl))
          have e53 : a.tmps.getD 53 undef = .agg #[.bool p.s, .slice p.B p.m p.d] := (hin 5 53 rfl (hp ⟨5, .data⟩ (by simp) rfl)).trans (hF 5 (hp ⟨5, .data⟩ (by simp) rfl))
          refine Does.call ?_ (HSC.out w hG) ?_
          · go_simp; rfl
          · rintro e w' ⟨v, rfl, z, hb⟩
            exact ⟨_, rfl, hb, z, hG.next hb⟩
        · intro listed σ w a hin hout hl hla hs hc hp hG hF
          refine Guarded.none rfl ?_
          refine Does.val (.pointer (some ⟨w.heap.size, 0, none⟩)) (w' := w.alloc (.cells #[.slice none 0 0, .bool false, .slice none 0 0] 28)) ?_ ⟨bl_alloc w _, ⟨w.heap.size, rfl, hG.size, Box.new _ _ _⟩, hG.next (bl_alloc w _)⟩
          go_simp
      · intro o ho
        injection ho with ho; subst ho
        intro listed σ w a hall hin hout hG hF
        refine Guarded.none rfl ?_
        have e13 := hin 7 13 rfl (by decide)
        obtain ⟨g7, ev7, hg7, x7⟩ := hF 7 (by decide)
        rw [ev7] at e13
        have e54 := hin 6 54 rfl (by decide)
        have z6 := hF 6 (by decide)
        have z6 := hF 6 (by decide)
        obtain ⟨A8, n8, c8, s8, B8, m8, d8, ev8⟩ := TRes.form z6
        rw [ev8] at e54 z6
        refine Does.store_box (T := 28) (cells := #[.slice A8 n8 c8, .bool s8, .slice B8 m8 d8]) rfl e13 e54 x7 (by kernel_rfl) rfl (by simp [Value.oneCell']) (fun w2 x9 o9 => ?_)
        rw [show fin _ σ undef _ = (Act.put (Act.put (Act.put (Act.put (Act.put (Act.put (Act.put (Act.put (Act.put _ (some 48) (σ 0)) (some 49) (σ 1)) (some 50) (σ 2)) (some 51) (σ 3)) (some 52) (σ 4)) (some 53) (σ 5)) (some 54) (σ 6)) (some 13) (σ 7)) none undef) from (fin_all hall).trans rfl]
        simp only [Act.put, List.setIfInBounds_toArray, List.set_cons_zero, List.set_cons_succ]
        rw [ev7]
        have b9 : Below W6.heap.size W6 w2 := hG.trans (o9.below hG.size hg7)
        obtain ⟨⟨qs, hqs, hlq, hqz⟩, h81, h82, hzk⟩ := TRes.opened (z6.only x7 o9)
        generalize σ 0 = tt0; generalize σ 1 = tt1; generalize σ 2 = tt2; generalize σ 3 = tt3; generalize σ 4 = tt4; generalize σ 5 = tt5; generalize σ 6 = tt6
        have XG2 := hide (XG.out.next b9)
        have LR2 := hide (LR.out.below b9)
        have OW2 := hide (OW.out.next b9)
        have ZK2 := hide (ZK.out.below b9)
        have HRZ2 := hide (show ∀ p' ∈ rs, ZIn w2 p'.num p'.Z kk from fun p' hp' => (HRZ.out p' hp').below b9)
        have HQZ := hide hqz
        have HZK := hide hzk
        have HLQ := hide hlq
        have HQS := hide hqs
        have X9 := hide x9
        have hne : g7 ≠ w1.heap.size := by omega
        have hsz2 : W2.heap.size ≤ w2.heap.size := OW2.out.size
        have hnl8 : n8 ≤ 1000 := by
          have h1 := congrArg List.length hlq
          have h2 := norm_length (t.L.map fun r => (r.1, p.Z * r.2))
          rw [List.length_map] at h2
          have h3 : (lin qs).length = qs.length := by simp [lin]
          have h4 := hqs.1
          omega
        have hle8 : rs.length + n8 ≤ 1099511627776 := by omega
        have gx0 := XG2.out.c0
        have gy0 := x9.c0
        clear hF hG hall hin hout SOF HSC e13 e54 z6 x7 x9 o9 ev8 ev7 hqs hlq hqz hzk b9
        go_wp2_with (at_builtin; refine wpList_append_partsA rfl _ _ rfl W2.heap.size _ rs rfl LR2.out A8 n8 c8 kk qs rfl HQS.out hle8 hsz2 ?_; intro v2 w3 l2 g2; obtain ⟨A2, c2, hv2, xA, kA, oA, xB, lB, kB, oB⟩ := put_app XG2.out LR2.out OW2.out l2 g2; have xP := (X9.out.grown g2 (fun e => LR2.out.offTerm X9.out e.symm)).other (only_set1 w3 w1.heap.size 0 (.slice A2 (rs ++ qs).length c2)) hne; have hzr := (ZK2.out.kp kB); have hzp := ((HZK.out.kp kB).in_.mono (show kk ≤ kk + q by omega)); have HRZ3 := hide (show ∀ p' ∈ rs ++ qs, ZIn (w3.setCell ⟨w1.heap.size, 0, none⟩ (.slice A2 (rs ++ qs).length c2)) p'.num p'.Z kk from fun p' hp' => (by
          rcases List.mem_append.1 hp' with hp' | hp'
          · exact (HRZ2.out p' hp').kp kB
          · exact ((HQZ.out p' hp').kp kB).in_)); generalize hnl : (rs ++ qs).length = nl at *; subst hv2; have HNLQ := hide hnl; clear hnl; have u0 := xA.c0; have u1 := xA.fr 0; have v0 := xB.c1; have v1 := xB.c2; have v2 := xP.c1; have v3 := xP.c2; have hadd := add_z _ _ _ _ (kk + q) _ hzr hzp (by omega); have XB := hide xB; have LB := hide lB; have OB := hide oB; clear xA kA oA xB lB kB oB l2 g2 xP hzr hzp)
        refine hadd.mono ?_
        rintro e w5 ⟨v5, rfl, r5, b5⟩
        obtain ⟨s5, A5, n5, c5, rfl⟩ := r5.form
        have xC := XB.out.next b5
        have o12 := only_set12 w5 w1.heap.size (.bool s5) (.slice A5 n5 c5)
        have hk12 := xC.kp (nlT _ _ _ _ _ _ _) o12
        have HE1 := hide (show PutRel W2 w1.heap.size (putL vs (pairs ts) ((norm L).take (q + 1))) (K + putK vs (pairs ts) ((norm L).take (q + 1))) kk (q + 1) ((w5.setCell ⟨w1.heap.size, 1, none⟩ (.bool s5)).setCell ⟨w1.heap.size, 2, none⟩ (.slice A5 n5 c5)) from
          ⟨rs ++ qs, A2, c2, s5, A5, n5, c5, by rw [HNLQ.out]; exact xC.set_12 _ _, by have h1 := (LB.out.below b5).onlyTerm xC o12; rw [HNLQ.out]; exact h1, fun v => by rw [HL.out, HPL.out, lin_append, coef_append, coef_append, HCO.out, HLQ.out, norm_coef], fun p' hp' => ((HRZ3.out p' hp').below b5).kp hk12, by rw [HKS.out, HPL.out, ← Int.add_assoc]; exact (r5.in_.kp hk12), (OB.out.next b5).trans o12, by rw [HNLQ.out]; have h2 := HNLQ.out; have h3 := HQS.out.1; rw [List.length_append] at h2; omega⟩)
        have d1 := xC.c1
        have d2 := xC.c2
        have f1 := xC.fr 1
        have f2 := xC.fr 2
        clear u0 u1 v0 v1 v2 v3 gx0 gy0 hadd r5 b5 xC o12 hk12
        go_wp2_with fail
        go_roundw
        case rel => exact ⟨q + 1, by omega, by go_num, HE1⟩
        case measure => simp [intOf] <;> omega
    · have HPL := hide (show place vs (pairs ts) p.v = ([(p.v, 1)], 0) by
        cases hf : firstAt p.v vs with
        | none => exact place_none hf
        | some i =>
          refine place_out hf ?_
          rcases Nat.lt_or_ge i ts.length with hh | hh
          · exact absurd ⟨i, ts[i], hf, List.getElem?_eq_getElem hh⟩ hin
          · exact hh)
      have HE := hide (show ∀ (w2 : World) A2 c2, Box 28 w2 w1.heap.size #[.slice A2 (rs ++ [p]).length c2, .bool s4, .slice B4 m4 d4] → LRow 60 3 w2 W2.heap.size (.slice A2 (rs ++ [p]).length c2) (rs ++ [p]).length (flat (rs ++ [p])) → (∀ p' ∈ rs ++ [p], ZIn w2 p'.num p'.Z kk) → ZIn w2 (.agg #[.bool s4, .slice B4 m4 d4]) (K + putK vs (pairs ts) ((norm L).take q)) (kk + q) → Only w1.heap.size W2 w2 → PutRel W2 w1.heap.size (putL vs (pairs ts) ((norm L).take (q + 1))) (K + putK vs (pairs ts) ((norm L).take (q + 1))) kk (q + 1) w2 from fun w2 A2 c2 a1 a2 a3 a4 a5 => ⟨rs ++ [p], A2, c2, s4, B4, m4, d4, a1, a2, fun v => by rw [HL.out, HPL.out, lin_append, coef_append, coef_append, HCO.out]; simp [lin, PV.part], a3, by rw [HKS.out, HPL.out, Int.mul_zero, Int.add_zero]; exact a4.mono (by omega), a5, by simp; omega⟩)
      have hwa := World.size_alloc2 wr p
      have gx0 := xg.c0
      clear hco hrz zK oW hz hT HR hLp xg lr hv0 HL HKS HPL HCO
      by_cases hli : ∃ i, firstAt p.v vs = some i
      · obtain ⟨i, hf⟩ := hli
        have hit : tn ≤ i := by
          rcases Nat.lt_or_ge i ts.length with hh | hh
          · exact absurd ⟨i, ts[i], hf, List.getElem?_eq_getElem hh⟩ hin
          · rw [← HTS.out.1]; exact hh
        have hhas : Maps.has D (.int .i64 p.v) = true := by have h2 : Maps.has D (.int .i64 p.v) = (firstAt p.v vs).isSome := (h1 p.v).1; rw [h2, hf]; rfl
        have HAT := hide (show ∀ z, D.atKey (.int .i64 p.v) z = .lit (.int .i64 i) from fun z => (h1 p.v).2 i z hf)
        have hvl := firstAt_lt p.v vs i hf
        have hvn2 : vs.length ≤ 1099511627 := by have := HVS.out; omega
        clear hin hf h1 h0
        go_wp2_with (first
          | (at_lookup; refine wpList_lookup_own_ok_int _ rfl _ _ 135 rfl 3 3 .i64 mapLaw Tryz.underlying135 Tryz.underlying3 (mapZero _) mb vs.length D rfl hown _ _ rfl hkey ?_; intro ci hat hwc; obtain rfl := at_int hat HAT.out; clear hat hwc)
          | (at_builtin; refine wpList_append_parts rfl _ _ rfl W2.heap.size _ rs rfl (LR.out.below (bl_alloc _ _)) _ 0 1 1 [p] rfl rfl (cells_newS _ p _ (by rw [size_alloc])) hle (Nat.le_trans HSZ.out (Nat.le_trans hwa.1 hwa.2)) ?_; intro v2 w2 l2 g2; obtain ⟨A2, c2, rfl, xA, kA, oA, xB, lB, kB, oB⟩ := put_app (XG.out.next (bl_alloc _ _)) (LR.out.below (bl_alloc _ _)) (OW.out.next (bl_alloc _ _)) l2 g2; have u0 := xA.c0; have u1 := xA.fr 0; have HE1 := hide (HE.out _ A2 c2 xB lB (fun p' hp' => by
            rcases List.mem_append.1 hp' with hp' | hp'
            · exact ((HRZ.out p' hp').below (bl_alloc _ _)).kp kB
            · simp at hp'; subst hp'; exact ((HZ.out.mono (by omega)).below (bl_alloc _ _)).kp kB) ((ZK.out.below (bl_alloc _ _)).kp kB) oB); clear xA kA oA xB lB kB oB l2 g2))
        clear u0 u1 gx0
        simp only [List.length_append, List.length_cons, List.length_nil, Nat.zero_add] at HE1
        go_roundw
        case rel => exact ⟨q + 1, by omega, by go_num, HE1⟩
        case measure => simp [intOf] <;> omega
      · have hhas : Maps.has D (.int .i64 p.v) = false := by
          have h2 : Maps.has D (.int .i64 p.v) = (firstAt p.v vs).isSome := (h1 p.v).1
          cases hf : firstAt p.v vs with
          | none => rw [h2, hf]; rfl
          | some i => exact absurd ⟨i, hf⟩ hli
        clear hin hli h1 h0
        go_wp2_with (first
          | (at_lookup; refine wpList_lookup_own_ok_int _ rfl _ _ 135 rfl 3 3 .i64 mapLaw Tryz.underlying135 Tryz.underlying3 (mapZero _) mb vs.length D rfl hown _ _ rfl hkey ?_; intro ci hat hwc; clear hat hwc)
          | (at_builtin; refine wpList_append_parts rfl _ _ rfl W2.heap.size _ rs rfl (LR.out.below (bl_alloc _ _)) _ 0 1 1 [p] rfl rfl (cells_newS _ p _ (by rw [size_alloc])) hle (Nat.le_trans HSZ.out (Nat.le_trans hwa.1 hwa.2)) ?_; intro v2 w2 l2 g2; obtain ⟨A2, c2, rfl, xA, kA, oA, xB, lB, kB, oB⟩ := put_app (XG.out.next (bl_alloc _ _)) (LR.out.below (bl_alloc _ _)) (OW.out.next (bl_alloc _ _)) l2 g2; have u0 := xA.c0; have u1 := xA.fr 0; have HE1 := hide (HE.out _ A2 c2 xB lB (fun p' hp' => by
            rcases List.mem_append.1 hp' with hp' | hp'
            · exact ((HRZ.out p' hp').below (bl_alloc _ _)).kp kB
            · simp at hp'; subst hp'; exact ((HZ.out.mono (by omega)).below (bl_alloc _ _)).kp kB) ((ZK.out.below (bl_alloc _ _)).kp kB) oB); clear xA kA oA xB lB kB oB l2 g2))
        clear u0 u1 gx0
        simp only [List.length_append, List.length_cons, List.length_nil, Nat.zero_add] at HE1
        go_roundw
        case rel => exact ⟨q + 1, by omega, by go_num, HE1⟩
        case measure => simp [intOf] <;> omega
  · obtain rfl : q = n1 := by omega
    have hall := List.take_of_length_le (l := norm L) (i := q) (by rw [HP1.out.len]; exact Nat.le_refl _)
    rw [hall] at hco zK
    have hin : PIn wr A4 rs.length (lin rs) (kk + q) := ⟨rs, lr.parts rfl (fun p hp => (hrz p hp).mono (by omega)), rfl⟩
    obtain ⟨A', c', hv', h41, h42, -⟩ := lr.len
    injection hv' with e1' e2' e3'
    subst e1' e3'
    have hpl := tplain_any (.agg #[.slice A4 rs.length c4, .bool s4, .slice B4 m4 d4]) (lin rs) (K + putK vs (pairs ts) (norm L)) (kk + q) wr ⟨A4, rs.length, c4, s4, B4, m4, d4, rfl, hin, h41, h42, zK⟩ (by rw [hin.len]; omega) (by omega)
    have HLN := hide hin.len
    have HN2 := hide (show norm (lin rs) = norm (putL vs (pairs ts) (norm L)) from norm_same hco)
    have hR : Box 28 wr (w0.heap.size + 1) #[.slice none 0 0, .bool false, .slice none 0 0] := HR2.out.other oW (by omega)
    have x0 := xg.c0
    have x1 := xg.c1
    have x2 := xg.c2
    have HTT := hide hT
    have HRR := hide hR
    clear hall hin hco zK hrz lr xg oW HR hT hR
    go_wp2_with fail
    refine hpl.mono ?_
    rintro e w5 ⟨v5, rfl, r5, b5⟩
    obtain ⟨A5, n5, c5, s5, B5, m5, d5, rfl⟩ := r5.form
    have k5 := HRR.out.next b5
    go_wp2_with (with_reducible refine wpList_store_t rfl _ _ rfl (w0.heap.size + 1) _ _ _ _ _ _ _ rfl rfl _ _ _ k5 ?_; intro w7 k7 ho7)
    refine bodyPost_t rfl rfl k7 rfl ?_
    refine TPost.mono ⟨_, rfl, ?_, zback (HTT.out.next b5) (by omega) ho7⟩ (show kk + q + (lin rs).length ≤ _ by have := HLN.out; omega)
    rw [← HN2.out]
    exact r5.only k5 ho7
end Go.Proofs.YtdeakieenppmiaaGreatDoor
/- term.Put, Without. -/
namespace Go.Proofs.YtdeakieenppmiaaGreatDoor
open Go.RowKit Go.Maps
open Tm

theorem tput_any (v u : Value) (L M : List (Int × Int)) (K KM x : Int) (k ku : Nat) (w0 : World) (hv : TIn w0 v L K k) (hu : TIn w0 u M KM ku) (hx1 : -9223372036854775808 ≤ x) (hx2 : x ≤ 9223372036854775807) (hml : M.length ≤ 1000) (hl : L.length ≤ 1000) (hrg : ∀ p ∈ L, p.1 ≤ 9223372036854775807) (hk : k ≤ 100000000) (hku : ku ≤ 100000000) :
  Calls Tryz.prog 66 #[v, .int .i64 x, u] w0 (TPost (norm (putL [x] [(M, KM)] (norm L))) (K + putK [x] [(M, KM)] (norm L)) (k + ku + 1010000) w0) := by
 have hv0 := hv
 have hu0 := hu
 obtain ⟨A, n, c, s, B, m, d, rfl, -⟩ := hv
 obtain ⟨A2, n2, c2, s2, B2, m2, d2, rfl, -⟩ := hu
 obtain ⟨z0, z1, z2, z3, z4⟩ := bstart3 28 28 28 w0 #[.slice A n c, .bool s, .slice B m d] #[.slice A2 n2 c2, .bool s2, .slice B2 m2 d2] #[.slice none 0 0, .bool false, .slice none 0 0]
 have x0 := z0.c0
 have x1 := z0.c1
 have x2 := z0.c2
 have y0 := z1.c0
 have y1 := z1.c1
 have y2 := z1.c2
 go_enter Tryz.func66, Tryz.ntmps66
 generalize hW : (((w0.alloc (.cells #[.slice A n c, .bool s, .slice B m d] 28)).alloc (.cells #[.slice A2 n2 c2, .bool s2, .slice B2 m2 d2] 28)).alloc (.cells #[.slice none 0 0, .bool false, .slice none 0 0] 28)) = W0 at z0 z1 z2 z3 z4
 have a1 := bl_alloc W0 (.cells #[.int .i64 x] 3)
 have a2 := bl_alloc (W0.alloc (.cells #[.int .i64 x] 3)) (.cells #[.slice A2 n2 c2, .bool s2, .slice B2 m2 d2] 28)
 have hvi : IIn ((W0.alloc (.cells #[.int .i64 x] 3)).alloc (.cells #[.slice A2 n2 c2, .bool s2, .slice B2 m2 d2] 28)) (some ⟨W0.heap.size, 0, none⟩) 1 [x] :=
  IIn.below (w := W0.alloc (.cells #[.int .i64 x] 3)) ⟨rfl, fun _ => ⟨W0.heap.size, 0, rfl, fun j u hu => by rw [Nat.zero_add]; exact (Box.new 3 W0 #[.int .i64 x]).cell j u (by simpa [ints] using hu)⟩⟩ a2
 have hbt := Box.new 28 (W0.alloc (.cells #[.int .i64 x] 3)) #[.slice A2 n2 c2, .bool s2, .slice B2 m2 d2]
 rw [size_alloc] at hbt
 have hti := TermsIn.box (T := 28) (k := ku) (ts := [⟨A2, n2, c2, s2, B2, m2, d2, M, KM⟩]) hbt (fun t ht => by simp at ht; subst ht; exact (((hu0.below z3).below a1).below a2))
 have hpa := tputAll_any _ L K k (some ⟨W0.heap.size, 0, none⟩) 1 1 [x] (some ⟨W0.heap.size + 1, 0, none⟩) 1 1 [⟨A2, n2, c2, s2, B2, m2, d2, M, KM⟩] ku _ (((hv0.below z3).below a1).below a2) hvi (by omega) (fun y hy => by simp at hy; subst hy; exact ⟨hx1, hx2⟩) hti (by omega) (fun t ht => by simp at ht; subst ht; exact hml) hl hrg hk hku
 have HT := hide ((z3.next a1).next a2)
 have HR := hide ((z2.next a1).next a2)
 clear hv0 hu0 z0 z1 z2 z3 a1 a2 hvi hbt hti hrg
 subst hW
 simp only [size_alloc] at hpa
 go_wp2_with fail
 refine hpa.mono ?_
 rintro e w1 ⟨v1, rfl, r1, b1⟩
 obtain ⟨A3, n3, c3, s3, B3, m3, d3, rfl⟩ := r1.form
 have k1 := HR.out.next b1
 go_wp2_with (with_reducible refine wpList_store_t rfl _ _ rfl (w0.heap.size + 1 + 1) _ _ _ _ _ _ _ rfl rfl _ _ _ k1 ?_; intro w7 k7 ho7)
 refine bodyPost_t rfl rfl k7 rfl ?_
 exact ⟨_, rfl, r1.only k1 ho7, zback (HT.out.next b1) (by omega) ho7⟩
/-- A list without a variable. -/
def without (L : List (Int × Int)) (x : Int) : List (Int × Int) := L.filter fun p => decide (p.1 ≠ x)
end Go.Proofs.YtdeakieenppmiaaGreatDoor
