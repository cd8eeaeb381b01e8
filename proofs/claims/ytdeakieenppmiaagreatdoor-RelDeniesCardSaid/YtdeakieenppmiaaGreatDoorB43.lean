/- Texts of one seat, put together: RelHoldsLaw OpenR OpenV RelDenies RContent. -/
import Derived.Test.YtdeakieenppmiaaGreatDoorB41
import Derived.Test.YtdeakieenppmiaaGreatDoorB42
import Derived.Test.YtdeakieenppmiaaGreatDoorB34
import Derived.Test.YtdeakieenppmiaaGreatDoorB23
import Derived.Test.YtdeakieenppmiaaGreatDoorB30
set_option linter.unusedVariables false
/- RelHolds: the walk. -/
namespace Go.Proofs.YtdeakieenppmiaaGreatDoor
open Go.RowKit
open Tm

set_option maxRecDepth 100000 in
set_option maxHeartbeats 8000000 in
theorem relHolds_walk (v : Value) (L : List (Int × Int)) (K : Int) (e0 : Bool) (VA : Option Addr) (vn vc : Nat) (ivs : List IV) (w0 : World) (hv : RIn w0 v L K e0 big) (hvs : ValsIn w0 VA vn ivs big) (hvc1 : vn ≤ vc) (hvc2 : vc ≤ 9223372036854775807) :
    Calls Tryz.prog 4 #[v, .slice VA vn vc] w0 (YesPost w0) := by
  have hvn : vn ≤ 9223372036854775807 := by omega
  obtain ⟨A, n, c, s, B, m, d, rfl, ht⟩ := hv
  obtain ⟨z0, z1, -⟩ := bstart1 30 w0 #[.slice A n c, .bool s, .slice B m d, .bool e0]
  have H1 := hide ht
  have HVS := hide hvs
  clear ht hvs
  go_enter Tryz.func4, Tryz.ntmps4
  go_wp2_with fail
  refine (saying_yes _).mono ?_
  rintro en w2 ⟨rfl, b1⟩
  have q0 := z0.next b1
  have T2 := hide (z1.next b1)
  have x0 := q0.r0
  have x1 := q0.r1
  have x2 := q0.r2
  have x3 := q0.r3
  have Q0 := hide q0
  clear z0 z1 b1 q0
  have bA := bl_alloc w2 (.cells #[.slice A n c, .bool s, .slice B m d, .bool e0] 30)
  have hbx : Box 30 (w2.alloc (.cells #[.slice A n c, .bool s, .slice B m d, .bool e0] 30)) w2.heap.size (flatR [⟨A, n, c, s, B, m, d, e0, L, K⟩]).toArray := Box.new _ _ _
  have hfw := r4few_any (some ⟨w2.heap.size, 0, none⟩) 1 1 1 12 [⟨A, n, c, s, B, m, d, e0, L, K⟩] _ ⟨RelsAt.box hbx, fun t ht => by
    simp only [List.mem_cons, List.not_mem_nil, or_false] at ht
    subst ht
    exact (H1.out.below T2.out).below bA⟩ (by decide) (by decide) (by decide)
  have hfv := r4fewVals_any VA vn vc 20 12 ivs _ (HVS.out.below (T2.out.next bA)) hvn (by decide) (by decide)
  have Q1 := hide (Q0.out.next bA)
  have T3 := hide (T2.out.next bA)
  clear hbx bA
  go_wp2_with fail
  refine hfw.mono ?_
  rintro en w3 ⟨r, rfl, hr, rfl⟩
  have HR := hide hr
  clear x0 x1 x2 x3 hfw hr
  cases r with
  | false =>
    go_wp2_with fail
    go_ret
    exact ⟨rfl, T3.out⟩
  | true =>
    have F1 := hide ((HR.out rfl).2 ⟨A, n, c, s, B, m, d, e0, L, K⟩ (by simp))
    go_wp2_with fail
    refine hfv.mono ?_
    rintro en w4 ⟨r2, rfl, hr2, rfl⟩
    have HR2 := hide hr2
    clear hfv hr2
    cases r2 with
    | false =>
      go_wp2_with fail
      go_ret
      exact ⟨rfl, T3.out⟩
    | true =>
      have HV2 := hide (HR2.out rfl)
      have hv20 : vn ≤ 20 := HV2.out.1
      have HL := hide (show L.length ≤ 20 by
        obtain ⟨h1, A', n', c', s', B', m', d', e2, h2, -⟩ := F1.out
        have h3 : Value.agg #[.slice A n c, .bool s, .slice B m d] = .agg #[.slice A' n' c', .bool s', .slice B' m' d'] := e2
        have h4 : n = n' := by simp at h3; exact h3.1.2.1
        rw [h2.len, ← h4]
        exact h1)
      go_upto_region 5 with fail
      generalize hW : (w2.alloc (.cells #[.slice A n c, .bool s, .slice B m d, .bool e0] 30)) = W6 at *
      clear hW
      obtain ⟨hb0, hhb⟩ : ∃ hz, hz = holdsZ e0 (K + val (nums ivs) L) := ⟨_, rfl⟩
      have HRI := hide (show RIn W6 (.agg #[.slice A n c, .bool s, .slice B m d, .bool e0]) L K e0 12 from ⟨_, _, _, _, _, _, _, rfl, F1.out.2⟩)
      have hq1 := fun W (h : Below W6.heap.size W6 W) => relHolds_any _ L K e0 12 12 VA vn vc ivs W (HRI.out.below h) (HV2.out.2.below h) hvn (by have := HL.out; omega) (by decide) (by decide)
      have hq2 := fun W (h : Below W6.heap.size W6 W) => rholds_any _ L K e0 12 12 VA vn vc ivs W (HRI.out.below h) (HV2.out.2.below h) (by omega) (by have := HL.out; omega) (by decide) (by decide)
      rw [← hhb] at hq1 hq2
      have HH1 := hide hq1
      have HH2 := hide hq2
      have SOF := hide (show ∀ W, Below W6.heap.size W6 W → (W.cell? ⟨w0.heap.size, 0, none⟩ = some (.slice A n c) ∧ W.cell? ⟨w0.heap.size, 1, none⟩ = some (.bool s) ∧ W.cell? ⟨w0.heap.size, 2, none⟩ = some (.slice B m d) ∧ W.cell? ⟨w0.heap.size, 3, none⟩ = some (.bool e0)) from fun W h => ⟨(Q1.out.next h).r0, (Q1.out.next h).r1, (Q1.out.next h).r2, (Q1.out.next h).r3⟩)
      clear hhb hq1 hq2
      refine wp_drawn (by kernel_rfl) (by kernel_rfl) (by kernel_rfl) (fun w w' => Below w.heap.size w w') (fun j v w => match j with | 0 => v = .agg #[.slice A n c, .bool s, .slice B m d, .bool e0] | 1 => v = .slice VA vn vc | 2 => v = .bool hb0 | 3 => v = .agg #[.slice A n c, .bool s, .slice B m d, .bool e0] | 4 => v = .slice VA vn vc | 5 => v = .bool hb0 | 6 => v = .bool true | 7 => v = .bool true | _ => True) (fun _ _ w => Below W6.heap.size W6 w) ?_ (fun _ => bl_drewN W6 1) ?_ ?_
      · intro j v w w' hT h
        match j, h with
        | 0, h => exact h
        | 1, h => exact h
        | 2, h => exact h
        | 3, h => exact h
        | 4, h => exact h
        | 5, h => exact h
        | 6, h => exact h
        | 7, h => exact h
        | j + 8, h => trivial
      · refine ⟨?_, ?_, ?_, ?_, ?_, ?_, ?_, ?_, trivial⟩
        · intro listed σ w a hin hout hl hc hp hG hF
          refine Guarded.none rfl ?_
          have e2 : a.tmps.getD 2 undef = .pointer (some ⟨w0.heap.size, 0, none⟩) := hout 2 (outB_spec (by kernel_rfl))
          have CC := SOF.out w hG; obtain ⟨C0, C1, C2, C3⟩ := CC
          refine Does.val (.agg #[.slice A n c, .bool s, .slice B m d, .bool e0]) (w' := w) ?_ ⟨Below.refl _ _, rfl, hG⟩
          go_simp
        · intro listed σ w a hin hout hl hc hp hG hF
          refine Guarded.none rfl ?_
          have e1 : a.tmps.getD 1 undef = .slice VA vn vc := hout 1 (outB_spec (by kernel_rfl))
          refine Does.val (.slice VA vn vc) (w' := w) ?_ ⟨Below.refl _ _, rfl, hG⟩
          simp only [Array.getD_eq_getD_getElem?] at e1
          go_simp
        · intro listed σ w a hin hout hl hc hp hG hF
          refine Guarded.none rfl ?_
          have e16 : a.tmps.getD 16 undef = .agg #[.slice A n c, .bool s, .slice B m d, .bool e0] := (hin 0 16 rfl (hp ⟨0, .data⟩ (by simp) rfl)).trans (hF 0 (hp ⟨0, .data⟩ (by simp) rfl))
          have e17 : a.tmps.getD 17 undef = .slice VA vn vc := (hin 1 17 rfl (hp ⟨1, .data⟩ (by simp) rfl)).trans (hF 1 (hp ⟨1, .data⟩ (by simp) rfl))
          refine Does.call ?_ (HH1.out w hG) ?_
          · go_simp
          · rintro e w' ⟨rfl, hb⟩
            exact ⟨_, rfl, hb, rfl, hG.next hb⟩
        · intro listed σ w a hin hout hl hc hp hG hF
          refine Guarded.none rfl ?_
          have e2 : a.tmps.getD 2 undef = .pointer (some ⟨w0.heap.size, 0, none⟩) := hout 2 (outB_spec (by kernel_rfl))
          have CC := SOF.out w hG; obtain ⟨C0, C1, C2, C3⟩ := CC
          refine Does.val (.agg #[.slice A n c, .bool s, .slice B m d, .bool e0]) (w' := w) ?_ ⟨Below.refl _ _, rfl, hG⟩
          go_simp
        · intro listed σ w a hin hout hl hc hp hG hF
          refine Guarded.none rfl ?_
          have e1 : a.tmps.getD 1 undef = .slice VA vn vc := hout 1 (outB_spec (by kernel_rfl))
          refine Does.val (.slice VA vn vc) (w' := w) ?_ ⟨Below.refl _ _, rfl, hG⟩
          simp only [Array.getD_eq_getD_getElem?] at e1
          go_simp
        · intro listed σ w a hin hout hl hc hp hG hF
          refine Guarded.none rfl ?_
          have e19 : a.tmps.getD 19 undef = .agg #[.slice A n c, .bool s, .slice B m d, .bool e0] := (hin 3 19 rfl (hp ⟨3, .data⟩ (by simp) rfl)).trans (hF 3 (hp ⟨3, .data⟩ (by simp) rfl))
          have e20 : a.tmps.getD 20 undef = .slice VA vn vc := (hin 4 20 rfl (hp ⟨4, .data⟩ (by simp) rfl)).trans (hF 4 (hp ⟨4, .data⟩ (by simp) rfl))
          refine Does.call ?_ (HH2.out w hG) ?_
          · go_simp
          · rintro e w' ⟨rfl, hb⟩
            exact ⟨_, rfl, hb, rfl, hG.next hb⟩
        · intro listed σ w a hin hout hl hc hp hG hF
          refine Guarded.none rfl ?_
          have e18 : a.tmps.getD 18 undef = .bool hb0 := (hin 2 18 rfl (hp ⟨2, .data⟩ (by simp) rfl)).trans (hF 2 (hp ⟨2, .data⟩ (by simp) rfl))
          have e21 : a.tmps.getD 21 undef = .bool hb0 := (hin 5 21 rfl (hp ⟨5, .data⟩ (by simp) rfl)).trans (hF 5 (hp ⟨5, .data⟩ (by simp) rfl))
          refine Does.val (.bool true) (w' := w) ?_ ⟨Below.refl _ _, rfl, hG⟩
          simp only [Array.getD_eq_getD_getElem?] at e18 e21
          go_simp
        · intro listed σ w a hin hout hl hc hp hG hF
          refine Guarded.none rfl ?_
          have e22 : a.tmps.getD 22 undef = .bool true := (hin 6 22 rfl (hp ⟨6, .data⟩ (by simp) rfl)).trans (hF 6 (hp ⟨6, .data⟩ (by simp) rfl))
          refine Does.val (.bool true) (w' := w) ?_ ⟨Below.refl _ _, rfl, hG⟩
          simp only [Array.getD_eq_getD_getElem?] at e22
          go_simp
      · intro listed σ W9 hall hG hF
        rw [show mid _ σ listed _ = (Act.put (Act.put (Act.put (Act.put (Act.put (Act.put (Act.put (Act.put _ (some 16) (σ 0)) (some 17) (σ 1)) (some 18) (σ 2)) (some 19) (σ 3)) (some 20) (σ 4)) (some 21) (σ 5)) (some 22) (σ 6)) (some 4) (σ 7)) from (mid_all hall).trans rfl]
        generalize σ 0 = tt0
        generalize σ 1 = tt1
        generalize σ 2 = tt2
        generalize σ 3 = tt3
        generalize σ 4 = tt4
        generalize σ 5 = tt5
        generalize σ 6 = tt6
        rw [show σ 7 = .bool true from hF 7 (by decide)]
        simp only [Act.put, List.setIfInBounds_toArray, List.set_cons_zero, List.set_cons_succ]
        have TG := hG
        clear hF hG hall
        clear σ
        go_wp2_with fail
        go_ret
        exact ⟨rfl, T3.out.next TG⟩
end Go.Proofs.YtdeakieenppmiaaGreatDoor
/- What a row's argument of type api.Rel, []api.Rel is opened to. -/
namespace Go.Proofs.YtdeakieenppmiaaGreatDoor
open Go.ChangeShapes Go.WideShapes Go.ChangeAt Go.RowKit Go.Deep

theorem cellsRel : Tryz.prog.cellsOf 30 = 4 := by kernel_rfl
section
variable {H : Type} {enc : TypeId × Value → H} {W : World} {f : Nat} {x : DataW H × List MemPlace} {cs : List Value}
set_option maxRecDepth 100000 in
theorem open_rel_cells (h : DataW.trod enc Tryz.prog W 0 (fun _ => true) true f 30 cs = some x) : ∃ r : RV, cs = r.cells ∧ TIn W r.trm r.L r.K big ∧ ∀ p ∈ r.L, -9223372036854775808 ≤ p.1 ∧ p.1 ≤ 9223372036854775807 := by
  obtain ⟨y0, y1, n, -, hl, h0, h1⟩ := trod_struct2 Tryz.underlying30 h
  rw [cellsRel] at hl
  match cs, hl with
  | [v0, v1, v2, v3], _ =>
    have g0 : DataW.trod enc Tryz.prog W 0 (fun _ => true) true n 28 (([v0, v1, v2, v3].drop 0).take (Tryz.prog.cellsOf 28)) = some y0 := h0
    have g1 : DataW.trod enc Tryz.prog W 0 (fun _ => true) true n 4 (([v0, v1, v2, v3].drop 3).take (Tryz.prog.cellsOf 4)) = some y1 := h1
    rw [cellsTerm] at g0
    rw [cellsBool] at g1
    obtain ⟨A, n, c, s, B, m, d, L, K, e, hz, hb⟩ := open_term_cells g0
    injection e with e1 e
    injection e with e2 e
    injection e with e3 e
    subst e1 e2 e3
    obtain ⟨s1, e0, -⟩ := DataW.trod_bool Tryz.underlying4 g1
    injection e0 with e0
    subst e0
    exact ⟨⟨A, n, c, s, B, m, d, s1, L, K⟩, rfl, hz, hb⟩
set_option maxRecDepth 100000 in
theorem open_rel {b : Nat} {v : Value} {d : DataW H} {p : List MemPlace} (hv : Value.okWide Tryz.prog W .any b 30 v)
    (h0 : DataW.Trod enc Tryz.prog W 0 (fun _ => true) true 30 v d p) : ∃ L K e, RIn W v L K e big ∧ ∀ p ∈ L, -9223372036854775808 ≤ p.1 ∧ p.1 ≤ 9223372036854775807 := by
  obtain ⟨cs, rfl, hsz⟩ := okWide_struct Tryz.underlying30 hv
  obtain ⟨fuel, hf⟩ := h0
  obtain ⟨r, e, h1, h2⟩ := open_rel_cells hf
  have e2 : cs = #[.slice r.A r.n r.c, .bool r.s, .slice r.B r.m r.d, .bool r.f] := by
    cases cs
    simp only [Value.cells] at e
    simpa [RV.cells] using e
  subst e2
  exact ⟨r.L, r.K, r.f, ⟨_, _, _, _, _, _, _, rfl, h1⟩, h2⟩
end
end Go.Proofs.YtdeakieenppmiaaGreatDoor
/- What a row's argument of type []api.Int is opened to. -/
namespace Go.Proofs.YtdeakieenppmiaaGreatDoor
open Go.ChangeShapes Go.WideShapes Go.ChangeAt Go.RowKit Go.Deep

theorem flatI_split (ps : List IV) (j : Nat) (u : Value) (h : (flatI ps)[j]? = some u) : ∃ i p r, ps[i]? = some p ∧ j = 2 * i + r ∧ p.cells[r]? = some u ∧ r < 2 := by
  induction ps generalizing j with
  | nil => simp [flatI] at h
  | cons p ps ih =>
    rw [flatI_cons] at h
    have hl : p.cells.length = 2 := rfl
    by_cases hj : j < 2
    · rw [List.getElem?_append_left (by omega)] at h
      exact ⟨0, p, j, rfl, by omega, h, hj⟩
    · rw [List.getElem?_append_right (by omega), hl] at h
      obtain ⟨i, q, r, h1, h2, h3, h4⟩ := ih _ h
      exact ⟨i + 1, q, r, by simpa using h1, by omega, h3, h4⟩
instance ivSome : Inhabited IV := ⟨⟨false, none, 0, 0, 0⟩⟩
section
variable {H : Type} {enc : TypeId × Value → H} {W : World} {f : Nat} {x : DataW H × List MemPlace}
set_option maxRecDepth 100000 in
theorem open_vals1 {v : Value} (hf : DataW.trod enc Tryz.prog W 0 (fun _ => true) true f 42 [v] = some x) : ∃ a len cap ivs, v = .slice a len cap ∧ ValsIn W a len ivs big ∧ len ≤ cap ∧ cap ≤ 9223372036854775807 := by
  rcases open_slice Tryz.underlying42 hf with ⟨hcs, _⟩ | ⟨a, len, cap, m, n, D, Pl, hcs, _, hl, hm, hmm, _, hx⟩
  · injection hcs with hcs
    subst hcs
    exact ⟨none, 0, 0, [], rfl, ⟨rfl, fun h => absurd h (by omega), fun p hp => by cases hp⟩, by omega, by omega⟩
  · injection hcs with hcs
    subst hcs
    unfold maxLen at hm
    have hlm : len ≤ m := by rw [hmm]; split <;> omega
    obtain ⟨p, hp⟩ := choose_lt (α := IV) (n := len) (p := fun i p => (∀ r u, p.cells[r]? = some u → W.cell? (a.add (i * 2 + r)) = some u) ∧ ZIn W p.num p.Z big) (fun i hi => by
      obtain ⟨cs, h1, h2⟩ := hx i (by omega)
      rw [cellsInt] at h1
      obtain ⟨_, hlen, hcell⟩ := World.cells?_some h1
      obtain ⟨s, B, m', d, Z, rfl, hz⟩ := open_int_cells h2
      refine ⟨⟨s, B, m', d, Z⟩, fun r u hu => ?_, hz⟩
      have hr : r < 2 := (List.getElem?_eq_some_iff.1 hu).1
      rw [← show ([Value.bool s, Value.slice B m' d])[r]? = some u from hu, ← hcell r hr, add_add])
    have hall : ∀ q ∈ (List.range len).map p, ∃ i, i < len ∧ q = p i := fun q hq => by
      obtain ⟨i, hi, rfl⟩ := List.mem_map.1 hq
      exact ⟨i, List.mem_range.1 hi, rfl⟩
    refine ⟨some a, len, cap, (List.range len).map p, rfl, ⟨by simp, fun hn => ?_, fun q hq => ?_⟩, hl, hm⟩
    · have h0 := (hp 0 hn).1 0 _ rfl
      obtain ⟨b, o, spot⟩ := a
      have hspot : spot = none := by simpa [Addr.add] using World.cell?_spot h0
      subst hspot
      refine ⟨b, o, rfl, fun j u hu => ?_⟩
      obtain ⟨i, q, r, h1, rfl, h3, h4⟩ := flatI_split _ _ _ hu
      have hi : i < len := by
        have := (List.getElem?_eq_some_iff.1 h1).1
        simpa using this
      have hq : q = p i := by
        rw [List.getElem?_map, List.getElem?_range hi] at h1
        exact (Option.some.inj h1).symm
      subst hq
      have h5 := (hp i hi).1 r u h3
      rw [add_plain] at h5
      rw [show 2 * i + r = i * 2 + r by omega]
      exact h5
    · obtain ⟨i, hi, rfl⟩ := hall q hq
      exact (hp i hi).2
set_option maxRecDepth 100000 in
theorem open_vals {b : Nat} {v : Value} {d : DataW H} {p : List MemPlace} (hv : Value.okWide Tryz.prog W .any b 42 v)
    (h0 : DataW.Trod enc Tryz.prog W 0 (fun _ => true) true 42 v d p) : ∃ a len cap ivs, v = .slice a len cap ∧ ValsIn W a len ivs big ∧ len ≤ cap ∧ cap ≤ 9223372036854775807 := by
  obtain ⟨a, len, cap, rfl⟩ := okWide_slice Tryz.underlying42 hv
  obtain ⟨fuel, hf⟩ := h0
  exact open_vals1 hf
end
end Go.Proofs.YtdeakieenppmiaaGreatDoor
/- RelDenies: the walk. -/
namespace Go.Proofs.YtdeakieenppmiaaGreatDoor
open Go.RowKit
open Tm

theorem val_negL (us : List Int) (L : List (Int × Int)) : val us (negL L) = - val us L := by
  unfold negL
  rw [val_norm, val_scale]
  omega
/-- The values of the terms of what Deny answers. -/
def dz (e : Bool) (Z : Int) (q : Nat) : Int := if e = true ∧ q = 0 then Z - 1 else -Z - 1
def dcount (e : Bool) (Z : Int) : Nat → Nat
  | 0 => 0
  | q + 1 => dcount e Z q + (if 0 ≤ dz e Z q then 1 else 0)
theorem den_at (us : List Int) (L : List (Int × Int)) (K : Int) (e : Bool) (q : Nat) (x : List (Int × Int) × Int × Bool) (h : (den L K e)[q]? = some x) : x.2.2 = false ∧ x.2.1 + val us x.1 = dz e (K + val us L) q ∧ x.1.length ≤ L.length := by
  have h1 : (norm L).length ≤ L.length := norm_length L
  have h2 : (negL L).length ≤ L.length := by unfold negL; refine Nat.le_trans (norm_length _) ?_; rw [List.length_map]; exact Nat.le_refl _
  unfold den at h
  cases e with
  | false =>
    match q, h with
    | 0, h => simp at h; subst h; refine ⟨rfl, ?_, h2⟩; show -K - 1 + val us (negL L) = _; rw [val_negL]; unfold dz; simp; omega
    | q + 1, h => simp at h
  | true =>
    match q, h with
    | 0, h => simp at h; subst h; refine ⟨rfl, ?_, h1⟩; show K - 1 + val us (norm L) = _; rw [val_norm]; unfold dz; simp; omega
    | 1, h => simp at h; subst h; refine ⟨rfl, ?_, h2⟩; show -K - 1 + val us (negL L) = _; rw [val_negL]; unfold dz; simp; omega
    | q + 2, h => simp at h
theorem den_length (L : List (Int × Int)) (K : Int) (e : Bool) : (den L K e).length = if e then 2 else 1 := by cases e <;> rfl
theorem dcount_end (e : Bool) (Z : Int) : dcount e Z (if e then 2 else 1) = if holdsZ e Z = true then 0 else 1 := by
  cases e with
  | false =>
    show 0 + (if 0 ≤ dz false Z 0 then 1 else 0) = _
    by_cases h : 0 ≤ Z
    · rw [if_pos (show holdsZ false Z = true by simp [holdsZ, h]), if_neg (by unfold dz; simp; omega)]
    · rw [if_neg (show ¬ holdsZ false Z = true by simp [holdsZ]; omega), if_pos (by unfold dz; simp; omega)]
  | true =>
    show 0 + (if 0 ≤ dz true Z 0 then 1 else 0) + (if 0 ≤ dz true Z 1 then 1 else 0) = _
    rw [show dz true Z 0 = Z - 1 by simp [dz], show dz true Z 1 = -Z - 1 by simp [dz]]
    rcases Int.lt_trichotomy Z 0 with h | h | h
    · rw [if_neg (show ¬ holdsZ true Z = true by simp [holdsZ]; omega), if_neg (by omega), if_pos (by omega)]
    · rw [if_pos (show holdsZ true Z = true by simp [holdsZ, h]), if_neg (by omega), if_neg (by omega)]
    · rw [if_neg (show ¬ holdsZ true Z = true by simp [holdsZ]; omega), if_pos (by omega), if_neg (by omega)]
theorem dcount_le (e : Bool) (Z : Int) (q : Nat) : dcount e Z q ≤ q := by
  induction q with
  | zero => exact Nat.le_refl _
  | succ q ih => rw [dcount]; split <;> omega
set_option maxRecDepth 100000 in
set_option maxHeartbeats 8000000 in
theorem relDenies_walk (v : Value) (L : List (Int × Int)) (K : Int) (e0 : Bool) (VA : Option Addr) (vn vc : Nat) (ivs : List IV) (w0 : World) (hv : RIn w0 v L K e0 big) (hvs : ValsIn w0 VA vn ivs big) (hvc1 : vn ≤ vc) (hvc2 : vc ≤ 9223372036854775807) :
    Calls Tryz.prog 6 #[v, .slice VA vn vc] w0 (YesPost w0) := by
  have hvn : vn ≤ 9223372036854775807 := by omega
  obtain ⟨A, n, c, s, B, m, d, rfl, ht⟩ := hv
  obtain ⟨z0, z1, -⟩ := bstart1 30 w0 #[.slice A n c, .bool s, .slice B m d, .bool e0]
  have H1 := hide ht
  have HVS := hide hvs
  clear ht hvs
  go_enter Tryz.func6, Tryz.ntmps6
  go_wp2_with fail
  refine (saying_yes _).mono ?_
  rintro en w2 ⟨rfl, b1⟩
  have q0 := z0.next b1
  have T2 := hide (z1.next b1)
  have x0 := q0.r0
  have x1 := q0.r1
  have x2 := q0.r2
  have x3 := q0.r3
  have Q0 := hide q0
  clear z0 z1 b1 q0
  have bA := bl_alloc w2 (.cells #[.slice A n c, .bool s, .slice B m d, .bool e0] 30)
  have hbx : Box 30 (w2.alloc (.cells #[.slice A n c, .bool s, .slice B m d, .bool e0] 30)) w2.heap.size (flatR [⟨A, n, c, s, B, m, d, e0, L, K⟩]).toArray := Box.new _ _ _
  have hfw := r4few_any (some ⟨w2.heap.size, 0, none⟩) 1 1 1 12 [⟨A, n, c, s, B, m, d, e0, L, K⟩] _ ⟨RelsAt.box hbx, fun t ht => by
    simp only [List.mem_cons, List.not_mem_nil, or_false] at ht
    subst ht
    exact (H1.out.below T2.out).below bA⟩ (by decide) (by decide) (by decide)
  have hfv := r4fewVals_any VA vn vc 20 12 ivs _ (HVS.out.below (T2.out.next bA)) hvn (by decide) (by decide)
  have Q1 := hide (Q0.out.next bA)
  have T3 := hide (T2.out.next bA)
  clear hbx bA
  go_wp2_with fail
  refine hfw.mono ?_
  rintro en w3 ⟨r, rfl, hr, rfl⟩
  have HR := hide hr
  clear x0 x1 x2 x3 hfw hr
  cases r with
  | false =>
    go_wp2_with fail
    go_ret
    exact ⟨rfl, T3.out⟩
  | true =>
    have F1 := hide ((HR.out rfl).2 ⟨A, n, c, s, B, m, d, e0, L, K⟩ (by simp))
    go_wp2_with fail
    refine hfv.mono ?_
    rintro en w4 ⟨r2, rfl, hr2, rfl⟩
    have HR2 := hide hr2
    clear hfv hr2
    cases r2 with
    | false =>
      go_wp2_with fail
      go_ret
      exact ⟨rfl, T3.out⟩
    | true =>
      have HV2 := hide (HR2.out rfl)
      have hv20 : vn ≤ 20 := HV2.out.1
      have HL := hide (show L.length ≤ 20 by
        obtain ⟨h1, A', n', c', s', B', m', d', e2, h2, -⟩ := F1.out
        have h3 : Value.agg #[.slice A n c, .bool s, .slice B m d] = .agg #[.slice A' n' c', .bool s', .slice B' m' d'] := e2
        have h4 : n = n' := by simp at h3; exact h3.1.2.1
        rw [h2.len, ← h4]
        exact h1)
      have hdn := relDeny_any (.agg #[.slice A n c, .bool s, .slice B m d, .bool e0]) L K e0 12 (w2.alloc (.cells #[.slice A n c, .bool s, .slice B m d, .bool e0] 30)) ⟨_, _, _, _, _, _, _, rfl, F1.out.2⟩ (by have := HL.out; omega) (by decide)
      have HRI := hide (show RIn (w2.alloc (.cells #[.slice A n c, .bool s, .slice B m d, .bool e0] 30)) (.agg #[.slice A n c, .bool s, .slice B m d, .bool e0]) L K e0 12 from ⟨_, _, _, _, _, _, _, rfl, F1.out.2⟩)
      have x0 := Q1.out.r0
      have x1 := Q1.out.r1
      have x2 := Q1.out.r2
      have x3 := Q1.out.r3
      go_wp2_with fail
      refine hdn.mono ?_
      rintro en w5 ⟨AD, cD, rs, rfl, hrs, hrd, hd1, hd2, b5⟩
      have T5 := hide (T3.out.next b5)
      have Q5 := hide (Q1.out.next b5)
      have HRI5 := hide (HRI.out.below b5)
      have HV5 := hide (HV2.out.2.below b5)
      have HRS := hide hrs
      have HRD := hide hrd
      have HDL := hide (den_length L K e0)
      have HEND := hide (dcount_end e0 (K + val (nums ivs) L))
      clear hdn x0 x1 x2 x3 hrs hrd b5
      have hdl2 : (den L K e0).length ≤ 2 := by rw [HDL.out]; split <;> omega
      generalize hdl : (den L K e0).length = dl at *
      have HDN := hide hdl
      clear hdl
      go_wp2_with fail
      have HB := hide (Below.refl w5.heap.size w5)
      go_loopw [5, 22] (fun s5 s22 wr => ∃ q : Nat, q ≤ dl ∧ s22 = .int .i64 q ∧ s5 = .int .i64 (dcount e0 (K + val (nums ivs) L) q : Nat) ∧ Hid (Below w5.heap.size w5 wr)) (fun _ s22 _ => dl - (intOf s22).toNat)
      case atStart => exact ⟨0, Nat.zero_le _, rfl, rfl, HB⟩
      case round =>
        obtain ⟨q, hq, rfl, rfl, HBr⟩ := hrel
        by_cases hqd : q < dl
        · obtain ⟨rb, ro, r, rfl, hri, c0, c1, c2, c3⟩ := (HRS.out.1.below HBr.out).at_ hqd
          have htr := (HRS.out.below HBr.out).2 r (List.mem_of_getElem? hri)
          have hda := den_at (nums ivs) L K e0 q r.rd (by rw [← HRD.out, List.getElem?_map, hri]; rfl)
          obtain ⟨hf, hzv, hlr⟩ := hda
          have hfr : r.f = false := hf
          rw [hfr] at c3
          have hlr2 : r.L.length ≤ L.length := hlr
          have hzv2 : r.K + val (nums ivs) r.L = dz e0 (K + val (nums ivs) L) q := hzv
          have y1 := bl_alloc wr (.cells #[.slice r.A r.n r.c, .bool r.s, .slice r.B r.m r.d, .bool false] 30)
          have hho := relHolds_any (.agg #[.slice r.A r.n r.c, .bool r.s, .slice r.B r.m r.d, .bool false]) r.L r.K false (12 + L.length + 3 + L.length) 12 VA vn vc ivs (wr.alloc (.cells #[.slice r.A r.n r.c, .bool r.s, .slice r.B r.m r.d, .bool false] 30)) ⟨_, _, _, _, _, _, _, rfl, (htr.in_).below y1⟩ ((HV5.out.below HBr.out).below y1) hvn (by have := HL.out; omega) (by have := HL.out; omega) (by decide)
          rw [hzv2, show holdsZ false (dz e0 (K + val (nums ivs) L) q) = decide (0 ≤ dz e0 (K + val (nums ivs) L) q) from rfl] at hho
          have HBA := hide (HBr.out.next y1)
          have hcl := dcount_le e0 (K + val (nums ivs) L) q
          have hwc : IntKind.i64.wrap ((dcount e0 (K + val (nums ivs) L) q : Nat) + 1 : Int) = (dcount e0 (K + val (nums ivs) L) q : Nat) + 1 := IntWalk.i64_in _ (by omega)
          by_cases hz : 0 ≤ dz e0 (K + val (nums ivs) L) q
          · have HS := hide (show dcount e0 (K + val (nums ivs) L) (q + 1) = dcount e0 (K + val (nums ivs) L) q + 1 by rw [dcount, if_pos hz])
            rw [decide_eq_true hz] at hho
            clear hri htr hf hzv hlr hfr hlr2 hzv2 hz y1
            generalize dcount e0 (K + val (nums ivs) L) q = dc at *
            go_wp2_with fail
            refine hho.mono ?_
            rintro en w6 ⟨rfl, b6⟩
            clear hho
            go_wp2_with fail
            go_roundw
            case rel => exact ⟨q + 1, by omega, by go_num, by rw [HS.out]; go_num, hide (HBA.out.next b6)⟩
            case measure => simp [intOf] <;> omega
          · have HS := hide (show dcount e0 (K + val (nums ivs) L) (q + 1) = dcount e0 (K + val (nums ivs) L) q by rw [dcount, if_neg hz, Nat.add_zero])
            rw [decide_eq_false hz] at hho
            clear hri htr hf hzv hlr hfr hlr2 hzv2 hz y1
            generalize dcount e0 (K + val (nums ivs) L) q = dc at *
            go_wp2_with fail
            refine hho.mono ?_
            rintro en w6 ⟨rfl, b6⟩
            clear hho
            go_wp2_with fail
            go_roundw
            case rel => exact ⟨q + 1, by omega, by go_num, by rw [HS.out], hide (HBA.out.next b6)⟩
            case measure => simp [intOf] <;> omega
        · obtain rfl : q = dl := by omega
          have x0 := (Q5.out.next HBr.out).r0
          have x1 := (Q5.out.next HBr.out).r1
          have x2 := (Q5.out.next HBr.out).r2
          have x3 := (Q5.out.next HBr.out).r3
          have hho := relHolds_any _ L K e0 12 12 VA vn vc ivs wr (HRI5.out.below HBr.out) (HV5.out.below HBr.out) hvn (by have := HL.out; omega) (by decide) (by decide)
          have HT := hide (T5.out.next HBr.out)
          have hen : dcount e0 (K + val (nums ivs) L) q = if holdsZ e0 (K + val (nums ivs) L) = true then 0 else 1 := by rw [← HEND.out, ← HDL.out]
          generalize dcount e0 (K + val (nums ivs) L) q = dc at *
          cases hh : holdsZ e0 (K + val (nums ivs) L) with
          | true =>
            rw [hh] at hho
            rw [if_pos hh] at hen
            subst hen
            clear hh
            go_wp2_with fail
            refine hho.mono ?_
            rintro en w6 ⟨rfl, b6⟩
            go_wp2_with fail
            go_ret
            exact ⟨rfl, HT.out.next b6⟩
          | false =>
            rw [hh] at hho
            rw [if_neg (by simp [hh])] at hen
            subst hen
            clear hh
            go_wp2_with fail
            refine hho.mono ?_
            rintro en w6 ⟨rfl, b6⟩
            go_wp2_with fail
            go_ret
            exact ⟨rfl, HT.out.next b6⟩
end Go.Proofs.YtdeakieenppmiaaGreatDoor
/- plumblineref03.Content. -/
namespace Go.Proofs.YtdeakieenppmiaaGreatDoor
open Go.RowKit
open Tm

theorem IIn.keepI {w w' : World} {A : Option Addr} {n g q d : Nat} {xs : List Int} {C : Option Addr} {s : Bool} (h : IIn w A n xs) (hb : Blk w g #[.bool s, .slice C q d]) (ho : Only g w w') : IIn w' A n xs := by
  refine ⟨h.1, fun hn => ?_⟩
  obtain ⟨b, o, e, hc⟩ := h.2 hn
  refine ⟨b, o, e, fun j u hu => ?_⟩
  have h1 := hc j u hu
  refine ho.gb.cell h1 (fun hh => ?_)
  injection hh with hh
  have hh' : b = g := hh
  subst hh'
  have hu2 : ∃ x, u = .int .i64 x := by
    obtain ⟨x, -, hx⟩ := List.mem_map.1 (List.mem_of_getElem? hu)
    exact ⟨x, hx.symm⟩
  obtain ⟨x, rfl⟩ := hu2
  rw [cell_of_row w b _ _ _ _ hb] at h1
  match o + j, h1 with
  | 0, h1 => simp at h1
  | 1, h1 => simp at h1
  | i + 2, h1 => simp at h1
set_option maxRecDepth 100000 in
set_option maxHeartbeats 4000000 in
theorem rcontent_any (v : Value) (L : List (Int × Int)) (K : Int) (k : Nat) (w0 : World) (hv : TIn w0 v L K k) (hl : L.length ≤ 1099511) (hk : k ≤ 109951162) : Calls Tryz.prog 39 #[v] w0 (ZPost (content L) (k + L.length) w0) := by
  have hv0 := hv
  obtain ⟨A, n, c, s, B, m, d, rfl, -⟩ := hv
  obtain ⟨z0, z1, z2, z3, z4⟩ := bstart3 28 26 26 w0 #[.slice A n c, .bool s, .slice B m d] #[.bool false, .slice none 0 0] #[.bool false, .slice none 0 0]
  have hva := rvars_any _ L K k _ (hv0.below z3) hl (by omega)
  have x0 := z0.c0
  have x1 := z0.c1
  have x2 := z0.c2
  go_enter Tryz.func39, Tryz.ntmps39
  go_wp2_with fail
  refine hva.mono ?_
  rintro e W1 ⟨AV, cV, rfl, iv, hv1, hv2, b1⟩
  have IV := hide iv
  have HT1 := hide (z3.next b1)
  have hW1 : w0.heap.size + 1 + 1 + 1 ≤ W1.heap.size := by have := b1.size; omega
  have Q0 := hide (z0.next b1)
  have HR1 := hide (z1.next b1)
  have HG := hide (z2.next b1)
  have HV0 := hide hv0
  have HS := hide (show ContRel (w0.heap.size + 1 + 1) W1 (norm L) (k + L.length) 0 W1 from ⟨false, none, 0, 0, z2.next b1, ZRes.zero _ _, Only.refl _ _⟩)
  have hm1 : (vars L).length ≤ 1099511 := by have := vars_length L; omega
  clear x0 x1 x2 hva z0 z1 z2 z3 z4 b1 iv hv0
  generalize hm : (vars L).length = m1 at *
  have HM1 := hide hm
  clear hm
  go_wp2_with fail
  go_loopw [5] (fun i wr => ∃ q : Nat, q ≤ m1 ∧ i = .int .i64 q ∧ Hid (ContRel (w0.heap.size + 1 + 1) W1 (norm L) (k + L.length) q wr)) (fun i _ => m1 - (intOf i).toNat)
  case atStart => exact ⟨0, Nat.zero_le _, rfl, HS⟩
  case round =>
    obtain ⟨q, hq, rfl, HR⟩ := hrel
    obtain ⟨s5, A5, n5, c5, b5, zz5, hB⟩ := HR.out
    have hT : Below w0.heap.size w0 wr := HT1.out.trans (hB.below (by omega) (by omega))
    by_cases hqn : q < m1
    · obtain ⟨bb, o, x, rfl, hlt, hx, c0⟩ := (IV.out.keepI HG.out hB).at_ hqn
      have hLp := norm_get L q x hx
      have HC := hide (show gcdZ (gcdL 0 ((norm L).take q) : Nat) (coef L x) = (gcdL 0 ((norm L).take (q + 1)) : Nat) by unfold gcdZ; rw [gcdL_take_succ 0 _ q _ _ hLp, Int.natAbs_natCast])
      have HB5 := hide b5
      have HZ5 := hide zz5
      have HTT := hide hT
      have HOB := hide hB
      have zt := Box.other Q0.out hB (by omega)
      generalize ((gcdL 0 ((norm L).take q) : Nat) : Int) = Y at *
      have HM := hide (fun W (h : Below wr.heap.size wr W) => rcoef_any _ L K x k W (HV0.out.below (HTT.out.next h)) hl (by omega))
      have SOF := hide (show ∀ W, Below wr.heap.size wr W → (W.cell? ⟨w0.heap.size + 1 + 1, 0, none⟩ = some (.bool s5) ∧ W.cell? ⟨w0.heap.size + 1 + 1, 1, none⟩ = some (.slice A5 n5 c5) ∧ W.cell? ⟨w0.heap.size, 0, none⟩ = some (.slice A n c) ∧ W.cell? ⟨w0.heap.size, 1, none⟩ = some (.bool s) ∧ W.cell? ⟨w0.heap.size, 2, none⟩ = some (.slice B m d) ∧ W.cell? ⟨bb, o + q, none⟩ = some (.int .i64 x)) from fun W h => ⟨(Blk.next HB5.out h).c0, (Blk.next HB5.out h).c1, (zt.next h).c0, (zt.next h).c1, (zt.next h).c2, (h.cell (p := ⟨bb, o + q, none⟩) hlt).trans c0⟩)
      clear b5 zz5 hT hB zt HR hx hLp c0
      go_wp2_with fail
      refine wp_drawnL (by kernel_rfl) (by kernel_rfl) (by kernel_rfl) (by kernel_rfl) (fun w w' => Below w.heap.size w w') (fun j v w => match j with | 0 => v = .agg #[.bool s5, .slice A5 n5 c5] | 1 => v = .agg #[.slice A n c, .bool s, .slice B m d] | 2 => v = .slice (some ⟨bb, o, none⟩) m1 cV | 3 => v = .int .i64 (q : Int) | 4 => v = .pointer (some ⟨bb, o + q, none⟩) | 5 => v = .int .i64 x | 6 => ZRes w v (coef L x) (k + L.length) | 7 => ZRes w v (gcdZ Y (coef L x)) (k + L.length) | _ => True) (fun _ _ w => Below wr.heap.size wr w) ?_ (fun _ => bl_drewN wr 1) ?_ ?_
      · intro j v w w' hT h
        match j, h with
        | 0, h => exact h
        | 1, h => exact h
        | 2, h => exact h
        | 3, h => exact h
        | 4, h => exact h
        | 5, h => exact h
        | 6, h => exact h.below hT
        | 7, h => exact h.below hT
        | j + 8, h => trivial
      · refine ⟨?_, ?_, ?_, ?_, ?_, ?_, ?_, ?_, trivial⟩
        · intro listed σ w a hin hout hl hla hs hc hp hG hF
          refine Guarded.none rfl ?_
          have e3 : a.tmps.getD 3 undef = .pointer (some ⟨w0.heap.size + 1 + 1, 0, none⟩) := hout 3 (outB_spec (by kernel_rfl))
          have CC := SOF.out w hG; obtain ⟨C0, C1, D0, D1, D2, E0⟩ := CC
          refine Does.val (.agg #[.bool s5, .slice A5 n5 c5]) (w' := w) ?_ ⟨Below.refl _ _, rfl, hG⟩
          go_simp
        · intro listed σ w a hin hout hl hla hs hc hp hG hF
          refine Guarded.none rfl ?_
          have e1 : a.tmps.getD 1 undef = .pointer (some ⟨w0.heap.size, 0, none⟩) := hout 1 (outB_spec (by kernel_rfl))
          have CC := SOF.out w hG; obtain ⟨C0, C1, D0, D1, D2, E0⟩ := CC
          refine Does.val (.agg #[.slice A n c, .bool s, .slice B m d]) (w' := w) ?_ ⟨Below.refl _ _, rfl, hG⟩
          go_simp
        · intro listed σ w a hin hout hl hla hs hc hp hG hF
          refine Guarded.none rfl ?_
          have e4 : a.tmps.getD 4 undef = .slice (some ⟨bb, o, none⟩) m1 cV := hout 4 (outB_spec (by kernel_rfl))
          refine Does.val (.slice (some ⟨bb, o, none⟩) m1 cV) (w' := w) ?_ ⟨Below.refl _ _, rfl, hG⟩
          simp only [Array.getD_eq_getD_getElem?] at e4
          go_simp
        · intro listed σ w a hin hout hl hla hs hc hp hG hF
          refine Guarded.none rfl ?_
          have e5 : a.tmps.getD 5 undef = .int .i64 (q : Int) := hout 5 (outB_spec (by kernel_rfl))
          refine Does.val (.int .i64 (q : Int)) (w' := w) ?_ ⟨Below.refl _ _, rfl, hG⟩
          simp only [Array.getD_eq_getD_getElem?] at e5
          go_simp
        · intro listed σ w a hin hout hl hla hs hc hp hG hF
          refine Guarded.none rfl ?_
          have e17 : a.tmps.getD 17 undef = .slice (some ⟨bb, o, none⟩) m1 cV := (hin 2 17 rfl (hp ⟨2, .data⟩ (by simp) rfl)).trans (hF 2 (hp ⟨2, .data⟩ (by simp) rfl))
          have e18 : a.tmps.getD 18 undef = .int .i64 (q : Int) := (hin 3 18 rfl (hp ⟨3, .data⟩ (by simp) rfl)).trans (hF 3 (hp ⟨3, .data⟩ (by simp) rfl))
          refine Does.val (.pointer (some ⟨bb, o + q, none⟩)) (w' := w) ?_ ⟨Below.refl _ _, rfl, hG⟩
          simp only [Array.getD_eq_getD_getElem?] at e17 e18
          go_simp
          (try (intro hh; exfalso; omega))
        · intro listed σ w a hin hout hl hla hs hc hp hG hF
          refine Guarded.none rfl ?_
          have e19 : a.tmps.getD 19 undef = .pointer (some ⟨bb, o + q, none⟩) := (hin 4 19 rfl (hp ⟨4, .data⟩ (by simp) rfl)).trans (hF 4 (hp ⟨4, .data⟩ (by simp) rfl))
          have CC := SOF.out w hG; obtain ⟨C0, C1, D0, D1, D2, E0⟩ := CC
          refine Does.val (.int .i64 x) (w' := w) ?_ ⟨Below.refl _ _, rfl, hG⟩
          go_simp
        · intro listed σ w a hin hout hl hla hs hc hp hG hF
          refine Guarded.none rfl ?_
          have e16 : a.tmps.getD 16 undef = .agg #[.slice A n c, .bool s, .slice B m d] := (hin 1 16 rfl (hp ⟨1, .data⟩ (by simp) rfl)).trans (hF 1 (hp ⟨1, .data⟩ (by simp) rfl))
          have e20 : a.tmps.getD 20 undef = .int .i64 x := (hin 5 20 rfl (hp ⟨5, .data⟩ (by simp) rfl)).trans (hF 5 (hp ⟨5, .data⟩ (by simp) rfl))
          refine Does.call ?_ (HM.out w hG) ?_
          · go_simp
          · rintro e w' ⟨v, rfl, z, hb⟩
            exact ⟨_, rfl, hb, z, hG.next hb⟩
        · intro listed σ w a hin hout hl hla hs hc hp hG hF
          refine Guarded.none rfl ?_
          have e15 : a.tmps.getD 15 undef = .agg #[.bool s5, .slice A5 n5 c5] := (hin 0 15 rfl (hp ⟨0, .data⟩ (by simp) rfl)).trans (hF 0 (hp ⟨0, .data⟩ (by simp) rfl))
          have e21 := hin 6 21 rfl (hp ⟨6, .data⟩ (by simp) rfl)
          have z6 := hF 6 (hp ⟨6, .data⟩ (by simp) rfl)
          refine Does.call ?_ (rgcd_z _ _ Y (coef L x) (k + L.length) w (HZ5.out.in_.below hG) z6.in_ (by omega)) ?_
          · go_simp
          · rintro e w' ⟨v, rfl, z, hb⟩
            exact ⟨_, rfl, hb, z, hG.next hb⟩
      · intro o ho
        injection ho with ho; subst ho
        intro listed σ w a hall hin hout hG hF
        refine Guarded.none rfl ?_
        have e3 : a.tmps.getD 3 undef = .pointer (some ⟨w0.heap.size + 1 + 1, 0, none⟩) := hout 3 (outL (by kernel_rfl))
        have e22 := hin 7 22 rfl (by decide)
        have z7 := hF 7 (by decide)
        have z7 := hF 7 (by decide)
        obtain ⟨s8, A8, n8, c8, ev8⟩ := ZRes.form z7
        rw [ev8] at e22 z7
        have HX := hide (Blk.next HB5.out hG)
        refine Does.store_box (T := 26) (cells := #[.bool s8, .slice A8 n8 c8]) rfl e3 e22 (Blk.box HX.out) (by kernel_rfl) rfl (by simp [Value.oneCell']) (fun w2 x9 o9 => ?_)
        rw [show fin _ σ undef _ = (Act.put (Act.put (Act.put (Act.put (Act.put (Act.put (Act.put (Act.put (Act.put _ (some 15) (σ 0)) (some 16) (σ 1)) (some 17) (σ 2)) (some 18) (σ 3)) (some 19) (σ 4)) (some 20) (σ 5)) (some 21) (σ 6)) (some 22) (σ 7)) none undef) from (fin_all hall).trans rfl]
        simp only [Act.put, List.setIfInBounds_toArray, List.set_cons_zero, List.set_cons_succ]
        have HE := hide (show ContRel (w0.heap.size + 1 + 1) W1 (norm L) (k + L.length) (q + 1) w2 from ⟨s8, A8, n8, c8, x9, by rw [← HC.out]; exact z7.only HX.out o9, (HOB.out.next hG).trans o9⟩)
        generalize σ 0 = tt0 at *; generalize σ 1 = tt1 at *; generalize σ 2 = tt2 at *; generalize σ 3 = tt3 at *; generalize σ 4 = tt4 at *; generalize σ 5 = tt5 at *; generalize σ 6 = tt6 at *; generalize σ 7 = tt7 at *
        clear hF hG hall hin hout SOF HM z7 x9 o9 e3 e22 ev8
        go_wp2_with fail
        go_roundw
        case rel => exact ⟨q + 1, by omega, by go_num, HE⟩
        case measure => simp [intOf] <;> omega
    · obtain rfl : q = m1 := by omega
      have HL := hide (show ((gcdL 0 ((norm L).take q) : Nat) : Int) = content L by unfold content; rw [List.take_of_length_le (by rw [← HM1.out]; unfold vars; rw [List.length_map]; exact Nat.le_refl _)])
      have b50 := b5.c0
      have b51 := b5.c1
      have k1 : Blk wr (w0.heap.size + 1) #[.bool false, .slice none 0 0] := Box.other HR1.out hB (by omega)
      have HZ5 := hide zz5
      have HT := hide hT
      clear zz5 b5 HR hB hT
      go_wp2_with (with_reducible refine wpList_store_z rfl _ _ rfl (w0.heap.size + 1) _ _ _ _ rfl rfl _ _ k1 ?_; intro w3 k3 ho3)
      refine bodyPost_z rfl rfl k3 rfl ?_
      refine ⟨_, rfl, ?_, zback HT.out (by omega) ho3⟩
      rw [← HL.out]
      exact HZ5.out.only k1 ho3
end Go.Proofs.YtdeakieenppmiaaGreatDoor
