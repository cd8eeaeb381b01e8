/- Texts of one seat, put together: OpenT Few RPutMath RNumber RBoth. -/
import Derived.Test.YtdeakieenppmiaaGreatB31
import Derived.Test.YtdeakieenppmiaaGreatB18
import Derived.Deep.Slices
import Derived.Deep.Strs
import Derived.Test.YtdeakieenppmiaaGreatB28
import Derived.Test.YtdeakieenppmiaaGreatB29
import Derived.Test.YtdeakieenppmiaaGreatB25
set_option linter.unusedVariables false
/- What a row's argument of type api.Term, []api.Term or api.Int is opened to, as values. -/
namespace Go.Proofs.YtdeakieenppmiaaGreat
open Go.ChangeShapes Go.WideShapes Go.ChangeAt Go.RowKit Go.Deep

theorem cellsInt : Tryz.prog.cellsOf 26 = 2 := by kernel_rfl
theorem cellsBool : Tryz.prog.cellsOf 4 = 1 := by kernel_rfl
theorem cellsNat : Tryz.prog.cellsOf 24 = 1 := by kernel_rfl
theorem cellsI : Tryz.prog.cellsOf 3 = 1 := by kernel_rfl
theorem cellsPart : Tryz.prog.cellsOf 51 = 3 := by kernel_rfl
theorem cellsParts : Tryz.prog.cellsOf 22 = 1 := by kernel_rfl
theorem cellsTerm : Tryz.prog.cellsOf 28 = 3 := by kernel_rfl

/-- The greatest length. -/
def big : Nat := 9223372036854775807
section
variable {H : Type} {enc : TypeId × Value → H} {W : World} {f : Nat} {x : DataW H × List MemPlace} {cs : List Value}
set_option maxRecDepth 100000 in
theorem open_int_cells (h : DataW.trod enc Tryz.prog W 0 (fun _ => true) true f 26 cs = some x) : ∃ s a len cap Z, cs = [.bool s, .slice a len cap] ∧ ZIn W (.agg #[.bool s, .slice a len cap]) Z big := by
  obtain ⟨y0, y1, n, -, hl, h0, h1⟩ := trod_struct2 Tryz.underlying26 h
  rw [cellsInt] at hl
  match cs, hl with
  | [v0, v1], _ =>
    have g0 : DataW.trod enc Tryz.prog W 0 (fun _ => true) true n 4 (([v0, v1].drop 0).take (Tryz.prog.cellsOf 4)) = some y0 := h0
    have g1 : DataW.trod enc Tryz.prog W 0 (fun _ => true) true n 24 (([v0, v1].drop 1).take (Tryz.prog.cellsOf 24)) = some y1 := h1
    rw [cellsBool] at g0
    rw [cellsNat] at g1
    obtain ⟨s, e0, -⟩ := DataW.trod_bool Tryz.underlying4 g0
    injection e0 with e0
    subst e0
    obtain ⟨a, len, cap, xs, rfl, h1, h2, h3⟩ := open_nums1 g1
    exact ⟨s, a, len, cap, _, rfl, s, a, len, cap, xs, rfl, h1, h2, h3, by unfold big; omega, rfl⟩
set_option maxRecDepth 100000 in
theorem open_zin {b : Nat} {v : Value} {d : DataW H} {p : List MemPlace} (hv : Value.okWide Tryz.prog W .any b 26 v)
    (h0 : DataW.Trod enc Tryz.prog W 0 (fun _ => true) true 26 v d p) : ∃ Z, ZIn W v Z big := by
  obtain ⟨s, a, len, cap, xs, rfl, h1, h2, h3⟩ := open_zint hv h0
  exact ⟨_, s, a, len, cap, xs, rfl, h1, h2, h3, by unfold big; omega, rfl⟩
set_option maxRecDepth 100000 in
theorem open_part_cells (h : DataW.trod enc Tryz.prog W 0 (fun _ => true) true f 51 cs = some x) : ∃ p : PV, cs = p.cells ∧ ZIn W p.num p.Z big ∧ -9223372036854775808 ≤ p.v ∧ p.v ≤ 9223372036854775807 := by
  obtain ⟨y0, y1, n, -, hl, h0, h1⟩ := trod_struct2 Tryz.underlying51 h
  rw [cellsPart] at hl
  match cs, hl with
  | [v0, v1, v2], _ =>
    have g0 : DataW.trod enc Tryz.prog W 0 (fun _ => true) true n 3 (([v0, v1, v2].drop 0).take (Tryz.prog.cellsOf 3)) = some y0 := h0
    have g1 : DataW.trod enc Tryz.prog W 0 (fun _ => true) true n 26 (([v0, v1, v2].drop 1).take (Tryz.prog.cellsOf 26)) = some y1 := h1
    rw [cellsI] at g0
    rw [cellsInt] at g1
    obtain ⟨z, e0, -, hw⟩ := DataW.trod_int Tryz.underlying3 g0
    injection e0 with e0
    subst e0
    obtain ⟨s, a, len, cap, Z, e, hz⟩ := open_int_cells g1
    injection e with e1 e
    injection e with e2 e
    subst e1 e2
    exact ⟨⟨z, s, a, len, cap, Z⟩, rfl, hz, (bounds_i64 hw).1, (bounds_i64 hw).2⟩
theorem flat_split (ps : List PV) (j : Nat) (u : Value) (h : (flat ps)[j]? = some u) : ∃ i p r, ps[i]? = some p ∧ j = 3 * i + r ∧ p.cells[r]? = some u ∧ r < 3 := by
  induction ps generalizing j with
  | nil => simp [flat] at h
  | cons p ps ih =>
    rw [flat_cons] at h
    have hl : p.cells.length = 3 := rfl
    by_cases hj : j < 3
    · rw [List.getElem?_append_left (by omega)] at h
      exact ⟨0, p, j, rfl, by omega, h, hj⟩
    · rw [List.getElem?_append_right (by omega), hl] at h
      obtain ⟨i, q, r, h1, h2, h3, h4⟩ := ih _ h
      exact ⟨i + 1, q, r, by simpa using h1, by omega, h3, h4⟩
instance pvSome : Inhabited PV := ⟨⟨0, false, none, 0, 0, 0⟩⟩
set_option maxRecDepth 100000 in
theorem open_parts {v : Value} (hf : DataW.trod enc Tryz.prog W 0 (fun _ => true) true f 22 [v] = some x) : ∃ a len cap ps, v = .slice a len cap ∧ PartsIn W a len ps big ∧ (∀ p ∈ ps, -9223372036854775808 ≤ p.v ∧ p.v ≤ 9223372036854775807) ∧ len ≤ cap ∧ cap ≤ 9223372036854775807 := by
  rcases open_slice Tryz.underlying22 hf with ⟨hcs, _⟩ | ⟨a, len, cap, m, n, D, Pl, hcs, _, hl, hm, hmm, _, hx⟩
  · injection hcs with hcs
    subst hcs
    exact ⟨none, 0, 0, [], rfl, PartsIn.nil _ _ _, fun p hp => by simp at hp, by omega, by omega⟩
  · injection hcs with hcs
    subst hcs
    unfold maxLen at hm
    have hlm : len ≤ m := by rw [hmm]; split <;> omega
    obtain ⟨p, hp⟩ := choose_lt (α := PV) (n := len) (p := fun i p => (∀ r u, p.cells[r]? = some u → W.cell? (a.add (i * 3 + r)) = some u) ∧ ZIn W p.num p.Z big ∧ -9223372036854775808 ≤ p.v ∧ p.v ≤ 9223372036854775807) (fun i hi => by
      obtain ⟨cs, h1, h2⟩ := hx i (by omega)
      rw [cellsPart] at h1
      obtain ⟨_, hlen, hcell⟩ := World.cells?_some h1
      obtain ⟨p, rfl, hz, hb⟩ := open_part_cells h2
      refine ⟨p, fun r u hu => ?_, hz, hb⟩
      have hr : r < 3 := by
        have := (List.getElem?_eq_some_iff.1 hu).1
        have hl : p.cells.length = 3 := rfl
        omega
      rw [← hu, ← hcell r hr, add_add])
    have hall : ∀ q ∈ (List.range len).map p, ∃ i, i < len ∧ q = p i := fun q hq => by
      obtain ⟨i, hi, rfl⟩ := List.mem_map.1 hq
      exact ⟨i, List.mem_range.1 hi, rfl⟩
    refine ⟨some a, len, cap, (List.range len).map p, rfl, ⟨by simp, fun hn => ?_, fun q hq => ?_⟩, fun q hq => ?_, hl, hm⟩
    · have h0 := (hp 0 hn).1 0 _ rfl
      obtain ⟨b, o, spot⟩ := a
      have hspot : spot = none := by simpa [Addr.add] using World.cell?_spot h0
      subst hspot
      refine ⟨b, o, rfl, fun j u hu => ?_⟩
      obtain ⟨i, q, r, h1, rfl, h3, h4⟩ := flat_split _ _ _ hu
      have hi : i < len := by
        have := (List.getElem?_eq_some_iff.1 h1).1
        simpa using this
      have hq : q = p i := by
        rw [List.getElem?_map, List.getElem?_range hi] at h1
        exact (Option.some.inj h1).symm
      subst hq
      have h5 := (hp i hi).1 r u h3
      rw [add_plain] at h5
      rw [show 3 * i + r = i * 3 + r by omega]
      exact h5
    · obtain ⟨i, hi, rfl⟩ := hall q hq
      exact (hp i hi).2.1
    · obtain ⟨i, hi, rfl⟩ := hall q hq
      exact (hp i hi).2.2
set_option maxRecDepth 100000 in
/-- A term as it comes in: also each variable is an int64. -/
theorem open_term_cells (h : DataW.trod enc Tryz.prog W 0 (fun _ => true) true f 28 cs = some x) : ∃ A n c s B m d L K, cs = [.slice A n c, .bool s, .slice B m d] ∧ TIn W (.agg #[.slice A n c, .bool s, .slice B m d]) L K big ∧ ∀ p ∈ L, -9223372036854775808 ≤ p.1 ∧ p.1 ≤ 9223372036854775807 := by
  obtain ⟨y0, y1, n, -, hl, h0, h1⟩ := trod_struct2 Tryz.underlying28 h
  rw [cellsTerm] at hl
  match cs, hl with
  | [v0, v1, v2], _ =>
    have g0 : DataW.trod enc Tryz.prog W 0 (fun _ => true) true n 22 (([v0, v1, v2].drop 0).take (Tryz.prog.cellsOf 22)) = some y0 := h0
    have g1 : DataW.trod enc Tryz.prog W 0 (fun _ => true) true n 26 (([v0, v1, v2].drop 1).take (Tryz.prog.cellsOf 26)) = some y1 := h1
    rw [cellsParts] at g0
    rw [cellsInt] at g1
    obtain ⟨a, len, cap, ps, e0, hp, hb, hl1, hl2⟩ := open_parts g0
    obtain ⟨s, B, m, d, Z, e, hz⟩ := open_int_cells g1
    injection e with e1 e
    injection e with e2 e
    subst e0 e1 e2
    refine ⟨a, len, cap, s, B, m, d, lin ps, Z, rfl, ⟨a, len, cap, s, B, m, d, rfl, ⟨ps, hp, rfl⟩, hl1, hl2, hz⟩, fun p hp => ?_⟩
    obtain ⟨q, hq, rfl⟩ := List.mem_map.1 hp
    exact hb q hq
set_option maxRecDepth 100000 in
theorem open_term {b : Nat} {v : Value} {d : DataW H} {p : List MemPlace} (hv : Value.okWide Tryz.prog W .any b 28 v)
    (h0 : DataW.Trod enc Tryz.prog W 0 (fun _ => true) true 28 v d p) : ∃ L K, TIn W v L K big ∧ ∀ p ∈ L, -9223372036854775808 ≤ p.1 ∧ p.1 ≤ 9223372036854775807 := by
  obtain ⟨cs, rfl, hsz⟩ := okWide_struct Tryz.underlying28 hv
  obtain ⟨fuel, hf⟩ := h0
  obtain ⟨A, n, c, s, B, m, d, L, K, e, h1, h2⟩ := open_term_cells hf
  have e2 : cs = #[.slice A n c, .bool s, .slice B m d] := by
    cases cs
    simp only [Value.cells] at e
    simpa using e
  subst e2
  exact ⟨L, K, h1, h2⟩
end
end Go.Proofs.YtdeakieenppmiaaGreat
/- plumblinelaw03.few. -/
namespace Go.Proofs.YtdeakieenppmiaaGreat
open Go.RowKit

set_option maxRecDepth 100000 in
set_option maxHeartbeats 4000000 in
theorem few_any (A : Option Addr) (n c : Nat) (ts : List TV) (w0 : World) (hx : TermsIn w0 A n ts big) (hn : n ≤ 9223372036854775807) : Calls Tryz.prog 6 #[.slice A n c] w0 (FewPost ts w0) := by
  have HX := hide hx
  have HLN := hide hx.1
  clear hx
  go_enter Tryz.func6, Tryz.ntmps6
  go_wp2_with fail
  have HF := hide (show ∀ i t, i < 0 → ts[i]? = some t → FewT w0 t from fun i t h => by omega)
  have HB := hide (Below.refl w0.heap.size w0)
  go_loopw [9] (fun i wr => ∃ q : Nat, q ≤ n ∧ i = .int .i64 q ∧ Hid (∀ i t, i < q → ts[i]? = some t → FewT w0 t) ∧ Hid (Below w0.heap.size w0 wr)) (fun i _ => n - (intOf i).toNat)
  case atStart => exact ⟨0, Nat.zero_le _, rfl, HF, HB⟩
  case round =>
    obtain ⟨q, hq, rfl, HFq, HBq⟩ := hrel
    obtain ⟨wo, rfl⟩ : ∃ wo : World, wo = wr := ⟨_, rfl⟩
    by_cases hqn : q < n
    · obtain ⟨bb, o, t, rfl, hgt, c0, c1, c2, ht⟩ := (HX.out.below HBq.out).at_ hqn
      obtain ⟨A', n', c', s', B', m', d', e', hp', hc1, hc2, hK⟩ := HX.out.2.2 t (List.mem_of_getElem? hgt)
      clear ht
      have e2 : A' = t.A ∧ n' = t.n ∧ c' = t.c ∧ s' = t.s ∧ B' = t.B ∧ m' = t.m ∧ d' = t.d := by simpa [TV.agg, eq_comm, and_assoc] using e'
      obtain ⟨rfl, rfl, rfl, rfl, rfl, rfl, rfl⟩ := e2
      clear e'
      obtain ⟨ps, hps, hpl⟩ := hp'
      have hm1 := hK.bounds
      have ht1 : t.n ≤ 9223372036854775807 := by omega
      have HPS := hide hps
      have HPL := hide hpl
      have HK := hide hK
      have HT := hide hgt
      obtain ⟨y0, y1, y2⟩ := bstart1 28 wo #[.slice t.A t.n t.c, .bool t.s, .slice t.B t.m t.d]
      have Y0 := hide y0
      have Y1 := hide y1
      clear y0 y1 y2 hps hpl hK hgt
      by_cases h30 : (30 : Int) < t.n
      · go_wp2_with fail
        go_ret
        exact ⟨false, rfl, (fun h => by cases h), HBq.out.next Y1.out⟩
      · by_cases h20 : (20 : Int) < t.m
        · go_wp2_with fail
          go_ret
          exact ⟨false, rfl, (fun h => by cases h), HBq.out.next Y1.out⟩
        · go_wp2_with fail
          have H30 := hide h30
          have H20 := hide h20
          clear h30 h20 c0 c1 c2
          generalize hWo : wo.alloc (.cells #[.slice t.A t.n t.c, .bool t.s, .slice t.B t.m t.d] 28) = Wo at *
          clear hWo
          have HG := hide (show ∀ i x, i < 0 → ps[i]? = some x → x.m ≤ 20 from fun i x h => by omega)
          have HBB := hide (Below.refl Wo.heap.size Wo)
          go_loopw [27] (fun i wr => ∃ r : Nat, r ≤ t.n ∧ i = .int .i64 r ∧ Hid (∀ i x, i < r → ps[i]? = some x → x.m ≤ 20) ∧ Hid (Below Wo.heap.size Wo wr)) (fun i _ => t.n - (intOf i).toNat)
          case atStart => exact ⟨0, Nat.zero_le _, rfl, HG, HBB⟩
          case round =>
            obtain ⟨r, hr, rfl, HGr, HBr⟩ := hrel
            by_cases hrn : r < t.n
            · obtain ⟨pb, po, p, hA, hgp, g0, g1, g2, hpz⟩ := ((HPS.out.below (HBq.out.next Y1.out)).below HBr.out).at_ hrn
              rw [hA] at *
              have hpm := hpz.bounds
              have hgp' := hide hgp
              rw [Nat.mul_comm 3 r] at g0 g1 g2
              rw [← Nat.add_assoc] at g1 g2
              by_cases hp20 : (20 : Int) < p.m
              · go_wp2_with fail
                go_ret
                exact ⟨false, rfl, (fun h => by cases h), ((HBq.out.next Y1.out).next HBr.out).next (bl_alloc _ _)⟩
              · go_wp2_with fail
                go_roundw
                case rel => exact ⟨r + 1, by omega, by go_num, fun i x hi hx => by
                  by_cases hir : i < r
                  · exact HGr.out i x hir hx
                  · obtain rfl : i = r := by omega
                    rw [hgp'.out] at hx
                    injection hx with hx
                    subst hx
                    omega, hide (HBr.out.next (bl_alloc _ _))⟩
                case measure => simp [intOf] <;> omega
            · obtain rfl : r = t.n := by omega
              go_wp2_with fail
              go_roundw
              case rel => exact ⟨q + 1, by omega, by go_num, fun i x hi hx => by
                  by_cases hir : i < q
                  · exact HFq.out i x hir hx
                  · obtain rfl : i = q := by omega
                    rw [HT.out] at hx
                    injection hx with hx
                    subst hx
                    have h30 := H30.out
                    have h20 := H20.out
                    refine ⟨by omega, t.A, t.n, t.c, t.s, t.B, t.m, t.d, rfl, ⟨ps, ⟨HPS.out.1, HPS.out.2.1, fun p hp => ?_⟩, HPL.out⟩, hc1, hc2, HK.out.cut (by omega)⟩
                    obtain ⟨y, hy, hyp⟩ := List.mem_iff_getElem.1 hp
                    exact (HPS.out.2.2 p hp).cut (HGr.out y p (by have := HPS.out.1; omega) (by rw [List.getElem?_eq_getElem hy, hyp])), hide ((HBq.out.next Y1.out).next HBr.out)⟩
              case measure => simp [intOf] <;> omega
    · obtain rfl : q = n := by omega
      go_wp2_with fail
      go_ret
      refine ⟨true, rfl, fun _ t ht => ?_, HBq.out⟩
      obtain ⟨i, hi, hit⟩ := List.mem_iff_getElem.1 ht
      exact HFq.out i t (by have := HLN.out; omega) (by rw [List.getElem?_eq_getElem hi, hit])
end Go.Proofs.YtdeakieenppmiaaGreat
/- What plumblineref03.PutAll makes, on plain numbers. -/
namespace Go.Proofs.YtdeakieenppmiaaGreat
open Tm

theorem place_nil (ts : List (List (Int × Int) × Int)) (v : Int) : place [] ts v = ([(v, 1)], 0) := rfl
theorem place_cons (x : Int) (vs : List Int) (t : List (Int × Int) × Int) (ts : List (List (Int × Int) × Int)) (v : Int) : place (x :: vs) (t :: ts) v = if x = v then t else place vs ts v := by
  unfold place
  rw [firstAt]
  by_cases h : x = v
  · rw [if_pos h, if_pos h]; rfl
  · rw [if_neg h, if_neg h]
    cases hf : firstAt v vs with
    | none => rfl
    | some i => simp
theorem place_short (vs : List Int) (v : Int) : place vs [] v = ([(v, 1)], 0) := by
  unfold place
  cases hf : firstAt v vs with
  | none => rfl
  | some i => rfl
theorem place_drop (vs : List Int) (ts : List (List (Int × Int) × Int)) (k : Nat) (x v : Int) (h : vs[k]? = some x) :
    place (vs.drop k) (ts.drop k) v = if x = v then ts.getD k ([(v, 1)], 0) else place (vs.drop (k + 1)) (ts.drop (k + 1)) v := by
  obtain ⟨hk, hx⟩ := List.getElem?_eq_some_iff.1 h
  rw [List.drop_eq_getElem_cons hk, hx]
  rcases Nat.lt_or_ge k ts.length with h2 | h2
  · rw [List.drop_eq_getElem_cons h2, place_cons, List.getD_eq_getElem?_getD, List.getElem?_eq_getElem h2]
    rfl
  · rw [List.drop_eq_nil_of_le h2, List.drop_eq_nil_of_le (show ts.length ≤ k + 1 by omega), place_short, place_short, List.getD_eq_getElem?_getD, List.getElem?_eq_none h2]
    simp
theorem rput_step (vs : List Int) (ts : List (List (Int × Int) × Int)) (L : List (Int × Int)) (q : Nat) (u c : Int) (h : L[q]? = some (u, c)) :
    norm (norm (putL vs ts (L.take q)) ++ norm ((place vs ts u).1.map fun r => (r.1, r.2 * c))) = norm (putL vs ts (L.take (q + 1))) := by
  rw [putL_take_succ _ _ _ _ _ _ h, show ((place vs ts u).1.map fun r => (r.1, c * r.2)) = (place vs ts u).1.map (fun r => (r.1, r.2 * c)) from List.map_congr_left fun r _ => by rw [Int.mul_comm]]
  exact norm_append_congr (fun v => norm_coef _ v) (fun v => norm_coef _ v)
theorem rput_stepK (vs : List Int) (ts : List (List (Int × Int) × Int)) (L : List (Int × Int)) (q : Nat) (u c K : Int) (h : L[q]? = some (u, c)) :
    K + putK vs ts (L.take q) + (place vs ts u).2 * c = K + putK vs ts (L.take (q + 1)) := by
  rw [putK_take_succ _ _ _ _ _ _ h, Int.mul_comm, Int.add_assoc]
theorem place_length (vs : List Int) (ts : List (List (Int × Int) × Int)) (v : Int) (b : Nat) (hb : 1 ≤ b) (h : ∀ t ∈ ts, t.1.length ≤ b) : (place vs ts v).1.length ≤ b := by
  unfold place
  cases hf : firstAt v vs with
  | none => simpa using hb
  | some i =>
    show (ts.getD i ([(v, 1)], 0)).1.length ≤ b
    rw [List.getD_eq_getElem?_getD]
    cases hg : ts[i]? with
    | none => simpa using hb
    | some t => exact h t (List.mem_of_getElem? hg)
theorem putL_length (vs : List Int) (ts : List (List (Int × Int) × Int)) (b : Nat) (hb : 1 ≤ b) (h : ∀ t ∈ ts, t.1.length ≤ b) (L : List (Int × Int)) : (putL vs ts L).length ≤ L.length * b := by
  induction L with
  | nil => simp [putL]
  | cons p ps ih =>
    rw [putL, List.length_append, List.length_map, List.length_cons, Nat.add_mul, Nat.one_mul]
    have := place_length vs ts p.1 b hb h
    omega
theorem vars_range (L : List (Int × Int)) (q : Nat) (x : Int) (h : (vars L)[q]? = some x) : norm [(x, 1)] = [(x, 1)] := by
  have h1 := Up.gt (vars_up L) x (List.mem_of_getElem? h)
  exact norm_id ⟨h1, by decide, trivial⟩
end Go.Proofs.YtdeakieenppmiaaGreat
/- plumblineref03.Number. -/
namespace Go.Proofs.YtdeakieenppmiaaGreat
open Go.RowKit

set_option maxHeartbeats 1000000 in
theorem rnumber_t (v : Value) (Z : Int) (k : Nat) (w : World) (hv : ZIn w v Z k) (hk : k ≤ 1099511627776) : Calls Tryz.prog 25 #[v] w (TPost [] Z k w) := by
  have hv0 := hv
  obtain ⟨s, A, n, c, xs, rfl, -⟩ := hv
  obtain ⟨z0, z1, z2, -⟩ := bstart2 26 28 w #[.bool s, .slice A n c] #[.slice none 0 0, .bool false, .slice none 0 0]
  have hf := clean_z _ Z k _ (hv0.below z2) hk
  have c0 := Blk.c0 z0
  have c1 := Blk.c1 z0
  go_enter Tryz.func25, Tryz.ntmps25
  go_wp2_with fail
  refine hf.mono ?_
  rintro e w1 ⟨v1, rfl, r1, b1⟩
  obtain ⟨s1, A1, n1, c1, rfl⟩ := r1.form
  have k1 := z1.next b1
  go_wp2_with (with_reducible refine wpList_store_t rfl _ _ rfl (w.heap.size + 1) _ _ _ _ _ _ _ rfl rfl _ _ _ k1 ?_; intro w3 k3 ho3)
  refine bodyPost_t rfl rfl k3 rfl ?_
  exact ⟨_, rfl, (TRes.number r1 (w' := w) (v := undef)).only k1 ho3, zback (z2.next b1) (by omega) ho3⟩
end Go.Proofs.YtdeakieenppmiaaGreat
/- plumblineref03.both. -/
namespace Go.Proofs.YtdeakieenppmiaaGreat
open Go.RowKit
open Tm

def BothRel (w0 : World) (os : List PV) (s : Value) (wr : World) : Prop := LRow 51 3 wr w0.heap.size s os.length (flat os) ∧ Below w0.heap.size w0 wr
set_option maxRecDepth 100000 in
set_option maxHeartbeats 2000000 in
theorem both_any (A B : Option Addr) (n c m d k : Nat) (ps qs : List PV) (w0 : World) (hp : PartsIn w0 A n ps k) (hq : PartsIn w0 B m qs k) (hn : n ≤ 500000) (hm : m ≤ 500000) :
    Calls Tryz.prog 62 #[.slice A n c, .slice B m d] w0 (ConcatPost ps qs k w0) := by
  have hpl := hide hp.1
  have hql := hide hq.1
  have HPP := hide hp
  have HQQ := hide hq
  have hpn : ps.length = n := hp.1
  have hqn' : qs.length = m := hq.1
  obtain ⟨y0, y1, -⟩ := bstart1 51 w0 #[]
  have HS := hide (show BothRel w0 (ps.take 0) (.slice (some ⟨w0.heap.size, 0, none⟩) 0 0) (w0.alloc (.cells #[] 51)) from ⟨LRow.made #[] 0 (Nat.le_refl _) (by unfold maxLen; omega) rfl (fun u hu => by simp at hu), y1⟩)
  clear y0 y1 hp hq
  go_enter Tryz.func62, Tryz.ntmps62
  go_wp2_with fail
  go_loopw [5, 6] (fun s i wr => ∃ q : Nat, q ≤ n ∧ i = .int .i64 q ∧ Hid (BothRel w0 (ps.take q) s wr)) (fun _ i _ => n - (intOf i).toNat)
  case atStart => exact ⟨0, Nat.zero_le _, rfl, HS⟩
  case round =>
    obtain ⟨q, hq, rfl, HR⟩ := hrel
    obtain ⟨lr, hB⟩ := HR.out
    have HL := hide lr
    have HB := hide hB
    have hsz := hB.size
    have hle : (ps.take q).length + 1 ≤ 1099511627776 := by simp; omega
    by_cases hqn : q < n
    · obtain ⟨bb, o, p, rfl, hlt, hu, c0, c1, c2, hz⟩ := (HPP.out.below hB).at3 hqn
      have HE := hide (show ∀ v' w', LRow 51 3 w' w0.heap.size v' (ps.take q ++ [p]).length (flat (ps.take q ++ [p])) → Below w0.heap.size w0 w' → BothRel w0 (ps.take (q + 1)) v' w' from fun v' w' h1 h2 => by
        have e : ps.take (q + 1) = ps.take q ++ [p] := by rw [List.take_add_one, hu]; simp
        rw [e]
        exact ⟨h1, h2⟩)
      clear hz hu HR lr hB
      go_wp2_with (at_builtin; refine wpList_append_parts rfl _ _ rfl w0.heap.size _ (ps.take q) rfl (HL.out.below (bl_alloc _ _)) _ 0 1 1 [p] rfl rfl (cells_newS _ p _ rfl) hle (by simp; omega) ?_; intro v' w1 l1 g1)
      have HE1 := hide (HE.out v' w1 l1 ((HL.out.below (bl_alloc wr (.cells #[.int .i64 p.v, .bool p.s, .slice p.B p.m p.d] 51))).old (HB.out.trans ((bl_alloc wr (.cells #[.int .i64 p.v, .bool p.s, .slice p.B p.m p.d] 51)).mono hsz)) g1 (Nat.le_refl _) (Nat.le_refl _)))
      clear l1 g1 c0 c1 c2
      go_wp2_with fail
      go_roundw
      case rel => exact ⟨q + 1, by omega, by go_num, HE1⟩
      case measure => simp [intOf] <;> omega
    · obtain rfl : q = n := by omega
      have HS1 := hide (show BothRel w0 (ps ++ qs.take 0) _ wr from by have h := HR.out; rw [List.take_of_length_le (by omega)] at h; simpa using h)
      clear HR lr hB HL HB hle hsz HS
      go_wp2_with fail
      go_loopw [5, 7] (fun s i wr => ∃ q : Nat, q ≤ m ∧ i = .int .i64 q ∧ Hid (BothRel w0 (ps ++ qs.take q) s wr)) (fun _ i _ => m - (intOf i).toNat)
      case atStart => exact ⟨0, Nat.zero_le _, rfl, HS1⟩
      case round =>
        obtain ⟨q, hq, rfl, HR⟩ := hrel
        obtain ⟨lr, hB⟩ := HR.out
        have HL := hide lr
        have HB := hide hB
        have hsz := hB.size
        have hle : (ps ++ qs.take q).length + 1 ≤ 1099511627776 := by simp; omega
        by_cases hqn : q < m
        · obtain ⟨bb, o, p, rfl, hlt, hu, c0, c1, c2, hz⟩ := (HQQ.out.below hB).at3 hqn
          have HE := hide (show ∀ v' w', LRow 51 3 w' w0.heap.size v' (ps ++ qs.take q ++ [p]).length (flat (ps ++ qs.take q ++ [p])) → Below w0.heap.size w0 w' → BothRel w0 (ps ++ qs.take (q + 1)) v' w' from fun v' w' h1 h2 => by
            have e : ps ++ qs.take (q + 1) = ps ++ qs.take q ++ [p] := by rw [List.take_add_one, hu]; simp
            rw [e]
            exact ⟨h1, h2⟩)
          clear hz hu HR lr hB
          go_wp2_with (at_builtin; refine wpList_append_parts rfl _ _ rfl w0.heap.size _ (ps ++ qs.take q) rfl (HL.out.below (bl_alloc _ _)) _ 0 1 1 [p] rfl rfl (cells_newS _ p _ rfl) hle (by simp; omega) ?_; intro v' w1 l1 g1)
          have HE1 := hide (HE.out v' w1 l1 ((HL.out.below (bl_alloc wr (.cells #[.int .i64 p.v, .bool p.s, .slice p.B p.m p.d] 51))).old (HB.out.trans ((bl_alloc wr (.cells #[.int .i64 p.v, .bool p.s, .slice p.B p.m p.d] 51)).mono hsz)) g1 (Nat.le_refl _) (Nat.le_refl _)))
          clear l1 g1 c0 c1 c2
          go_wp2_with fail
          go_roundw
          case rel => exact ⟨q + 1, by omega, by go_num, HE1⟩
          case measure => simp [intOf] <;> omega
        · obtain rfl : q = m := by omega

          have HE := hide (show LRow 51 3 wr w0.heap.size _ (ps ++ qs).length (flat (ps ++ qs)) from by have h := HL.out; rwa [List.take_of_length_le (by omega)] at h)
          obtain ⟨A9, c9, hv9, h91, h92, -⟩ := HE.out.len
          subst hv9
          have HP9 := hide (HE.out.parts (k := k) rfl (fun p hp => by
            rcases List.mem_append.1 hp with h | h
            · exact (HPP.out.2.2 p h).below HB.out
            · exact (HQQ.out.2.2 p h).below HB.out))
          clear HR lr hB HL hle hsz
          go_wp2_with fail
          go_ret
          exact ⟨A9, _, c9, rfl, HP9.out, h91, h92, HB.out⟩
end Go.Proofs.YtdeakieenppmiaaGreat
