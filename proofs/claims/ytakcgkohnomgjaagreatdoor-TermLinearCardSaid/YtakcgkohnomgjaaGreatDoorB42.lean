/- Texts of one seat, put together: Open OpenZ OpenT Few RefZCmp TermShrinks. -/
import Derived.Test.YtakcgkohnomgjaaGreatDoorB02
import Derived.ProofKit
import Derived.OpenShut
import Derived.ShutString
import Derived.ChangeOld
import Derived.Below
import Derived.Lib.SmallJoins
import Derived.Test.YtakcgkohnomgjaaGreatDoorB18
import Derived.Deep.Slices
import Derived.Deep.Strs
import Derived.Test.YtakcgkohnomgjaaGreatDoorB36
import Derived.Test.YtakcgkohnomgjaaGreatDoorB41
set_option linter.unusedVariables false
/- What the row's arguments are opened to. -/
namespace Go.Proofs.YtakcgkohnomgjaaGreatDoor
open Go.ChangeShapes Go.WideShapes Go.ChangeAt Go.RowKit
open Go.ChangeMaps (open_string shut_string)

theorem own : ownKnob Tryz.prog.godebug = none := by kernel_rfl
theorem laidOut : laidOutB Tryz.prog = true := by kernel_rfl

theorem wf_u32 {z : Int} (h : (Lit.int .u32 z).wf = true) : 0 ≤ z ∧ z < 4294967296 := by
  have h1 : IntKind.u32.min = 0 := rfl
  have h2 : IntKind.u32.max = 4294967295 := rfl
  simp only [Lit.wf, Bool.and_eq_true, decide_eq_true_eq] at h
  omega

theorem open_nums {H : Type} {enc : TypeId × Value → H} {W : World} {a0 : Option Addr} {len0 cap0 : Nat} {d : DataW H} {p : List MemPlace}
    (h0 : DataW.Trod enc Tryz.prog W 0 (fun _ => true) true 24 (.slice a0 len0 cap0) d p) : ∃ xs, Nums W a0 len0 xs ∧ len0 ≤ cap0 ∧ cap0 ≤ 9223372036854775807 := by
  obtain ⟨fuel, hf⟩ := h0
  rcases open_ints Tryz.underlying24 Tryz.underlying86 (by kernel_rfl) hf with ⟨hcs, _⟩ | ⟨x, l, c, zs, hcs, _, hl, hm, hz, _, hcell, hwz⟩
  · simp [Value.cells] at hcs
    obtain ⟨rfl, rfl, rfl⟩ := hcs
    exact ⟨[], Nums.nil _ _, by omega, by omega⟩
  · simp [Value.cells] at hcs
    obtain ⟨rfl, rfl, rfl⟩ := hcs
    have hz2 : zs.length = cap0 := by simpa using hz
    unfold maxLen at hm
    refine ⟨(zs.take len0).map Int.toNat, ⟨by simp; omega, ?_, ?_⟩, hl, hm⟩
    · intro y hy
      obtain ⟨z, hz1, rfl⟩ := List.mem_map.1 hy
      have := wf_u32 (hwz z (List.mem_of_mem_take hz1))
      omega
    · intro hn
      have h1 := hcell 0 (by omega)
      obtain ⟨b, o, spot⟩ := x
      have hspot : spot = none := by simpa [Addr.add] using World.cell?_spot h1
      subst hspot
      refine ⟨b, o, rfl, fun i hi => ?_⟩
      have h2 := hcell i (by omega)
      have e : (⟨b, o, none⟩ : Addr).add i = ⟨b, o + i, none⟩ := by
        by_cases hi0 : i = 0
        · subst hi0; rfl
        · simp [Addr.add, hi0]
      rw [e] at h2
      rw [h2]
      have hlt : i < zs.length := by omega
      have hw := wf_u32 (hwz zs[i] (List.getElem_mem hlt))
      have e1 : zs.getD i 0 = zs[i] := by rw [List.getD_eq_getElem?_getD, List.getElem?_eq_getElem hlt]; rfl
      have e2 : ((zs.take len0).map Int.toNat).getD i 0 = zs[i].toNat := by
        rw [List.getD_eq_getElem?_getD, List.getElem?_map, List.getElem?_take_of_lt hi, List.getElem?_eq_getElem hlt]; rfl
      rw [e1, e2]
      congr 2
      omega
end Go.Proofs.YtakcgkohnomgjaaGreatDoor
/- What a row's argument of type api.Int is opened to. -/
namespace Go.Proofs.YtakcgkohnomgjaaGreatDoor
open Go.ChangeShapes Go.WideShapes Go.ChangeAt Go.RowKit
open Go.ChangeMaps (open_string shut_string)

theorem open_nums1 {H : Type} {enc : TypeId × Value → H} {W : World} {v : Value} {x : DataW H × List MemPlace} {f : Nat}
    (hf : DataW.trod enc Tryz.prog W 0 (fun _ => true) true f 24 [v] = some x) : ∃ a len cap xs, v = .slice a len cap ∧ Nums W a len xs ∧ len ≤ cap ∧ cap ≤ 9223372036854775807 := by
  rcases open_ints Tryz.underlying24 Tryz.underlying86 (by kernel_rfl) hf with ⟨hcs, _⟩ | ⟨y, l, c, zs, hcs, _⟩
  · injection hcs with hcs
    subst hcs
    exact ⟨none, 0, 0, [], rfl, Nums.nil _ _, by omega, by omega⟩
  · injection hcs with hcs
    subst hcs
    obtain ⟨xs, h1, h2, h3⟩ := open_nums (a0 := some y) (len0 := l) (cap0 := c) (d := x.1) (p := x.2) (W := W) (enc := enc) ⟨f, hf⟩
    exact ⟨some y, l, c, xs, rfl, h1, h2, h3⟩
set_option maxRecDepth 100000 in
theorem open_zint {H : Type} {enc : TypeId × Value → H} {W : World} {b : Nat} {v : Value} {d : DataW H} {p : List MemPlace} (hv : Value.okWide Tryz.prog W .any b 26 v)
    (h0 : DataW.Trod enc Tryz.prog W 0 (fun _ => true) true 26 v d p) : ∃ s a len cap xs, v = .agg #[.bool s, .slice a len cap] ∧ Nums W a len xs ∧ len ≤ cap ∧ cap ≤ 9223372036854775807 := by
  obtain ⟨v0, v1, y0, y1, n, rfl, -, -, t0, t1⟩ := Go.Joins.open_agg2 Tryz.underlying26 (by kernel_rfl) (by kernel_rfl) hv h0
  obtain ⟨s, e0, -⟩ := DataW.trod_bool Tryz.underlying4 t0
  injection e0 with e0
  subst e0
  obtain ⟨a, len, cap, xs, rfl, h1, h2, h3⟩ := open_nums1 t1
  exact ⟨s, a, len, cap, xs, rfl, h1, h2, h3⟩
end Go.Proofs.YtakcgkohnomgjaaGreatDoor
/- What a row's argument of type api.Term, []api.Term or api.Int is opened to, as values. -/
namespace Go.Proofs.YtakcgkohnomgjaaGreatDoor
open Go.ChangeShapes Go.WideShapes Go.ChangeAt Go.RowKit Go.Deep

theorem cellsInt : Tryz.prog.cellsOf 26 = 2 := by kernel_rfl
theorem cellsBool : Tryz.prog.cellsOf 4 = 1 := by kernel_rfl
theorem cellsNat : Tryz.prog.cellsOf 24 = 1 := by kernel_rfl
theorem cellsI : Tryz.prog.cellsOf 3 = 1 := by kernel_rfl
theorem cellsPart : Tryz.prog.cellsOf 55 = 3 := by kernel_rfl
theorem cellsParts : Tryz.prog.cellsOf 22 = 1 := by kernel_rfl
theorem cellsTerm : Tryz.prog.cellsOf 28 = 3 := by kernel_rfl

/-- The greatest length. -/
def big : Nat := 9223372036854775807
section
variable {H : Type} {enc : TypeId × Value → H} {W : World} {f : Nat} {x : DataW H × List MemPlace} {cs : List Value}
set_option maxRecDepth 100000 in
theorem open_int_cells (h : DataW.trod enc Tryz.prog W 0 (fun _ => true) true f 26 cs = some x) : ∃ s a len cap Z, cs = [.bool s, .slice a len cap] ∧ ZIn W (.agg #[.bool s, .slice a len cap]) Z big := by
  obtain ⟨y0, y1, n, -, hl, h0, h1⟩ := trod_struct2 Tryz.underlying26 h
  rw [cellsInt] at hl
  match cs, hl with
  | [v0, v1], _ =>
    have g0 : DataW.trod enc Tryz.prog W 0 (fun _ => true) true n 4 (([v0, v1].drop 0).take (Tryz.prog.cellsOf 4)) = some y0 := h0
    have g1 : DataW.trod enc Tryz.prog W 0 (fun _ => true) true n 24 (([v0, v1].drop 1).take (Tryz.prog.cellsOf 24)) = some y1 := h1
    rw [cellsBool] at g0
    rw [cellsNat] at g1
    obtain ⟨s, e0, -⟩ := DataW.trod_bool Tryz.underlying4 g0
    injection e0 with e0
    subst e0
    obtain ⟨a, len, cap, xs, rfl, h1, h2, h3⟩ := open_nums1 g1
    exact ⟨s, a, len, cap, _, rfl, s, a, len, cap, xs, rfl, h1, h2, h3, by unfold big; omega, rfl⟩
set_option maxRecDepth 100000 in
theorem open_zin {b : Nat} {v : Value} {d : DataW H} {p : List MemPlace} (hv : Value.okWide Tryz.prog W .any b 26 v)
    (h0 : DataW.Trod enc Tryz.prog W 0 (fun _ => true) true 26 v d p) : ∃ Z, ZIn W v Z big := by
  obtain ⟨s, a, len, cap, xs, rfl, h1, h2, h3⟩ := open_zint hv h0
  exact ⟨_, s, a, len, cap, xs, rfl, h1, h2, h3, by unfold big; omega, rfl⟩
set_option maxRecDepth 100000 in
theorem open_part_cells (h : DataW.trod enc Tryz.prog W 0 (fun _ => true) true f 55 cs = some x) : ∃ p : PV, cs = p.cells ∧ ZIn W p.num p.Z big ∧ -9223372036854775808 ≤ p.v ∧ p.v ≤ 9223372036854775807 := by
  obtain ⟨y0, y1, n, -, hl, h0, h1⟩ := trod_struct2 Tryz.underlying55 h
  rw [cellsPart] at hl
  match cs, hl with
  | [v0, v1, v2], _ =>
    have g0 : DataW.trod enc Tryz.prog W 0 (fun _ => true) true n 3 (([v0, v1, v2].drop 0).take (Tryz.prog.cellsOf 3)) = some y0 := h0
    have g1 : DataW.trod enc Tryz.prog W 0 (fun _ => true) true n 26 (([v0, v1, v2].drop 1).take (Tryz.prog.cellsOf 26)) = some y1 := h1
    rw [cellsI] at g0
    rw [cellsInt] at g1
    obtain ⟨z, e0, -, hw⟩ := DataW.trod_int Tryz.underlying3 g0
    injection e0 with e0
    subst e0
    obtain ⟨s, a, len, cap, Z, e, hz⟩ := open_int_cells g1
    injection e with e1 e
    injection e with e2 e
    subst e1 e2
    exact ⟨⟨z, s, a, len, cap, Z⟩, rfl, hz, (bounds_i64 hw).1, (bounds_i64 hw).2⟩
theorem flat_split (ps : List PV) (j : Nat) (u : Value) (h : (flat ps)[j]? = some u) : ∃ i p r, ps[i]? = some p ∧ j = 3 * i + r ∧ p.cells[r]? = some u ∧ r < 3 := by
  induction ps generalizing j with
  | nil => simp [flat] at h
  | cons p ps ih =>
    rw [flat_cons] at h
    have hl : p.cells.length = 3 := rfl
    by_cases hj : j < 3
    · rw [List.getElem?_append_left (by omega)] at h
      exact ⟨0, p, j, rfl, by omega, h, hj⟩
    · rw [List.getElem?_append_right (by omega), hl] at h
      obtain ⟨i, q, r, h1, h2, h3, h4⟩ := ih _ h
      exact ⟨i + 1, q, r, by simpa using h1, by omega, h3, h4⟩
instance pvSome : Inhabited PV := ⟨⟨0, false, none, 0, 0, 0⟩⟩
set_option maxRecDepth 100000 in
theorem open_parts {v : Value} (hf : DataW.trod enc Tryz.prog W 0 (fun _ => true) true f 22 [v] = some x) : ∃ a len cap ps, v = .slice a len cap ∧ PartsIn W a len ps big ∧ (∀ p ∈ ps, -9223372036854775808 ≤ p.v ∧ p.v ≤ 9223372036854775807) ∧ len ≤ cap ∧ cap ≤ 9223372036854775807 := by
  rcases open_slice Tryz.underlying22 hf with ⟨hcs, _⟩ | ⟨a, len, cap, m, n, D, Pl, hcs, _, hl, hm, hmm, _, hx⟩
  · injection hcs with hcs
    subst hcs
    exact ⟨none, 0, 0, [], rfl, PartsIn.nil _ _ _, fun p hp => by simp at hp, by omega, by omega⟩
  · injection hcs with hcs
    subst hcs
    unfold maxLen at hm
    have hlm : len ≤ m := by rw [hmm]; split <;> omega
    obtain ⟨p, hp⟩ := choose_lt (α := PV) (n := len) (p := fun i p => (∀ r u, p.cells[r]? = some u → W.cell? (a.add (i * 3 + r)) = some u) ∧ ZIn W p.num p.Z big ∧ -9223372036854775808 ≤ p.v ∧ p.v ≤ 9223372036854775807) (fun i hi => by
      obtain ⟨cs, h1, h2⟩ := hx i (by omega)
      rw [cellsPart] at h1
      obtain ⟨_, hlen, hcell⟩ := World.cells?_some h1
      obtain ⟨p, rfl, hz, hb⟩ := open_part_cells h2
      refine ⟨p, fun r u hu => ?_, hz, hb⟩
      have hr : r < 3 := by
        have := (List.getElem?_eq_some_iff.1 hu).1
        have hl : p.cells.length = 3 := rfl
        omega
      rw [← hu, ← hcell r hr, add_add])
    have hall : ∀ q ∈ (List.range len).map p, ∃ i, i < len ∧ q = p i := fun q hq => by
      obtain ⟨i, hi, rfl⟩ := List.mem_map.1 hq
      exact ⟨i, List.mem_range.1 hi, rfl⟩
    refine ⟨some a, len, cap, (List.range len).map p, rfl, ⟨by simp, fun hn => ?_, fun q hq => ?_⟩, fun q hq => ?_, hl, hm⟩
    · have h0 := (hp 0 hn).1 0 _ rfl
      obtain ⟨b, o, spot⟩ := a
      have hspot : spot = none := by simpa [Addr.add] using World.cell?_spot h0
      subst hspot
      refine ⟨b, o, rfl, fun j u hu => ?_⟩
      obtain ⟨i, q, r, h1, rfl, h3, h4⟩ := flat_split _ _ _ hu
      have hi : i < len := by
        have := (List.getElem?_eq_some_iff.1 h1).1
        simpa using this
      have hq : q = p i := by
        rw [List.getElem?_map, List.getElem?_range hi] at h1
        exact (Option.some.inj h1).symm
      subst hq
      have h5 := (hp i hi).1 r u h3
      rw [add_plain] at h5
      rw [show 3 * i + r = i * 3 + r by omega]
      exact h5
    · obtain ⟨i, hi, rfl⟩ := hall q hq
      exact (hp i hi).2.1
    · obtain ⟨i, hi, rfl⟩ := hall q hq
      exact (hp i hi).2.2
set_option maxRecDepth 100000 in
/-- A term as it comes in: also each variable is an int64. -/
theorem open_term_cells (h : DataW.trod enc Tryz.prog W 0 (fun _ => true) true f 28 cs = some x) : ∃ A n c s B m d L K, cs = [.slice A n c, .bool s, .slice B m d] ∧ TIn W (.agg #[.slice A n c, .bool s, .slice B m d]) L K big ∧ ∀ p ∈ L, -9223372036854775808 ≤ p.1 ∧ p.1 ≤ 9223372036854775807 := by
  obtain ⟨y0, y1, n, -, hl, h0, h1⟩ := trod_struct2 Tryz.underlying28 h
  rw [cellsTerm] at hl
  match cs, hl with
  | [v0, v1, v2], _ =>
    have g0 : DataW.trod enc Tryz.prog W 0 (fun _ => true) true n 22 (([v0, v1, v2].drop 0).take (Tryz.prog.cellsOf 22)) = some y0 := h0
    have g1 : DataW.trod enc Tryz.prog W 0 (fun _ => true) true n 26 (([v0, v1, v2].drop 1).take (Tryz.prog.cellsOf 26)) = some y1 := h1
    rw [cellsParts] at g0
    rw [cellsInt] at g1
    obtain ⟨a, len, cap, ps, e0, hp, hb, hl1, hl2⟩ := open_parts g0
    obtain ⟨s, B, m, d, Z, e, hz⟩ := open_int_cells g1
    injection e with e1 e
    injection e with e2 e
    subst e0 e1 e2
    refine ⟨a, len, cap, s, B, m, d, lin ps, Z, rfl, ⟨a, len, cap, s, B, m, d, rfl, ⟨ps, hp, rfl⟩, hl1, hl2, hz⟩, fun p hp => ?_⟩
    obtain ⟨q, hq, rfl⟩ := List.mem_map.1 hp
    exact hb q hq
set_option maxRecDepth 100000 in
theorem open_term {b : Nat} {v : Value} {d : DataW H} {p : List MemPlace} (hv : Value.okWide Tryz.prog W .any b 28 v)
    (h0 : DataW.Trod enc Tryz.prog W 0 (fun _ => true) true 28 v d p) : ∃ L K, TIn W v L K big ∧ ∀ p ∈ L, -9223372036854775808 ≤ p.1 ∧ p.1 ≤ 9223372036854775807 := by
  obtain ⟨cs, rfl, hsz⟩ := okWide_struct Tryz.underlying28 hv
  obtain ⟨fuel, hf⟩ := h0
  obtain ⟨A, n, c, s, B, m, d, L, K, e, h1, h2⟩ := open_term_cells hf
  have e2 : cs = #[.slice A n c, .bool s, .slice B m d] := by
    cases cs
    simp only [Value.cells] at e
    simpa using e
  subst e2
  exact ⟨L, K, h1, h2⟩
end
end Go.Proofs.YtakcgkohnomgjaaGreatDoor
/- plumblinelaw03.few. -/
namespace Go.Proofs.YtakcgkohnomgjaaGreatDoor
open Go.RowKit

set_option maxRecDepth 100000 in
set_option maxHeartbeats 4000000 in
theorem few_any (A : Option Addr) (n c : Nat) (ts : List TV) (w0 : World) (hx : TermsIn w0 A n ts big) (hn : n ≤ 9223372036854775807) : Calls Tryz.prog 10 #[.slice A n c] w0 (FewPost ts w0) := by
  have HX := hide hx
  have HLN := hide hx.1
  clear hx
  go_enter Tryz.func10, Tryz.ntmps10
  go_wp2_with fail
  have HF := hide (show ∀ i t, i < 0 → ts[i]? = some t → FewT w0 t from fun i t h => by omega)
  have HB := hide (Below.refl w0.heap.size w0)
  go_loopw [9] (fun i wr => ∃ q : Nat, q ≤ n ∧ i = .int .i64 q ∧ Hid (∀ i t, i < q → ts[i]? = some t → FewT w0 t) ∧ Hid (Below w0.heap.size w0 wr)) (fun i _ => n - (intOf i).toNat)
  case atStart => exact ⟨0, Nat.zero_le _, rfl, HF, HB⟩
  case round =>
    obtain ⟨q, hq, rfl, HFq, HBq⟩ := hrel
    obtain ⟨wo, rfl⟩ : ∃ wo : World, wo = wr := ⟨_, rfl⟩
    by_cases hqn : q < n
    · obtain ⟨bb, o, t, rfl, hgt, c0, c1, c2, ht⟩ := (HX.out.below HBq.out).at_ hqn
      obtain ⟨A', n', c', s', B', m', d', e', hp', hc1, hc2, hK⟩ := HX.out.2.2 t (List.mem_of_getElem? hgt)
      clear ht
      have e2 : A' = t.A ∧ n' = t.n ∧ c' = t.c ∧ s' = t.s ∧ B' = t.B ∧ m' = t.m ∧ d' = t.d := by simpa [TV.agg, eq_comm, and_assoc] using e'
      obtain ⟨rfl, rfl, rfl, rfl, rfl, rfl, rfl⟩ := e2
      clear e'
      obtain ⟨ps, hps, hpl⟩ := hp'
      have hm1 := hK.bounds
      have ht1 : t.n ≤ 9223372036854775807 := by omega
      have HPS := hide hps
      have HPL := hide hpl
      have HK := hide hK
      have HT := hide hgt
      obtain ⟨y0, y1, y2⟩ := bstart1 28 wo #[.slice t.A t.n t.c, .bool t.s, .slice t.B t.m t.d]
      have Y0 := hide y0
      have Y1 := hide y1
      clear y0 y1 y2 hps hpl hK hgt
      by_cases h30 : (30 : Int) < t.n
      · go_wp2_with fail
        go_ret
        exact ⟨false, rfl, (fun h => by cases h), HBq.out.next Y1.out⟩
      · by_cases h20 : (20 : Int) < t.m
        · go_wp2_with fail
          go_ret
          exact ⟨false, rfl, (fun h => by cases h), HBq.out.next Y1.out⟩
        · go_wp2_with fail
          have H30 := hide h30
          have H20 := hide h20
          clear h30 h20 c0 c1 c2
          generalize hWo : wo.alloc (.cells #[.slice t.A t.n t.c, .bool t.s, .slice t.B t.m t.d] 28) = Wo at *
          clear hWo
          have HG := hide (show ∀ i x, i < 0 → ps[i]? = some x → x.m ≤ 20 from fun i x h => by omega)
          have HBB := hide (Below.refl Wo.heap.size Wo)
          go_loopw [27] (fun i wr => ∃ r : Nat, r ≤ t.n ∧ i = .int .i64 r ∧ Hid (∀ i x, i < r → ps[i]? = some x → x.m ≤ 20) ∧ Hid (Below Wo.heap.size Wo wr)) (fun i _ => t.n - (intOf i).toNat)
          case atStart => exact ⟨0, Nat.zero_le _, rfl, HG, HBB⟩
          case round =>
            obtain ⟨r, hr, rfl, HGr, HBr⟩ := hrel
            by_cases hrn : r < t.n
            · obtain ⟨pb, po, p, hA, hgp, g0, g1, g2, hpz⟩ := ((HPS.out.below (HBq.out.next Y1.out)).below HBr.out).at_ hrn
              rw [hA] at *
              have hpm := hpz.bounds
              have hgp' := hide hgp
              rw [Nat.mul_comm 3 r] at g0 g1 g2
              rw [← Nat.add_assoc] at g1 g2
              by_cases hp20 : (20 : Int) < p.m
              · go_wp2_with fail
                go_ret
                exact ⟨false, rfl, (fun h => by cases h), ((HBq.out.next Y1.out).next HBr.out).next (bl_alloc _ _)⟩
              · go_wp2_with fail
                go_roundw
                case rel => exact ⟨r + 1, by omega, by go_num, fun i x hi hx => by
                  by_cases hir : i < r
                  · exact HGr.out i x hir hx
                  · obtain rfl : i = r := by omega
                    rw [hgp'.out] at hx
                    injection hx with hx
                    subst hx
                    omega, hide (HBr.out.next (bl_alloc _ _))⟩
                case measure => simp [intOf] <;> omega
            · obtain rfl : r = t.n := by omega
              go_wp2_with fail
              go_roundw
              case rel => exact ⟨q + 1, by omega, by go_num, fun i x hi hx => by
                  by_cases hir : i < q
                  · exact HFq.out i x hir hx
                  · obtain rfl : i = q := by omega
                    rw [HT.out] at hx
                    injection hx with hx
                    subst hx
                    have h30 := H30.out
                    have h20 := H20.out
                    refine ⟨by omega, t.A, t.n, t.c, t.s, t.B, t.m, t.d, rfl, ⟨ps, ⟨HPS.out.1, HPS.out.2.1, fun p hp => ?_⟩, HPL.out⟩, hc1, hc2, HK.out.cut (by omega)⟩
                    obtain ⟨y, hy, hyp⟩ := List.mem_iff_getElem.1 hp
                    exact (HPS.out.2.2 p hp).cut (HGr.out y p (by have := HPS.out.1; omega) (by rw [List.getElem?_eq_getElem hy, hyp])), hide ((HBq.out.next Y1.out).next HBr.out)⟩
              case measure => simp [intOf] <;> omega
    · obtain rfl : q = n := by omega
      go_wp2_with fail
      go_ret
      refine ⟨true, rfl, fun _ t ht => ?_, HBq.out⟩
      obtain ⟨i, hi, hit⟩ := List.mem_iff_getElem.1 ht
      exact HFq.out i t (by have := HLN.out; omega) (by rw [List.getElem?_eq_getElem hi, hit])
end Go.Proofs.YtakcgkohnomgjaaGreatDoor
/- plumblineref02.Cmp. -/
namespace Go.Proofs.YtakcgkohnomgjaaGreatDoor
open Go.RowKit

set_option maxHeartbeats 1000000 in
theorem rzcmp_z (v u : Value) (Z Y : Int) (k : Nat) (w : World) (hv : ZIn w v Z k) (hu : ZIn w u Y k) (hk : k ≤ 137438953472) :
    Calls Tryz.prog 40 #[v, u] w (CmpZPost Z Y w) := by
  have hE := hide (sgn3_sub Z Y)
  have hv0 := hv
  have hu0 := hu
  obtain ⟨s, A, n, c, xs, rfl, -⟩ := hv
  obtain ⟨t, B, m, d, ys, rfl, -⟩ := hu
  obtain ⟨x0, y0, z2, -⟩ := zstart2 w #[.bool s, .slice A n c] #[.bool t, .slice B m d]
  go_enter Tryz.func40, Tryz.ntmps40
  go_wp2_with fail
  refine (rzsub_z _ _ Z Y k _ (hv0.below z2) (hu0.below z2) hk).mono ?_
  rintro e w1 ⟨v1, rfl, z1, b1⟩
  have hs := rsign_z v1 (Z - Y) (k + 1) w1 z1.in_ (by omega)
  unfold RSignPost at hs
  rw [hE.out] at hs
  go_wp2_with fail
  refine hs.mono ?_
  rintro e w2 ⟨rfl, b2⟩
  go_wp2_with fail
  go_ret
  exact ⟨rfl, (z2.next b1).next b2⟩
end Go.Proofs.YtakcgkohnomgjaaGreatDoor
/- TermShrinks: the walk. -/
namespace Go.Proofs.YtakcgkohnomgjaaGreatDoor
open Go.RowKit
open Tm

theorem cmpT_same {L M : List (Int × Int)} {K J : Int} (h : norm L = norm M) (hk : K = J) : cmpT L M K J = 0 := by
  unfold cmpT
  rw [h, hk, cmpL_zero.2 rfl, cmpZ_zero.2 rfl]
  rfl
theorem rest_range {K g : Int} (hg : 0 < g) : 0 ≤ K - g * K.fdiv g ∧ K - g * K.fdiv g < g := by
  have h := Int.mul_fdiv_add_fmod K g
  have h1 := Int.fmod_nonneg_of_pos K hg
  have h2 := Int.fmod_lt_of_pos K hg
  omega
theorem vars_nil {L : List (Int × Int)} : (vars L).length = 0 ↔ norm L = [] := by
  unfold vars
  rw [List.length_map]
  exact List.length_eq_zero_iff
theorem TIn.opened {w : World} {A B : Option Addr} {n c m d k : Nat} {s : Bool} {L : List (Int × Int)} {K : Int} (h : TIn w (.agg #[.slice A n c, .bool s, .slice B m d]) L K k) : PIn w A n L k ∧ n ≤ c ∧ c ≤ 9223372036854775807 ∧ ZIn w (.agg #[.bool s, .slice B m d]) K k := by
  obtain ⟨A', n', c', s', B', m', d', e, h1, h2, h3, h4⟩ := h
  have e2 : A' = A ∧ n' = n ∧ c' = c ∧ s' = s ∧ B' = B ∧ m' = m ∧ d' = d := by simpa [eq_comm, and_assoc] using e
  obtain ⟨rfl, rfl, rfl, rfl, rfl, rfl, rfl⟩ := e2
  exact ⟨h1, h2, h3, h4⟩
theorem TIn.num {w : World} {A B : Option Addr} {n c m d k : Nat} {s : Bool} {L : List (Int × Int)} {K : Int} (h : TIn w (.agg #[.slice A n c, .bool s, .slice B m d]) L K k) : ZIn w (.agg #[.bool s, .slice B m d]) K k := h.opened.2.2.2
theorem TIn.only {w w' : World} {v : Value} {g m c d q k : Nat} {B C : Option Addr} {s : Bool} {L : List (Int × Int)} {K : Int} (h : TIn w v L K k) (hb : Box 28 w g #[.slice B m c, .bool s, .slice C q d]) (ho : Only g w w') : TIn w' v L K k := by
  have hk : Kp w w' := hb.kp (nlT _ _ _ _ _ _ _) ho
  obtain ⟨A, n, c', s', B', m', d', e, h1, h2, h3, h4⟩ := h
  exact ⟨A, n, c', s', B', m', d', e, h1.keep ho hk (h1.offTerm hb), h2, h3, h4.kp hk⟩
set_option maxRecDepth 100000 in
set_option maxHeartbeats 8000000 in
theorem termShrinks_walk (v : Value) (L : List (Int × Int)) (K : Int) (w0 : World) (hv : TIn w0 v L K big) : Calls Tryz.prog 7 #[v] w0 (YesPost w0) := by
  have hv0 := hv
  obtain ⟨A, n, c, s, B, m, d, rfl, hp, hc1, hc2, hK⟩ := hv
  have HLn := hide hp.len
  obtain ⟨z0, z1, -⟩ := bstart1 28 w0 #[.slice A n c, .bool s, .slice B m d]
  have H1 := hide hv0
  clear hv0 hp hK
  go_enter Tryz.func7, Tryz.ntmps7
  go_wp2_with fail
  refine (looking_yes _).mono ?_
  rintro e w1 ⟨rfl, b1⟩
  go_wp2_with fail
  refine (summing_yes _).mono ?_
  rintro e w2 ⟨rfl, b2⟩
  have q0 := (z0.next b1).next b2
  have HT2 := hide ((z1.next b1).next b2)
  have x0 := q0.c0
  have x1 := q0.c1
  have x2 := q0.c2
  have bA := bl_alloc w2 (.cells #[.slice A n c, .bool s, .slice B m d] 28)
  have hbx : Box 28 (w2.alloc (.cells #[.slice A n c, .bool s, .slice B m d] 28)) w2.heap.size (flatT [⟨A, n, c, s, B, m, d, L, K⟩]).toArray := Box.new _ _ _
  have hfw := few_any (some ⟨w2.heap.size, 0, none⟩) 1 1 _ _ (TermsIn.box (k := big) hbx (fun t ht => by
    simp only [List.mem_cons, List.not_mem_nil, or_false] at ht
    subst ht
    exact (H1.out.below HT2.out).below bA)) (by decide)
  have Q0 := hide (q0.next bA)
  have HT3 := hide (HT2.out.next bA)
  clear z0 z1 b1 b2 q0 hbx bA
  go_wp2_with fail
  refine hfw.mono ?_
  rintro e w3 ⟨r, rfl, hr, b3⟩
  have HR := hide hr
  have HT4 := hide (HT3.out.next b3)
  have p0 := Q0.out.next b3
  have HB3 := hide b3
  clear x0 x1 x2 hfw hr b3
  cases r with
  | false =>
    go_wp2_with fail
    go_ret
    exact ⟨rfl, HT4.out⟩
  | true =>
    have F1 := hide (HR.out rfl ⟨A, n, c, s, B, m, d, L, K⟩ (by simp))
    have HA := hide (show TIn w3 (.agg #[.slice A n c, .bool s, .slice B m d]) L K 20 from F1.out.2.below HB3.out)
    have HL := hide (show L.length ≤ 30 by rw [HLn.out]; exact F1.out.1)
    have hl := HL.out
    have hsh := tshrink_any _ L K 20 w3 HA.out (by omega) (by decide)
    have x0 := p0.c0
    have x1 := p0.c1
    have x2 := p0.c2
    have l0 := p0.lt
    have P0 := hide p0
    clear p0
    go_wp2_with fail
    refine hsh.mono ?_
    rintro e w4 ⟨v4, u4, rfl, r4, z4, b4⟩
    obtain ⟨As, ns, cs, ss, Bs, ms, ds, rfl⟩ := r4.form
    obtain ⟨sg, Bg, mg, dg, rfl⟩ := z4.form
    obtain ⟨g0, g1, a4, a5⟩ := bstart2 28 26 w4 #[.slice As ns cs, .bool ss, .slice Bs ms ds] #[.bool sg, .slice Bg mg dg]
    have l4 := b4.size
    have HS := hide (r4.below a4)
    have HG := hide (z4.below a4)
    have HA4 := hide ((HA.out.below b4).below a4)
    have HT5 := hide ((HT4.out.next b4).next a4)
    have p1 := (P0.out.next b4).next a4
    have hvr := tvars_any _ L K 20 _ HA4.out (by omega) (by decide)
    have y0 := p1.c0
    have y1 := p1.c1
    have y2 := p1.c2
    clear hsh x0 x1 x2 b4 r4 z4
    go_wp2_with fail
    refine hvr.mono ?_
    rintro e w5 ⟨Av, cv, rfl, -, -, -, b5⟩
    have HS5 := hide (HS.out.below b5)
    have HG5 := hide (HG.out.below b5)
    have HA5 := hide (HA4.out.below b5)
    have HT6 := hide (HT5.out.next b5)
    have p2 := p1.next b5
    have k0 := g0.next b5
    have k1 := g1.next b5
    have l5 := Box.lt k1
    have t0 := p2.c0
    have t1 := p2.c1
    have t2 := p2.c2
    have s0 := k0.c0
    have s1 := k0.c1
    have s2 := k0.c2
    have i0 := Blk.c0 k1
    have i1 := Blk.c1 k1
    clear hvr y0 y1 y2 a4 a5 b5 g0 g1 p1
    by_cases hn : norm L = []
    · have hvl : (((vars L).length : Nat) : Int) = 0 := by rw [vars_nil.2 hn]; rfl
      have hvb : ((((vars L).length : Nat) : Int) == 0) = true := by simpa using hvl
      have hc0 : content L = 0 := content_zero.2 hn
      have hrs := rsign_z (.agg #[.bool sg, .slice Bg mg dg]) (content L) (20 + L.length) w5 HG5.out.in_ (by omega)
      unfold RSignPost at hrs
      rw [hc0, show Int.sign 0 = 0 from rfl] at hrs
      have HSM := hide (show cmpT (quot (content L) (norm L)) L (shrK L K) K = 0 from cmpT_same (by rw [hn]; rfl) (by unfold shrK; rw [if_pos hc0]))
      have HQL := hide (show (quot (content L) (norm L)).length ≤ 1099511 by rw [hn]; exact Nat.zero_le _)
      generalize (vars L).length = vl at *
      clear hn hc0 hvl
      go_wp2_with fail
      refine hrs.mono ?_
      rintro e w6 ⟨rfl, b6⟩
      have hsm := tsame_any _ _ _ L (shrK L K) K (20 + L.length) w6 (HS5.out.below b6).in_ ((HA5.out.below b6).mono (by omega)) HQL.out (by omega) (by omega)
      rw [HSM.out] at hsm
      have HT7 := hide (HT6.out.next b6)
      have j0 := p2.next b6
      have j1 := k0.next b6
      have t0 := j0.c0
      have t1 := j0.c1
      have t2 := j0.c2
      have s0 := j1.c0
      have s1 := j1.c1
      have s2 := j1.c2
      unfold BoolIs at hsm
      clear hrs b6 i0 i1
      go_wp2_with fail
      refine hsm.mono ?_
      rintro e w7 ⟨rfl, b7⟩
      go_wp2_with fail
      go_ret
      exact ⟨rfl, HT7.out.next b7⟩
    · have hvb : ((((vars L).length : Nat) : Int) == 0) = false := by
        have h1 : (vars L).length ≠ 0 := fun h => hn (vars_nil.1 h)
        have h2 : (((vars L).length : Nat) : Int) ≠ 0 := by omega
        simpa using h2
      have hc0 : content L ≠ 0 := fun h => hn (content_zero.1 h)
      have hcp : 0 < content L := by have := content_nonneg L; omega
      have HQB := hide (quot_back hc0 (norm L) (content_dvd L))
      have HCQ := hide (content_quot L hc0)
      have HRR := hide (rest_range (K := K) hcp)
      have HSK := hide (show shrK L K = K.fdiv (content L) by unfold shrK; rw [if_neg hc0])
      have HQL := hide (show (quot (content L) (norm L)).length ≤ 30 by unfold quot; rw [List.length_map]; exact Nat.le_trans (norm_length L) HL.out)
      have hql := HQL.out
      have hsc := tscale_any _ (.agg #[.bool sg, .slice Bg mg dg]) (quot (content L) (norm L)) (shrK L K) (content L) (20 + L.length) (20 + L.length) w5 HS5.out.in_ HG5.out.in_ (by omega) (by omega) (by omega)
      rw [HQB.out, norm_norm] at hsc
      generalize (vars L).length = vl at *
      clear hn hc0 hcp
      go_wp2_with fail
      refine hsc.mono ?_
      rintro e w6 ⟨v6, rfl, r6, b6⟩
      obtain ⟨Ab, nb, cb, sb, Bb, mb, db, rfl⟩ := r6.form
      have l6 := b6.size
      obtain ⟨f0, a6, -⟩ := bstart1 28 w6 #[.slice Ab nb cb, .bool sb, .slice Bb mb db]
      obtain ⟨hpb, hb1, hb2, hkb⟩ := TRes.opened (r6.below a6)
      have j0 := (p2.next b6).next a6
      have j1 := (k0.next b6).next a6
      have j2 := (Blk.next k1 b6).next a6
      have hsub := rzsub_z (.agg #[.bool s, .slice B m d]) (.agg #[.bool sb, .slice Bb mb db]) K (content L * shrK L K) (130) _ (((TIn.num HA5.out).below b6).below a6 |>.mono (by omega)) (hkb.in_.mono (by omega)) (by omega)
      have HT7 := hide ((HT6.out.next b6).next a6)
      have HA6 := hide ((HA5.out.below b6).below a6)
      have HS6 := hide ((HS5.out.below b6).below a6)
      have HG6 := hide ((HG5.out.below b6).below a6)
      have HPB := hide hpb
      have t0 := j0.c0
      have t1 := j0.c1
      have t2 := j0.c2
      clear hsc s0 s1 s2 i0 i1 b6 r6 a6 p2 k0 k1 hpb hkb
      go_wp2_with fail
      refine hsub.mono ?_
      rintro e w7 ⟨v7, rfl, r7, b7⟩
      obtain ⟨sr, Br, mr, dr, rfl⟩ := r7.form
      obtain ⟨h0, a7, -⟩ := bstart1 26 w7 #[.bool sr, .slice Br mr dr]
      have m0 := (j0.next b7).next a7
      have m1 := (j1.next b7).next a7
      have m2 := (Blk.next j2 b7).next a7
      have m3 := (f0.next b7).next a7
      have HT8 := hide ((HT7.out.next b7).next a7)
      have HA7 := hide ((HA6.out.below b7).below a7)
      have HS7 := hide ((HS6.out.below b7).below a7)
      have HG7 := hide ((HG6.out.below b7).below a7)
      have HPB7 := hide ((HPB.out.below b7).below a7)
      have HR7 := hide (r7.below a7)
      have n0 : w0.heap.size ≠ w6.heap.size := by omega
      have n1 : w4.heap.size ≠ w6.heap.size := by omega
      have n2 : w4.heap.size + 1 ≠ w6.heap.size := by omega
      have n3 : w7.heap.size ≠ w6.heap.size := by have := f0.lt; have := b7.size; omega
      have o12 := only_set12 (w7.alloc (.cells #[.bool sr, .slice Br mr dr] 26)) w6.heap.size (.bool s) (.slice B m d)
      have hk12 := m3.kp (nlT _ _ _ _ _ _ _) o12
      have B9 := m3.set_12 (.bool s) (.slice B m d)
      have X0 := m0.other o12 n0
      have X1 := m1.other o12 n1
      have X2 : Blk _ _ _ := Box.other m2 o12 n2
      have X3 : Blk _ _ _ := Box.other h0 o12 n3
      have HA9 := hide (HA7.out.only m3 o12)
      have HS9 := hide (HS7.out.only m3 o12)
      have HG9 := hide (HG7.out.kp hk12)
      have HR9 := hide (HR7.out.kp hk12)
      have HB9 := hide (show TIn _ (.agg #[.slice Ab nb cb, .bool s, .slice B m d]) (norm L) K (130) from ⟨Ab, nb, cb, s, B, m, d, rfl, (HPB7.out.in_.keep o12 hk12 (HPB7.out.offTerm m3)).mono (by omega), hb1, hb2, ((TIn.num HA7.out).kp hk12).mono (by omega)⟩)
      have HT9 := hide (HT8.out.trans (o12.below HT8.out.size (by omega)))
      have t0 := m0.c0
      have t1 := m0.c1
      have t2 := m0.c2
      have u0 := m3.c0
      have u1 := m3.c1
      have u2 := m3.c2
      have v1 := m3.fr 1
      have v2 := m3.fr 2
      have c10 := B9.c0
      have c11 := B9.c1
      have c12 := B9.c2
      have c20 := X0.c0
      have c21 := X0.c1
      have c22 := X0.c2
      clear hsub b7 r7 a7 h0 m0 m1 m2 m3 j0 j1 j2 f0 hk12 o12
      have HTS := hide (cmpT_same (L := norm L) (M := L) (K := K) (J := K) (norm_norm L) rfl)
      have hsm := tsame_any _ _ (norm L) L K K (130) _ HB9.out ((HA9.out).mono (show 20 ≤ 130 by omega)) (Nat.le_trans (norm_length L) (by omega)) (by omega) (by omega)
      rw [HTS.out] at hsm
      unfold BoolIs at hsm
      go_wp2_with fail
      refine hsm.mono ?_
      rintro e wa ⟨rfl, ba⟩
      have hct := tcontent_any _ (quot (content L) (norm L)) (shrK L K) (20 + L.length) wa (HS9.out.below ba).in_ (by omega) (by omega)
      rw [HCQ.out] at hct
      have XA1 := X1.next ba
      have XA2 := Blk.next X2 ba
      have XA3 := Blk.next X3 ba
      have HGa := hide (HG9.out.below ba)
      have HRa := hide (HR9.out.below ba)
      have HTa := hide (HT9.out.next ba)
      have t0 := XA1.c0
      have t1 := XA1.c1
      have t2 := XA1.c2
      clear hsm ba c10 c11 c12 c20 c21 c22 u0 u1 u2 v1 v2 X0 X1 X2 X3 B9
      go_wp2_with fail
      refine hct.mono ?_
      rintro e wb ⟨vb, rfl, rb, bb⟩
      go_wp2_with fail
      refine (rof_z 1 wb (by decide) (by decide)).mono ?_
      rintro e wc ⟨vc, rfl, rc, bc⟩
      have hzs := zsame_yes vb vc 1 _ 2 wc (rb.below bc) rc
      unfold YesPost at hzs
      clear hct
      go_wp2_with fail
      refine hzs.mono ?_
      rintro e wd ⟨rfl, bd⟩
      have XD2 := ((Blk.next XA2 bb).next bc).next bd
      have XD3 := ((Blk.next XA3 bb).next bc).next bd
      have HGd := hide (((HGa.out.below bb).below bc).below bd)
      have HRd := hide (((HRa.out.below bb).below bc).below bd)
      have HTd := hide (((HTa.out.next bb).next bc).next bd)
      have HRE := hide (show K - content L * shrK L K = K - content L * K.fdiv (content L) by rw [HSK.out])
      have hrs := rsign_z (.agg #[.bool sr, .slice Br mr dr]) (K - content L * shrK L K) _ wd HRd.out.in_ (by omega)
      unfold RSignPost at hrs
      have hsg : 0 ≤ (K - content L * shrK L K).sign := by rw [HRE.out]; exact Int.sign_nonneg_iff.2 HRR.out.1
      have i0 := Blk.c0 XD3
      have i1 := Blk.c1 XD3
      generalize (K - content L * shrK L K).sign = sgn at *
      clear hzs bb bc bd XA1 XA2 XA3 t0 t1 t2
      go_wp2_with fail
      refine hrs.mono ?_
      rintro e we ⟨rfl, be⟩
      have hcm := rzcmp_z (.agg #[.bool sr, .slice Br mr dr]) (.agg #[.bool sg, .slice Bg mg dg]) (K - content L * shrK L K) (content L) (130 + 1) we ((HRd.out.below be).in_.mono (by omega)) ((HGd.out.below be).in_.mono (by omega)) (by omega)
      unfold CmpZPost at hcm
      rw [show sgn3 (K - content L * shrK L K) (content L) = -1 from by rw [HRE.out]; exact if_pos HRR.out.2] at hcm
      have XE2 := Blk.next XD2 be
      have XE3 := Blk.next XD3 be
      have j0 := Blk.c0 XE2
      have j1 := Blk.c1 XE2
      have j2 := Blk.c0 XE3
      have j3 := Blk.c1 XE3
      have HTe := hide (HTd.out.next be)
      clear hrs be i0 i1 XD2 XD3
      go_wp2_with fail
      refine hcm.mono ?_
      rintro e wf ⟨rfl, bf⟩
      go_wp2_with fail
      go_ret
      exact ⟨rfl, HTe.out.next bf⟩
end Go.Proofs.YtakcgkohnomgjaaGreatDoor
