/- Texts of one seat, put together: Open OpenZ OpenT Few RefZCmp ApartMath MakeI AppendI. -/
import Derived.Test.YtakcgkohnomgjaaGreatDoorE02
import Derived.ProofKit
import Derived.OpenShut
import Derived.ShutString
import Derived.ChangeOld
import Derived.Below
import Derived.Lib.SmallJoins
import Derived.Test.YtakcgkohnomgjaaGreatDoorE18
import Derived.Deep.Slices
import Derived.Deep.Strs
import Derived.Test.YtakcgkohnomgjaaGreatDoorE36
import Derived.Test.YtakcgkohnomgjaaGreatDoorE31
import Derived.Test.YtakcgkohnomgjaaGreatDoorE03
import Derived.Test.YtakcgkohnomgjaaGreatDoorE29
set_option linter.unusedVariables false
set_option linter.unusedSimpArgs false
/- What the row's arguments are opened to. -/
namespace Go.Proofs.YtakcgkohnomgjaaGreatDoor
open Go.ChangeShapes Go.WideShapes Go.ChangeAt Go.RowKit
open Go.ChangeMaps (open_string shut_string)

theorem own : ownKnob Tryz.prog.godebug = none := by kernel_rfl
theorem laidOut : laidOutB Tryz.prog = true := by kernel_rfl

theorem wf_u32 {z : Int} (h : (Lit.int .u32 z).wf = true) : 0 ≤ z ∧ z < 4294967296 := by
  have h1 : IntKind.u32.min = 0 := rfl
  have h2 : IntKind.u32.max = 4294967295 := rfl
  simp only [Lit.wf, Bool.and_eq_true, decide_eq_true_eq] at h
  omega

theorem open_nums {H : Type} {enc : TypeId × Value → H} {W : World} {a0 : Option Addr} {len0 cap0 : Nat} {d : DataW H} {p : List MemPlace}
    (h0 : DataW.Trod enc Tryz.prog W 0 (fun _ => true) true 24 (.slice a0 len0 cap0) d p) : ∃ xs, Nums W a0 len0 xs ∧ len0 ≤ cap0 ∧ cap0 ≤ 9223372036854775807 := by
  obtain ⟨fuel, hf⟩ := h0
  rcases open_ints Tryz.underlying24 Tryz.underlying86 (by kernel_rfl) hf with ⟨hcs, _⟩ | ⟨x, l, c, zs, hcs, _, hl, hm, hz, _, hcell, hwz⟩
  · simp [Value.cells] at hcs
    obtain ⟨rfl, rfl, rfl⟩ := hcs
    exact ⟨[], Nums.nil _ _, by omega, by omega⟩
  · simp [Value.cells] at hcs
    obtain ⟨rfl, rfl, rfl⟩ := hcs
    have hz2 : zs.length = cap0 := by simpa using hz
    unfold maxLen at hm
    refine ⟨(zs.take len0).map Int.toNat, ⟨by simp; omega, ?_, ?_⟩, hl, hm⟩
    · intro y hy
      obtain ⟨z, hz1, rfl⟩ := List.mem_map.1 hy
      have := wf_u32 (hwz z (List.mem_of_mem_take hz1))
      omega
    · intro hn
      have h1 := hcell 0 (by omega)
      obtain ⟨b, o, spot⟩ := x
      have hspot : spot = none := by simpa [Addr.add] using World.cell?_spot h1
      subst hspot
      refine ⟨b, o, rfl, fun i hi => ?_⟩
      have h2 := hcell i (by omega)
      have e : (⟨b, o, none⟩ : Addr).add i = ⟨b, o + i, none⟩ := by
        by_cases hi0 : i = 0
        · subst hi0; rfl
        · simp [Addr.add, hi0]
      rw [e] at h2
      rw [h2]
      have hlt : i < zs.length := by omega
      have hw := wf_u32 (hwz zs[i] (List.getElem_mem hlt))
      have e1 : zs.getD i 0 = zs[i] := by rw [List.getD_eq_getElem?_getD, List.getElem?_eq_getElem hlt]; rfl
      have e2 : ((zs.take len0).map Int.toNat).getD i 0 = zs[i].toNat := by
        rw [List.getD_eq_getElem?_getD, List.getElem?_map, List.getElem?_take_of_lt hi, List.getElem?_eq_getElem hlt]; rfl
      rw [e1, e2]
      congr 2
      omega
end Go.Proofs.YtakcgkohnomgjaaGreatDoor
/- What a row's argument of type api.Int is opened to. -/
namespace Go.Proofs.YtakcgkohnomgjaaGreatDoor
open Go.ChangeShapes Go.WideShapes Go.ChangeAt Go.RowKit
open Go.ChangeMaps (open_string shut_string)

theorem open_nums1 {H : Type} {enc : TypeId × Value → H} {W : World} {v : Value} {x : DataW H × List MemPlace} {f : Nat}
    (hf : DataW.trod enc Tryz.prog W 0 (fun _ => true) true f 24 [v] = some x) : ∃ a len cap xs, v = .slice a len cap ∧ Nums W a len xs ∧ len ≤ cap ∧ cap ≤ 9223372036854775807 := by
  rcases open_ints Tryz.underlying24 Tryz.underlying86 (by kernel_rfl) hf with ⟨hcs, _⟩ | ⟨y, l, c, zs, hcs, _⟩
  · injection hcs with hcs
    subst hcs
    exact ⟨none, 0, 0, [], rfl, Nums.nil _ _, by omega, by omega⟩
  · injection hcs with hcs
    subst hcs
    obtain ⟨xs, h1, h2, h3⟩ := open_nums (a0 := some y) (len0 := l) (cap0 := c) (d := x.1) (p := x.2) (W := W) (enc := enc) ⟨f, hf⟩
    exact ⟨some y, l, c, xs, rfl, h1, h2, h3⟩
set_option maxRecDepth 100000 in
theorem open_zint {H : Type} {enc : TypeId × Value → H} {W : World} {b : Nat} {v : Value} {d : DataW H} {p : List MemPlace} (hv : Value.okWide Tryz.prog W .any b 26 v)
    (h0 : DataW.Trod enc Tryz.prog W 0 (fun _ => true) true 26 v d p) : ∃ s a len cap xs, v = .agg #[.bool s, .slice a len cap] ∧ Nums W a len xs ∧ len ≤ cap ∧ cap ≤ 9223372036854775807 := by
  obtain ⟨v0, v1, y0, y1, n, rfl, -, -, t0, t1⟩ := Go.Joins.open_agg2 Tryz.underlying26 (by kernel_rfl) (by kernel_rfl) hv h0
  obtain ⟨s, e0, -⟩ := DataW.trod_bool Tryz.underlying4 t0
  injection e0 with e0
  subst e0
  obtain ⟨a, len, cap, xs, rfl, h1, h2, h3⟩ := open_nums1 t1
  exact ⟨s, a, len, cap, xs, rfl, h1, h2, h3⟩
end Go.Proofs.YtakcgkohnomgjaaGreatDoor
/- What a row's argument of type api.Term, []api.Term or api.Int is opened to, as values. -/
namespace Go.Proofs.YtakcgkohnomgjaaGreatDoor
open Go.ChangeShapes Go.WideShapes Go.ChangeAt Go.RowKit Go.Deep

theorem cellsInt : Tryz.prog.cellsOf 26 = 2 := by kernel_rfl
theorem cellsBool : Tryz.prog.cellsOf 4 = 1 := by kernel_rfl
theorem cellsNat : Tryz.prog.cellsOf 24 = 1 := by kernel_rfl
theorem cellsI : Tryz.prog.cellsOf 3 = 1 := by kernel_rfl
theorem cellsPart : Tryz.prog.cellsOf 55 = 3 := by kernel_rfl
theorem cellsParts : Tryz.prog.cellsOf 22 = 1 := by kernel_rfl
theorem cellsTerm : Tryz.prog.cellsOf 28 = 3 := by kernel_rfl

/-- The greatest length. -/
def big : Nat := 9223372036854775807
section
variable {H : Type} {enc : TypeId × Value → H} {W : World} {f : Nat} {x : DataW H × List MemPlace} {cs : List Value}
set_option maxRecDepth 100000 in
theorem open_int_cells (h : DataW.trod enc Tryz.prog W 0 (fun _ => true) true f 26 cs = some x) : ∃ s a len cap Z, cs = [.bool s, .slice a len cap] ∧ ZIn W (.agg #[.bool s, .slice a len cap]) Z big := by
  obtain ⟨y0, y1, n, -, hl, h0, h1⟩ := trod_struct2 Tryz.underlying26 h
  rw [cellsInt] at hl
  match cs, hl with
  | [v0, v1], _ =>
    have g0 : DataW.trod enc Tryz.prog W 0 (fun _ => true) true n 4 (([v0, v1].drop 0).take (Tryz.prog.cellsOf 4)) = some y0 := h0
    have g1 : DataW.trod enc Tryz.prog W 0 (fun _ => true) true n 24 (([v0, v1].drop 1).take (Tryz.prog.cellsOf 24)) = some y1 := h1
    rw [cellsBool] at g0
    rw [cellsNat] at g1
    obtain ⟨s, e0, -⟩ := DataW.trod_bool Tryz.underlying4 g0
    injection e0 with e0
    subst e0
    obtain ⟨a, len, cap, xs, rfl, h1, h2, h3⟩ := open_nums1 g1
    exact ⟨s, a, len, cap, _, rfl, s, a, len, cap, xs, rfl, h1, h2, h3, by unfold big; omega, rfl⟩
set_option maxRecDepth 100000 in
theorem open_zin {b : Nat} {v : Value} {d : DataW H} {p : List MemPlace} (hv : Value.okWide Tryz.prog W .any b 26 v)
    (h0 : DataW.Trod enc Tryz.prog W 0 (fun _ => true) true 26 v d p) : ∃ Z, ZIn W v Z big := by
  obtain ⟨s, a, len, cap, xs, rfl, h1, h2, h3⟩ := open_zint hv h0
  exact ⟨_, s, a, len, cap, xs, rfl, h1, h2, h3, by unfold big; omega, rfl⟩
set_option maxRecDepth 100000 in
theorem open_part_cells (h : DataW.trod enc Tryz.prog W 0 (fun _ => true) true f 55 cs = some x) : ∃ p : PV, cs = p.cells ∧ ZIn W p.num p.Z big ∧ -9223372036854775808 ≤ p.v ∧ p.v ≤ 9223372036854775807 := by
  obtain ⟨y0, y1, n, -, hl, h0, h1⟩ := trod_struct2 Tryz.underlying55 h
  rw [cellsPart] at hl
  match cs, hl with
  | [v0, v1, v2], _ =>
    have g0 : DataW.trod enc Tryz.prog W 0 (fun _ => true) true n 3 (([v0, v1, v2].drop 0).take (Tryz.prog.cellsOf 3)) = some y0 := h0
    have g1 : DataW.trod enc Tryz.prog W 0 (fun _ => true) true n 26 (([v0, v1, v2].drop 1).take (Tryz.prog.cellsOf 26)) = some y1 := h1
    rw [cellsI] at g0
    rw [cellsInt] at g1
    obtain ⟨z, e0, -, hw⟩ := DataW.trod_int Tryz.underlying3 g0
    injection e0 with e0
    subst e0
    obtain ⟨s, a, len, cap, Z, e, hz⟩ := open_int_cells g1
    injection e with e1 e
    injection e with e2 e
    subst e1 e2
    exact ⟨⟨z, s, a, len, cap, Z⟩, rfl, hz, (bounds_i64 hw).1, (bounds_i64 hw).2⟩
theorem flat_split (ps : List PV) (j : Nat) (u : Value) (h : (flat ps)[j]? = some u) : ∃ i p r, ps[i]? = some p ∧ j = 3 * i + r ∧ p.cells[r]? = some u ∧ r < 3 := by
  induction ps generalizing j with
  | nil => simp [flat] at h
  | cons p ps ih =>
    rw [flat_cons] at h
    have hl : p.cells.length = 3 := rfl
    by_cases hj : j < 3
    · rw [List.getElem?_append_left (by omega)] at h
      exact ⟨0, p, j, rfl, by omega, h, hj⟩
    · rw [List.getElem?_append_right (by omega), hl] at h
      obtain ⟨i, q, r, h1, h2, h3, h4⟩ := ih _ h
      exact ⟨i + 1, q, r, by simpa using h1, by omega, h3, h4⟩
instance pvSome : Inhabited PV := ⟨⟨0, false, none, 0, 0, 0⟩⟩
set_option maxRecDepth 100000 in
theorem open_parts {v : Value} (hf : DataW.trod enc Tryz.prog W 0 (fun _ => true) true f 22 [v] = some x) : ∃ a len cap ps, v = .slice a len cap ∧ PartsIn W a len ps big ∧ (∀ p ∈ ps, -9223372036854775808 ≤ p.v ∧ p.v ≤ 9223372036854775807) ∧ len ≤ cap ∧ cap ≤ 9223372036854775807 := by
  rcases open_slice Tryz.underlying22 hf with ⟨hcs, _⟩ | ⟨a, len, cap, m, n, D, Pl, hcs, _, hl, hm, hmm, _, hx⟩
  · injection hcs with hcs
    subst hcs
    exact ⟨none, 0, 0, [], rfl, PartsIn.nil _ _ _, fun p hp => by simp at hp, by omega, by omega⟩
  · injection hcs with hcs
    subst hcs
    unfold maxLen at hm
    have hlm : len ≤ m := by rw [hmm]; split <;> omega
    obtain ⟨p, hp⟩ := choose_lt (α := PV) (n := len) (p := fun i p => (∀ r u, p.cells[r]? = some u → W.cell? (a.add (i * 3 + r)) = some u) ∧ ZIn W p.num p.Z big ∧ -9223372036854775808 ≤ p.v ∧ p.v ≤ 9223372036854775807) (fun i hi => by
      obtain ⟨cs, h1, h2⟩ := hx i (by omega)
      rw [cellsPart] at h1
      obtain ⟨_, hlen, hcell⟩ := World.cells?_some h1
      obtain ⟨p, rfl, hz, hb⟩ := open_part_cells h2
      refine ⟨p, fun r u hu => ?_, hz, hb⟩
      have hr : r < 3 := by
        have := (List.getElem?_eq_some_iff.1 hu).1
        have hl : p.cells.length = 3 := rfl
        omega
      rw [← hu, ← hcell r hr, add_add])
    have hall : ∀ q ∈ (List.range len).map p, ∃ i, i < len ∧ q = p i := fun q hq => by
      obtain ⟨i, hi, rfl⟩ := List.mem_map.1 hq
      exact ⟨i, List.mem_range.1 hi, rfl⟩
    refine ⟨some a, len, cap, (List.range len).map p, rfl, ⟨by simp, fun hn => ?_, fun q hq => ?_⟩, fun q hq => ?_, hl, hm⟩
    · have h0 := (hp 0 hn).1 0 _ rfl
      obtain ⟨b, o, spot⟩ := a
      have hspot : spot = none := by simpa [Addr.add] using World.cell?_spot h0
      subst hspot
      refine ⟨b, o, rfl, fun j u hu => ?_⟩
      obtain ⟨i, q, r, h1, rfl, h3, h4⟩ := flat_split _ _ _ hu
      have hi : i < len := by
        have := (List.getElem?_eq_some_iff.1 h1).1
        simpa using this
      have hq : q = p i := by
        rw [List.getElem?_map, List.getElem?_range hi] at h1
        exact (Option.some.inj h1).symm
      subst hq
      have h5 := (hp i hi).1 r u h3
      rw [add_plain] at h5
      rw [show 3 * i + r = i * 3 + r by omega]
      exact h5
    · obtain ⟨i, hi, rfl⟩ := hall q hq
      exact (hp i hi).2.1
    · obtain ⟨i, hi, rfl⟩ := hall q hq
      exact (hp i hi).2.2
set_option maxRecDepth 100000 in
/-- A term as it comes in: also each variable is an int64. -/
theorem open_term_cells (h : DataW.trod enc Tryz.prog W 0 (fun _ => true) true f 28 cs = some x) : ∃ A n c s B m d L K, cs = [.slice A n c, .bool s, .slice B m d] ∧ TIn W (.agg #[.slice A n c, .bool s, .slice B m d]) L K big ∧ ∀ p ∈ L, -9223372036854775808 ≤ p.1 ∧ p.1 ≤ 9223372036854775807 := by
  obtain ⟨y0, y1, n, -, hl, h0, h1⟩ := trod_struct2 Tryz.underlying28 h
  rw [cellsTerm] at hl
  match cs, hl with
  | [v0, v1, v2], _ =>
    have g0 : DataW.trod enc Tryz.prog W 0 (fun _ => true) true n 22 (([v0, v1, v2].drop 0).take (Tryz.prog.cellsOf 22)) = some y0 := h0
    have g1 : DataW.trod enc Tryz.prog W 0 (fun _ => true) true n 26 (([v0, v1, v2].drop 1).take (Tryz.prog.cellsOf 26)) = some y1 := h1
    rw [cellsParts] at g0
    rw [cellsInt] at g1
    obtain ⟨a, len, cap, ps, e0, hp, hb, hl1, hl2⟩ := open_parts g0
    obtain ⟨s, B, m, d, Z, e, hz⟩ := open_int_cells g1
    injection e with e1 e
    injection e with e2 e
    subst e0 e1 e2
    refine ⟨a, len, cap, s, B, m, d, lin ps, Z, rfl, ⟨a, len, cap, s, B, m, d, rfl, ⟨ps, hp, rfl⟩, hl1, hl2, hz⟩, fun p hp => ?_⟩
    obtain ⟨q, hq, rfl⟩ := List.mem_map.1 hp
    exact hb q hq
set_option maxRecDepth 100000 in
theorem open_term {b : Nat} {v : Value} {d : DataW H} {p : List MemPlace} (hv : Value.okWide Tryz.prog W .any b 28 v)
    (h0 : DataW.Trod enc Tryz.prog W 0 (fun _ => true) true 28 v d p) : ∃ L K, TIn W v L K big ∧ ∀ p ∈ L, -9223372036854775808 ≤ p.1 ∧ p.1 ≤ 9223372036854775807 := by
  obtain ⟨cs, rfl, hsz⟩ := okWide_struct Tryz.underlying28 hv
  obtain ⟨fuel, hf⟩ := h0
  obtain ⟨A, n, c, s, B, m, d, L, K, e, h1, h2⟩ := open_term_cells hf
  have e2 : cs = #[.slice A n c, .bool s, .slice B m d] := by
    cases cs
    simp only [Value.cells] at e
    simpa using e
  subst e2
  exact ⟨L, K, h1, h2⟩
end
end Go.Proofs.YtakcgkohnomgjaaGreatDoor
/- plumblinelaw03.few. -/
namespace Go.Proofs.YtakcgkohnomgjaaGreatDoor
open Go.RowKit

set_option maxRecDepth 100000 in
set_option maxHeartbeats 4000000 in
theorem few_any (A : Option Addr) (n c : Nat) (ts : List TV) (w0 : World) (hx : TermsIn w0 A n ts big) (hn : n ≤ 9223372036854775807) : Calls Tryz.prog 10 #[.slice A n c] w0 (FewPost ts w0) := by
  have HX := hide hx
  have HLN := hide hx.1
  clear hx
  go_enter Tryz.func10, Tryz.ntmps10
  go_wp2_with fail
  have HF := hide (show ∀ i t, i < 0 → ts[i]? = some t → FewT w0 t from fun i t h => by omega)
  have HB := hide (Below.refl w0.heap.size w0)
  go_loopw [9] (fun i wr => ∃ q : Nat, q ≤ n ∧ i = .int .i64 q ∧ Hid (∀ i t, i < q → ts[i]? = some t → FewT w0 t) ∧ Hid (Below w0.heap.size w0 wr)) (fun i _ => n - (intOf i).toNat)
  case atStart => exact ⟨0, Nat.zero_le _, rfl, HF, HB⟩
  case round =>
    obtain ⟨q, hq, rfl, HFq, HBq⟩ := hrel
    obtain ⟨wo, rfl⟩ : ∃ wo : World, wo = wr := ⟨_, rfl⟩
    by_cases hqn : q < n
    · obtain ⟨bb, o, t, rfl, hgt, c0, c1, c2, ht⟩ := (HX.out.below HBq.out).at_ hqn
      obtain ⟨A', n', c', s', B', m', d', e', hp', hc1, hc2, hK⟩ := HX.out.2.2 t (List.mem_of_getElem? hgt)
      clear ht
      have e2 : A' = t.A ∧ n' = t.n ∧ c' = t.c ∧ s' = t.s ∧ B' = t.B ∧ m' = t.m ∧ d' = t.d := by simpa [TV.agg, eq_comm, and_assoc] using e'
      obtain ⟨rfl, rfl, rfl, rfl, rfl, rfl, rfl⟩ := e2
      clear e'
      obtain ⟨ps, hps, hpl⟩ := hp'
      have hm1 := hK.bounds
      have ht1 : t.n ≤ 9223372036854775807 := by omega
      have HPS := hide hps
      have HPL := hide hpl
      have HK := hide hK
      have HT := hide hgt
      obtain ⟨y0, y1, y2⟩ := bstart1 28 wo #[.slice t.A t.n t.c, .bool t.s, .slice t.B t.m t.d]
      have Y0 := hide y0
      have Y1 := hide y1
      clear y0 y1 y2 hps hpl hK hgt
      by_cases h30 : (30 : Int) < t.n
      · go_wp2_with fail
        go_ret
        exact ⟨false, rfl, (fun h => by cases h), HBq.out.next Y1.out⟩
      · by_cases h20 : (20 : Int) < t.m
        · go_wp2_with fail
          go_ret
          exact ⟨false, rfl, (fun h => by cases h), HBq.out.next Y1.out⟩
        · go_wp2_with fail
          have H30 := hide h30
          have H20 := hide h20
          clear h30 h20 c0 c1 c2
          generalize hWo : wo.alloc (.cells #[.slice t.A t.n t.c, .bool t.s, .slice t.B t.m t.d] 28) = Wo at *
          clear hWo
          have HG := hide (show ∀ i x, i < 0 → ps[i]? = some x → x.m ≤ 20 from fun i x h => by omega)
          have HBB := hide (Below.refl Wo.heap.size Wo)
          go_loopw [27] (fun i wr => ∃ r : Nat, r ≤ t.n ∧ i = .int .i64 r ∧ Hid (∀ i x, i < r → ps[i]? = some x → x.m ≤ 20) ∧ Hid (Below Wo.heap.size Wo wr)) (fun i _ => t.n - (intOf i).toNat)
          case atStart => exact ⟨0, Nat.zero_le _, rfl, HG, HBB⟩
          case round =>
            obtain ⟨r, hr, rfl, HGr, HBr⟩ := hrel
            by_cases hrn : r < t.n
            · obtain ⟨pb, po, p, hA, hgp, g0, g1, g2, hpz⟩ := ((HPS.out.below (HBq.out.next Y1.out)).below HBr.out).at_ hrn
              rw [hA] at *
              have hpm := hpz.bounds
              have hgp' := hide hgp
              rw [Nat.mul_comm 3 r] at g0 g1 g2
              rw [← Nat.add_assoc] at g1 g2
              by_cases hp20 : (20 : Int) < p.m
              · go_wp2_with fail
                go_ret
                exact ⟨false, rfl, (fun h => by cases h), ((HBq.out.next Y1.out).next HBr.out).next (bl_alloc _ _)⟩
              · go_wp2_with fail
                go_roundw
                case rel => exact ⟨r + 1, by omega, by go_num, fun i x hi hx => by
                  by_cases hir : i < r
                  · exact HGr.out i x hir hx
                  · obtain rfl : i = r := by omega
                    rw [hgp'.out] at hx
                    injection hx with hx
                    subst hx
                    omega, hide (HBr.out.next (bl_alloc _ _))⟩
                case measure => simp [intOf] <;> omega
            · obtain rfl : r = t.n := by omega
              go_wp2_with fail
              go_roundw
              case rel => exact ⟨q + 1, by omega, by go_num, fun i x hi hx => by
                  by_cases hir : i < q
                  · exact HFq.out i x hir hx
                  · obtain rfl : i = q := by omega
                    rw [HT.out] at hx
                    injection hx with hx
                    subst hx
                    have h30 := H30.out
                    have h20 := H20.out
                    refine ⟨by omega, t.A, t.n, t.c, t.s, t.B, t.m, t.d, rfl, ⟨ps, ⟨HPS.out.1, HPS.out.2.1, fun p hp => ?_⟩, HPL.out⟩, hc1, hc2, HK.out.cut (by omega)⟩
                    obtain ⟨y, hy, hyp⟩ := List.mem_iff_getElem.1 hp
                    exact (HPS.out.2.2 p hp).cut (HGr.out y p (by have := HPS.out.1; omega) (by rw [List.getElem?_eq_getElem hy, hyp])), hide ((HBq.out.next Y1.out).next HBr.out)⟩
              case measure => simp [intOf] <;> omega
    · obtain rfl : q = n := by omega
      go_wp2_with fail
      go_ret
      refine ⟨true, rfl, fun _ t ht => ?_, HBq.out⟩
      obtain ⟨i, hi, hit⟩ := List.mem_iff_getElem.1 ht
      exact HFq.out i t (by have := HLN.out; omega) (by rw [List.getElem?_eq_getElem hi, hit])
end Go.Proofs.YtakcgkohnomgjaaGreatDoor
/- plumblineref02.Cmp. -/
namespace Go.Proofs.YtakcgkohnomgjaaGreatDoor
open Go.RowKit

set_option maxHeartbeats 1000000 in
theorem rzcmp_z (v u : Value) (Z Y : Int) (k : Nat) (w : World) (hv : ZIn w v Z k) (hu : ZIn w u Y k) (hk : k ≤ 137438953472) :
    Calls Tryz.prog 40 #[v, u] w (CmpZPost Z Y w) := by
  have hE := hide (sgn3_sub Z Y)
  have hv0 := hv
  have hu0 := hu
  obtain ⟨s, A, n, c, xs, rfl, -⟩ := hv
  obtain ⟨t, B, m, d, ys, rfl, -⟩ := hu
  obtain ⟨x0, y0, z2, -⟩ := zstart2 w #[.bool s, .slice A n c] #[.bool t, .slice B m d]
  go_enter Tryz.func40, Tryz.ntmps40
  go_wp2_with fail
  refine (rzsub_z _ _ Z Y k _ (hv0.below z2) (hu0.below z2) hk).mono ?_
  rintro e w1 ⟨v1, rfl, z1, b1⟩
  have hs := rsign_z v1 (Z - Y) (k + 1) w1 z1.in_ (by omega)
  unfold RSignPost at hs
  rw [hE.out] at hs
  go_wp2_with fail
  refine hs.mono ?_
  rintro e w2 ⟨rfl, b2⟩
  go_wp2_with fail
  go_ret
  exact ⟨rfl, (z2.next b1).next b2⟩
end Go.Proofs.YtakcgkohnomgjaaGreatDoor
/- TermApart, TermPutValues: what they say, on plain numbers. -/
namespace Go.Proofs.YtakcgkohnomgjaaGreatDoor.Tm

theorem cmpT_zero {L M : List (Int × Int)} {K J : Int} : cmpT L M K J = 0 ↔ norm L = norm M ∧ K = J := by
  unfold cmpT orZ
  by_cases h : cmpL (norm L) (norm M) = 0
  · rw [if_neg (fun hh => hh h), cmpZ_zero]
    exact ⟨fun hk => ⟨cmpL_zero.1 h, hk⟩, fun hk => hk.2⟩
  · rw [if_pos h]
    exact ⟨fun hh => absurd hh h, fun hh => absurd (cmpL_zero.2 hh.1) h⟩
theorem cmpT_neg (L M : List (Int × Int)) (K J : Int) : cmpT M L J K = - cmpT L M K J := by
  unfold cmpT orZ
  rw [cmpL_neg (norm L) (norm M), cmpZ_neg K J]
  by_cases h : cmpL (norm L) (norm M) = 0
  · rw [if_neg (fun hh => hh (by rw [h]; rfl)), if_neg (fun hh => hh h)]
  · rw [if_pos (fun hh => h (by omega)), if_pos h]
/-- The values at which all variables are 0 but variable v, which is 1. -/
def unit (v : Nat) : List Int := List.replicate v 0 ++ [1]
theorem unit_getD (v i : Nat) : (unit v).getD i 0 = if i = v then 1 else 0 := by
  unfold unit
  rw [List.getD_eq_getElem?_getD]
  rcases Nat.lt_trichotomy i v with h | h | h
  · rw [List.getElem?_append_left (by simpa using h), List.getElem?_replicate, if_pos h, if_neg (by omega)]; rfl
  · subst h
    rw [List.getElem?_append_right (by simp), if_pos rfl]; simp
  · rw [List.getElem?_eq_none (by simp; omega), if_neg (by omega)]; rfl
theorem val_unit (v : Nat) (L : List (Int × Int)) : val (unit v) L = coef L v := by
  induction L with
  | nil => rfl
  | cons p ps ih =>
    obtain ⟨u, c⟩ := p
    rw [val, coef, ih]
    congr 1
    by_cases h : 0 ≤ u
    · rw [if_pos h, unit_getD]
      by_cases h2 : u = v
      · subst h2
        rw [if_pos (by simp), if_pos ⟨rfl, h⟩, Int.mul_one]
      · rw [if_neg (fun e => h2 (by omega)), if_neg (fun e => h2 e.1), Int.mul_zero]
    · rw [if_neg h, if_neg (fun e => by have := e.1; have := e.2; omega)]
theorem val_none (L : List (Int × Int)) : val [] L = 0 := by
  induction L with
  | nil => rfl
  | cons p ps ih => obtain ⟨u, c⟩ := p; rw [val, ih]; simp
theorem coef_above {L : List (Int × Int)} {b v : Int} (h : ∀ p ∈ L, p.1 ≤ b) (hv : b < v) : coef L v = 0 := by
  apply Classical.byContradiction
  intro hc
  obtain ⟨p, hp, hpv⟩ := List.mem_map.1 (coef_ne_mem L v hc)
  have := h p hp
  omega
theorem apart_iff {L M : List (Int × Int)} {K J : Int} (hL : ∀ p ∈ L, p.1 ≤ 40) (hM : ∀ p ∈ M, p.1 ≤ 40) : cmpT L M K J = 0 ↔ K = J ∧ ∀ v : Nat, v ≤ 40 → K + coef L v = J + coef M v := by
  rw [cmpT_zero]
  constructor
  · rintro ⟨h1, rfl⟩
    exact ⟨rfl, fun v _ => by rw [← norm_coef L, ← norm_coef M, h1]⟩
  · rintro ⟨rfl, h⟩
    refine ⟨norm_same fun v => ?_, rfl⟩
    rcases Int.lt_or_le v 0 with h0 | h0
    · rw [coef_neg L v h0, coef_neg M v h0]
    · rcases Int.lt_or_le 40 v with h1 | h1
      · rw [coef_above hL h1, coef_above hM h1]
      · obtain ⟨u, rfl⟩ := Int.eq_ofNat_of_zero_le h0
        have := h u (by omega)
        omega
theorem apart_next {K J z : Int} {L M : List (Int × Int)} {q : Nat} (hP : K = J ∧ ∀ v : Nat, v < q → K + coef L v = J + coef M v) (hz : z = 0 ↔ K + coef L q = J + coef M q) :
    (z != 0) = true ↔ ¬ (K = J ∧ ∀ v : Nat, v < q + 1 → K + coef L v = J + coef M v) := by
  rw [bne_iff_ne]
  constructor
  · intro h hh
    exact h (hz.2 (hh.2 q (by omega)))
  · intro h hh
    refine h ⟨hP.1, fun v hv => ?_⟩
    by_cases hvq : v < q
    · exact hP.2 v hvq
    · obtain rfl : v = q := by omega
      exact hz.1 hh
theorem apart_keep {K J : Int} {L M : List (Int × Int)} {q : Nat} (h : ¬ (K = J ∧ ∀ v : Nat, v < q → K + coef L v = J + coef M v)) : ¬ (K = J ∧ ∀ v : Nat, v < q + 1 → K + coef L v = J + coef M v) :=
  fun hh => h ⟨hh.1, fun v hv => hh.2 v (by omega)⟩
theorem cmpZ_range (a b : Int) : -1 ≤ cmpZ a b ∧ cmpZ a b ≤ 1 := by unfold cmpZ; split <;> (try split) <;> omega
theorem cmpL_range : ∀ ps qs : List (Int × Int), -1 ≤ cmpL ps qs ∧ cmpL ps qs ≤ 1
  | [], [] => by unfold cmpL; omega
  | [], _ :: _ => by unfold cmpL; omega
  | _ :: _, [] => by unfold cmpL; omega
  | (u, c) :: ps, (v, d) :: qs => by
    unfold cmpL
    split
    · exact cmpZ_range u v
    · split
      · exact cmpZ_range c d
      · exact cmpL_range ps qs
theorem cmpT_range (L M : List (Int × Int)) (K J : Int) : -1 ≤ cmpT L M K J ∧ cmpT L M K J ≤ 1 := by
  unfold cmpT orZ
  split
  · exact cmpL_range _ _
  · exact cmpZ_range _ _
theorem apart_end {L M : List (Int × Int)} {K J c : Int} {b : Bool} (hc : c = cmpT L M K J) (hL : ∀ p ∈ L, p.1 ≤ 40) (hM : ∀ p ∈ M, p.1 ≤ 40) (h : b = true ↔ ¬ (K = J ∧ ∀ v : Nat, v < 41 → K + coef L v = J + coef M v)) : b = (c != 0) := by
  rw [Bool.eq_iff_iff, h, bne_iff_ne, hc, ne_eq, apart_iff hL hM]
  constructor
  · intro h1 h2
    exact h1 ⟨h2.1, fun v hv => h2.2 v (by omega)⟩
  · intro h1 h2
    exact h1 ⟨h2.1, fun v hv => h2.2 v (by omega)⟩
/-- The value of a term with others in variables' places. -/
theorem put_value (us vs inner : List Int) (ts : List (List (Int × Int) × Int)) (P : List (Int × Int)) (h : ∀ p ∈ P, 0 ≤ p.1 ∧ val us (place vs ts p.1).1 + (place vs ts p.1).2 = inner.getD p.1.toNat 0) : val us (putL vs ts P) + putK vs ts P = val inner P := by
  induction P with
  | nil => rfl
  | cons p ps ih =>
    obtain ⟨u, c⟩ := p
    have h0 := h (u, c) (by simp)
    have h1 := ih (fun q hq => h q (by simp [hq]))
    dsimp only at h0
    rw [putL, putK, val, val_append, if_pos h0.1, ← h0.2, ← h1, val_scale, Int.mul_add]
    dsimp only
    omega
theorem firstAt_upto (m : Nat) (v : Int) : firstAt v (List.map (fun i : Nat => (i : Int)) (List.range m)) = if 0 ≤ v ∧ v < m then some v.toNat else none := by
  induction m with
  | zero => rw [if_neg (by omega)]; rfl
  | succ m ih =>
    rw [List.range_succ, List.map_append, List.map_cons, List.map_nil, firstAt_snoc, ih]
    by_cases h : 0 ≤ v ∧ v < m
    · rw [if_pos h, if_pos (show 0 ≤ v ∧ v < ((m + 1 : Nat) : Int) by omega)]
    · rw [if_neg h]
      by_cases h2 : (m : Int) = v
      · subst h2
        rw [if_pos (show 0 ≤ (m : Int) ∧ (m : Int) < ((m + 1 : Nat) : Int) by omega)]
        simp
      · rw [if_neg (show ¬ (0 ≤ v ∧ v < ((m + 1 : Nat) : Int)) by omega)]
        simp [h2]
end Go.Proofs.YtakcgkohnomgjaaGreatDoor.Tm
/- make([]api.Int, n); the list of which all are 0 but the last. -/
namespace Go.Proofs.YtakcgkohnomgjaaGreatDoor
open Go.RowKit
open Tm

theorem apiInt_info : (Tryz.prog.info? 26).map (fun i => (i.zero, i.size, i.bytes)) = some (some (.agg #[.bool false, .slice none 0 0]), 2, 32) := by kernel_rfl
def iv0 : IV := ⟨false, none, 0, 0, 0⟩
theorem flatI_append (ps qs : List IV) : flatI (ps ++ qs) = flatI ps ++ flatI qs := by unfold flatI; rw [List.map_append, List.flatten_append]
theorem made_two (a b : Value) (n : Nat) : (madeCells #[a, b] (n * 2)).toList = (List.replicate n [a, b]).flatten := by
  unfold madeCells
  rw [Array.toList_map, Array.toList_range]
  induction n with
  | zero => rfl
  | succ n ih =>
    rw [show (n + 1) * 2 = n * 2 + 1 + 1 by omega, List.range_succ, List.range_succ, List.map_append, List.map_append, ih, List.replicate_succ', List.flatten_append]
    have h1 : n * 2 % 2 = 0 := by omega
    have h2 : (n * 2 + 1) % 2 = 1 := by omega
    simp [h1, h2]
theorem made_ints (n : Nat) : (madeCells (Value.agg #[.bool false, .slice none 0 0]).cells (n * 2)).toList = flatI (List.replicate n iv0) := by
  rw [show (Value.agg #[.bool false, .slice none 0 0]).cells = #[.bool false, .slice none 0 0] from by simp [Value.cells], made_two]
  unfold flatI
  rw [List.map_replicate]
  rfl
theorem wpList_make_int (w : World) {ops : Array Oper} {rest : List Oper} {o : Oper} {a : Act} {Q : Exit → Act → World → Prop} (hg : o.guard = none) (l c : Operand) (hop : o.op = Op.makeSlice 44 l c)
    (L : Int) (n : Nat) (hl : a.eval l = .int .i64 L) (hc : a.eval c = .int .i64 L) (hL : L = (n : Int)) (hn : n ≤ 1099511627776) (hn0 : 0 < n)
    (hK : ∀ w', Box 26 w' w.heap.size (flatI (List.replicate n iv0)).toArray → Below w.heap.size w w' → w.heap.size < w'.heap.size → wpList Tryz.prog ops Q rest (a.put o.dst (.slice (some ⟨w.heap.size, 0, none⟩) n n)) w') :
    wpList Tryz.prog ops Q (o :: rest) a w := by
  obtain ⟨i0, hi0, hz0, hz1, hz2⟩ := info_parts apiInt_info
  refine wpList_make_full _ hg l c _ hop w.heap.size 26 i0 _ 2 Tryz.underlying44 hi0 hz0 hz1 .i64 .i64 L L n hl hc hL hL (by rw [hz2]; omega) (by unfold maxLen; omega) (Nat.le_refl _) ?_
  intro w' ho hgr
  rw [made_ints] at ho
  obtain ⟨-, ⟨h0, -⟩ | ⟨g', cap, cur, hv, hb, hh, h1, h2, h3, h4⟩⟩ := ho
  · cases h0
  · injection hv with hv1 hv2 hv3
    injection hv1 with hv1
    injection hv1 with hv1
    subst hv1
    subst hv3
    have hc9 : cur = (flatI (List.replicate n iv0)).toArray := by
      apply Array.ext'
      rw [← h4, List.take_of_length_le (by rw [Array.length_toList, h3]; exact Nat.le_refl _)]
    rw [hc9] at hh
    have hb9 : Box 26 w' w.heap.size (flatI (List.replicate n iv0)).toArray := hh
    exact hK w' hb9 ((Below.refl _ _).grown hgr (Nat.le_refl _) (fun k hk => by cases hk)) hb9.lt
theorem flatI_nls (ps : List IV) : NLs (flatI ps) := by
  intro u hu
  unfold flatI at hu
  obtain ⟨l, hl, hu⟩ := List.mem_flatten.1 hu
  obtain ⟨p, -, rfl⟩ := List.mem_map.1 hl
  simp [IV.cells] at hu
  rcases hu with rfl | rfl
  · exact NL.bool _
  · exact NL.slice _ _ _
/-- The last element is set. -/
theorem unit_set {w : World} {g q : Nat} {s : Bool} {B : Option Addr} {m d : Nat} (h : Box 26 w g (flatI (List.replicate (q + 1) iv0)).toArray) :
    Box 26 ((w.setCell ⟨g, q * 2, none⟩ (.bool s)).setCell ⟨g, q * 2 + 1, none⟩ (.slice B m d)) g (flatI (List.replicate q iv0 ++ [⟨s, B, m, d, 1⟩])).toArray := by
  unfold Box at h ⊢
  have hl : (flatI (List.replicate q iv0)).length = q * 2 := by rw [flatI_length, List.length_replicate]; omega
  simp only [World.setCell, Array.getElem?_modify, h]
  simp
  rw [List.replicate_succ', flatI_append, flatI_append, List.set_append_right _ _ (by omega), List.set_append_right _ _ (by omega), hl]
  simp [flatI, IV.cells, iv0]
theorem unit_cells {w : World} {g q : Nat} (h : Box 26 w g (flatI (List.replicate (q + 1) iv0)).toArray) : w.cell? ⟨g, q * 2, none⟩ = some (.bool false) ∧ w.cell? ⟨g, q * 2 + 1, none⟩ = some (.slice none 0 0) := by
  have hl : (flatI (List.replicate q iv0)).length = q * 2 := by rw [flatI_length, List.length_replicate]; omega
  rw [List.replicate_succ', flatI_append] at h
  refine ⟨h.cell _ _ ?_, h.cell _ _ ?_⟩
  · rw [List.getElem?_toArray, List.getElem?_append_right (by omega), hl]; simp [flatI, IV.cells, iv0]
  · rw [List.getElem?_toArray, List.getElem?_append_right (by omega), hl]; simp [flatI, IV.cells, iv0]
theorem nums_unit (q : Nat) (s : Bool) (B : Option Addr) (m d : Nat) : nums (List.replicate q iv0 ++ [⟨s, B, m, d, 1⟩]) = unit q := by
  unfold nums unit
  rw [List.map_append, List.map_replicate]
  rfl
theorem ValsIn.unit {w : World} {g q m d : Nat} {s : Bool} {B : Option Addr} (h : Box 26 w g (flatI (List.replicate q iv0 ++ [⟨s, B, m, d, 1⟩])).toArray) (hz : ZRes w (.agg #[.bool s, .slice B m d]) 1 2) : ValsIn w (some ⟨g, 0, none⟩) (q + 1) (List.replicate q iv0 ++ [⟨s, B, m, d, 1⟩]) 2 :=
  ⟨by simp, fun _ => ⟨g, 0, rfl, fun j u hu => by rw [Nat.zero_add]; exact h.cell j u (by rw [List.getElem?_toArray]; exact hu)⟩, fun p hp => by
    rcases List.mem_append.1 hp with hp | hp
    · obtain ⟨-, rfl⟩ := List.mem_replicate.1 hp
      exact (ZRes.zero w 2).in_
    · simp at hp; subst hp; exact hz.in_⟩
end Go.Proofs.YtakcgkohnomgjaaGreatDoor
/- append of one api.Int; two lists of unlike elements, of which one grows. -/
namespace Go.Proofs.YtakcgkohnomgjaaGreatDoor
open Go.RowKit
open Tm

theorem apiInt_zero_nls : NLs (Value.agg #[.bool false, .slice none 0 0]).cells.toList := by
  show NLs [.bool false, .slice none 0 0]
  intro u hu
  simp at hu
  rcases hu with rfl | rfl
  · exact NL.bool _
  · exact NL.slice _ _ _
theorem flatI_one (ps : List IV) : ∀ u ∈ flatI ps, u.oneCell' = true := by
  intro u hu
  unfold flatI at hu
  obtain ⟨l, hl, hu⟩ := List.mem_flatten.1 hu
  obtain ⟨p, -, rfl⟩ := List.mem_map.1 hl
  simp [IV.cells] at hu
  rcases hu with rfl | rfl <;> rfl
theorem wpList_append_apiInt {w : World} {ops : Array Oper} {rest : List Oper} {o : Oper} {a : Act} {Q : Exit → Act → World → Prop} (hgd : o.guard = none) (s x : Operand)
    (ho : o.op = .call { callee := .builtin .append, args := #[s, x], argTypes := #[44, 44] }) (base : Nat) (v : Value) (ps : List IV) (hs : a.eval s = v) (hown : LRow 26 2 w base v ps.length (flatI ps))
    (b : Nat) (p : IV) (hx : a.eval x = .slice (some ⟨b, 0, none⟩) 1 1) (hb : Box 26 w b p.cells.toArray) (hn : ps.length + 1 ≤ 1099511627776) (hbase : base ≤ w.heap.size)
    (h : ∀ v' w', LRow 26 2 w' base v' (ps ++ [p]).length (flatI (ps ++ [p])) → w.grownBy w' v.ownBlock → wpList Tryz.prog ops Q rest (a.put o.dst v') w') : wpList Tryz.prog ops Q (o :: rest) a w := by
  obtain ⟨i0, hi0, hz0, hz1, hz2⟩ := info_parts apiInt_info
  refine wpList_append_lrow hgd s x 44 ho base 26 i0 _ 2 32 Tryz.underlying44 hi0 hz0 hz1 hz2 rfl (by decide) apiInt_zero_nls v ps.length (flatI ps) hs hown ⟨b, 0, none⟩ 1 1 (flatI [p]) hx rfl
    (fun j u hu => by rw [addr_add, Nat.zero_add]; exact hb.cell j u (by simpa [flatI] using hu)) (flatI_one _) (flatI_nls _) (by unfold maxLen; omega) (by omega) hbase ?_
  intro v' w' h1 h2
  refine h v' w' ?_ h2
  rw [flatI_append, List.length_append]
  exact h1
/-- A list stays where a list of other elements grows. -/
theorem LRow.unlike {T U : TypeId} {sz sz' : Nat} {w w' : World} {base base' n m : Nat} {v u : Value} {xs ys : List Value} (h : LRow T sz w base v n xs) (k : LRow U sz' w base' u m ys) (hTU : T ≠ U) (hg : w.grownBy w' u.ownBlock) : LRow T sz w' base v n xs := by
  obtain ⟨hl, ⟨rfl, rfl⟩ | ⟨g, cap, cur, rfl, h1, h2, h3⟩⟩ := h
  · exact ⟨hl, .inl ⟨rfl, rfl⟩⟩
  · refine ⟨hl, .inr ⟨g, cap, cur, rfl, h1, ?_, h3⟩⟩
    rw [hg.block g (Array.getElem?_eq_some_iff.1 h2).1 (fun e => ?_)]
    · exact h2
    · obtain ⟨-, ⟨rfl, rfl⟩ | ⟨g', cap', cur', rfl, k1, k2, k3⟩⟩ := k
      · cases e
      · have e' : g = g' := by simpa [Value.ownBlock] using e
        subst e'
        rw [h2] at k2
        injection k2 with k2
        injection k2 with k4 k5
        exact hTU k5
/-- The variables 0 to m - 1. -/
def uptoI (m : Nat) : List Int := List.map (fun i : Nat => (i : Int)) (List.range m)
theorem uptoI_succ (m : Nat) : uptoI (m + 1) = uptoI m ++ [(m : Int)] := by unfold uptoI; rw [List.range_succ, List.map_append]; rfl
theorem uptoI_length (m : Nat) : (uptoI m).length = m := by unfold uptoI; simp
end Go.Proofs.YtakcgkohnomgjaaGreatDoor
