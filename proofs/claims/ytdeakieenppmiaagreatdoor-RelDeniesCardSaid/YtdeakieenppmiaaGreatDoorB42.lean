/- Texts of one seat, put together: Open OpenZ OpenT R4Few RValue. -/
import Derived.Test.YtdeakieenppmiaaGreatDoorB02
import Derived.ProofKit
import Derived.OpenShut
import Derived.ShutString
import Derived.ChangeOld
import Derived.Below
import Derived.Lib.SmallJoins
import Derived.Test.YtdeakieenppmiaaGreatDoorB16
import Derived.Deep.Slices
import Derived.Deep.Strs
import Derived.Test.YtdeakieenppmiaaGreatDoorB34
import Derived.Test.YtdeakieenppmiaaGreatDoorB32
import Derived.Test.YtdeakieenppmiaaGreatDoorB26
import Derived.Test.YtdeakieenppmiaaGreatDoorB21
import Derived.Test.YtdeakieenppmiaaGreatDoorB17
import Derived.Test.YtdeakieenppmiaaGreatDoorB24
set_option linter.unusedVariables false
/- What the row's arguments are opened to. -/
namespace Go.Proofs.YtdeakieenppmiaaGreatDoor
open Go.ChangeShapes Go.WideShapes Go.ChangeAt Go.RowKit
open Go.ChangeMaps (open_string shut_string)

theorem own : ownKnob Tryz.prog.godebug = none := by kernel_rfl
theorem laidOut : laidOutB Tryz.prog = true := by kernel_rfl

theorem wf_u32 {z : Int} (h : (Lit.int .u32 z).wf = true) : 0 ≤ z ∧ z < 4294967296 := by
  have h1 : IntKind.u32.min = 0 := rfl
  have h2 : IntKind.u32.max = 4294967295 := rfl
  simp only [Lit.wf, Bool.and_eq_true, decide_eq_true_eq] at h
  omega

theorem open_nums {H : Type} {enc : TypeId × Value → H} {W : World} {a0 : Option Addr} {len0 cap0 : Nat} {d : DataW H} {p : List MemPlace}
    (h0 : DataW.Trod enc Tryz.prog W 0 (fun _ => true) true 24 (.slice a0 len0 cap0) d p) : ∃ xs, Nums W a0 len0 xs ∧ len0 ≤ cap0 ∧ cap0 ≤ 9223372036854775807 := by
  obtain ⟨fuel, hf⟩ := h0
  rcases open_ints Tryz.underlying24 Tryz.underlying92 (by kernel_rfl) hf with ⟨hcs, _⟩ | ⟨x, l, c, zs, hcs, _, hl, hm, hz, _, hcell, hwz⟩
  · simp [Value.cells] at hcs
    obtain ⟨rfl, rfl, rfl⟩ := hcs
    exact ⟨[], Nums.nil _ _, by omega, by omega⟩
  · simp [Value.cells] at hcs
    obtain ⟨rfl, rfl, rfl⟩ := hcs
    have hz2 : zs.length = cap0 := by simpa using hz
    unfold maxLen at hm
    refine ⟨(zs.take len0).map Int.toNat, ⟨by simp; omega, ?_, ?_⟩, hl, hm⟩
    · intro y hy
      obtain ⟨z, hz1, rfl⟩ := List.mem_map.1 hy
      have := wf_u32 (hwz z (List.mem_of_mem_take hz1))
      omega
    · intro hn
      have h1 := hcell 0 (by omega)
      obtain ⟨b, o, spot⟩ := x
      have hspot : spot = none := by simpa [Addr.add] using World.cell?_spot h1
      subst hspot
      refine ⟨b, o, rfl, fun i hi => ?_⟩
      have h2 := hcell i (by omega)
      have e : (⟨b, o, none⟩ : Addr).add i = ⟨b, o + i, none⟩ := by
        by_cases hi0 : i = 0
        · subst hi0; rfl
        · simp [Addr.add, hi0]
      rw [e] at h2
      rw [h2]
      have hlt : i < zs.length := by omega
      have hw := wf_u32 (hwz zs[i] (List.getElem_mem hlt))
      have e1 : zs.getD i 0 = zs[i] := by rw [List.getD_eq_getElem?_getD, List.getElem?_eq_getElem hlt]; rfl
      have e2 : ((zs.take len0).map Int.toNat).getD i 0 = zs[i].toNat := by
        rw [List.getD_eq_getElem?_getD, List.getElem?_map, List.getElem?_take_of_lt hi, List.getElem?_eq_getElem hlt]; rfl
      rw [e1, e2]
      congr 2
      omega
end Go.Proofs.YtdeakieenppmiaaGreatDoor
/- What a row's argument of type api.Int is opened to. -/
namespace Go.Proofs.YtdeakieenppmiaaGreatDoor
open Go.ChangeShapes Go.WideShapes Go.ChangeAt Go.RowKit
open Go.ChangeMaps (open_string shut_string)

theorem open_nums1 {H : Type} {enc : TypeId × Value → H} {W : World} {v : Value} {x : DataW H × List MemPlace} {f : Nat}
    (hf : DataW.trod enc Tryz.prog W 0 (fun _ => true) true f 24 [v] = some x) : ∃ a len cap xs, v = .slice a len cap ∧ Nums W a len xs ∧ len ≤ cap ∧ cap ≤ 9223372036854775807 := by
  rcases open_ints Tryz.underlying24 Tryz.underlying92 (by kernel_rfl) hf with ⟨hcs, _⟩ | ⟨y, l, c, zs, hcs, _⟩
  · injection hcs with hcs
    subst hcs
    exact ⟨none, 0, 0, [], rfl, Nums.nil _ _, by omega, by omega⟩
  · injection hcs with hcs
    subst hcs
    obtain ⟨xs, h1, h2, h3⟩ := open_nums (a0 := some y) (len0 := l) (cap0 := c) (d := x.1) (p := x.2) (W := W) (enc := enc) ⟨f, hf⟩
    exact ⟨some y, l, c, xs, rfl, h1, h2, h3⟩
set_option maxRecDepth 100000 in
theorem open_zint {H : Type} {enc : TypeId × Value → H} {W : World} {b : Nat} {v : Value} {d : DataW H} {p : List MemPlace} (hv : Value.okWide Tryz.prog W .any b 26 v)
    (h0 : DataW.Trod enc Tryz.prog W 0 (fun _ => true) true 26 v d p) : ∃ s a len cap xs, v = .agg #[.bool s, .slice a len cap] ∧ Nums W a len xs ∧ len ≤ cap ∧ cap ≤ 9223372036854775807 := by
  obtain ⟨v0, v1, y0, y1, n, rfl, -, -, t0, t1⟩ := Go.Joins.open_agg2 Tryz.underlying26 (by kernel_rfl) (by kernel_rfl) hv h0
  obtain ⟨s, e0, -⟩ := DataW.trod_bool Tryz.underlying4 t0
  injection e0 with e0
  subst e0
  obtain ⟨a, len, cap, xs, rfl, h1, h2, h3⟩ := open_nums1 t1
  exact ⟨s, a, len, cap, xs, rfl, h1, h2, h3⟩
end Go.Proofs.YtdeakieenppmiaaGreatDoor
/- What a row's argument of type api.Term, []api.Term or api.Int is opened to, as values. -/
namespace Go.Proofs.YtdeakieenppmiaaGreatDoor
open Go.ChangeShapes Go.WideShapes Go.ChangeAt Go.RowKit Go.Deep

theorem cellsInt : Tryz.prog.cellsOf 26 = 2 := by kernel_rfl
theorem cellsBool : Tryz.prog.cellsOf 4 = 1 := by kernel_rfl
theorem cellsNat : Tryz.prog.cellsOf 24 = 1 := by kernel_rfl
theorem cellsI : Tryz.prog.cellsOf 3 = 1 := by kernel_rfl
theorem cellsPart : Tryz.prog.cellsOf 60 = 3 := by kernel_rfl
theorem cellsParts : Tryz.prog.cellsOf 22 = 1 := by kernel_rfl
theorem cellsTerm : Tryz.prog.cellsOf 28 = 3 := by kernel_rfl

/-- The greatest length. -/
def big : Nat := 9223372036854775807
section
variable {H : Type} {enc : TypeId × Value → H} {W : World} {f : Nat} {x : DataW H × List MemPlace} {cs : List Value}
set_option maxRecDepth 100000 in
theorem open_int_cells (h : DataW.trod enc Tryz.prog W 0 (fun _ => true) true f 26 cs = some x) : ∃ s a len cap Z, cs = [.bool s, .slice a len cap] ∧ ZIn W (.agg #[.bool s, .slice a len cap]) Z big := by
  obtain ⟨y0, y1, n, -, hl, h0, h1⟩ := trod_struct2 Tryz.underlying26 h
  rw [cellsInt] at hl
  match cs, hl with
  | [v0, v1], _ =>
    have g0 : DataW.trod enc Tryz.prog W 0 (fun _ => true) true n 4 (([v0, v1].drop 0).take (Tryz.prog.cellsOf 4)) = some y0 := h0
    have g1 : DataW.trod enc Tryz.prog W 0 (fun _ => true) true n 24 (([v0, v1].drop 1).take (Tryz.prog.cellsOf 24)) = some y1 := h1
    rw [cellsBool] at g0
    rw [cellsNat] at g1
    obtain ⟨s, e0, -⟩ := DataW.trod_bool Tryz.underlying4 g0
    injection e0 with e0
    subst e0
    obtain ⟨a, len, cap, xs, rfl, h1, h2, h3⟩ := open_nums1 g1
    exact ⟨s, a, len, cap, _, rfl, s, a, len, cap, xs, rfl, h1, h2, h3, by unfold big; omega, rfl⟩
set_option maxRecDepth 100000 in
theorem open_zin {b : Nat} {v : Value} {d : DataW H} {p : List MemPlace} (hv : Value.okWide Tryz.prog W .any b 26 v)
    (h0 : DataW.Trod enc Tryz.prog W 0 (fun _ => true) true 26 v d p) : ∃ Z, ZIn W v Z big := by
  obtain ⟨s, a, len, cap, xs, rfl, h1, h2, h3⟩ := open_zint hv h0
  exact ⟨_, s, a, len, cap, xs, rfl, h1, h2, h3, by unfold big; omega, rfl⟩
set_option maxRecDepth 100000 in
theorem open_part_cells (h : DataW.trod enc Tryz.prog W 0 (fun _ => true) true f 60 cs = some x) : ∃ p : PV, cs = p.cells ∧ ZIn W p.num p.Z big ∧ -9223372036854775808 ≤ p.v ∧ p.v ≤ 9223372036854775807 := by
  obtain ⟨y0, y1, n, -, hl, h0, h1⟩ := trod_struct2 Tryz.underlying60 h
  rw [cellsPart] at hl
  match cs, hl with
  | [v0, v1, v2], _ =>
    have g0 : DataW.trod enc Tryz.prog W 0 (fun _ => true) true n 3 (([v0, v1, v2].drop 0).take (Tryz.prog.cellsOf 3)) = some y0 := h0
    have g1 : DataW.trod enc Tryz.prog W 0 (fun _ => true) true n 26 (([v0, v1, v2].drop 1).take (Tryz.prog.cellsOf 26)) = some y1 := h1
    rw [cellsI] at g0
    rw [cellsInt] at g1
    obtain ⟨z, e0, -, hw⟩ := DataW.trod_int Tryz.underlying3 g0
    injection e0 with e0
    subst e0
    obtain ⟨s, a, len, cap, Z, e, hz⟩ := open_int_cells g1
    injection e with e1 e
    injection e with e2 e
    subst e1 e2
    exact ⟨⟨z, s, a, len, cap, Z⟩, rfl, hz, (bounds_i64 hw).1, (bounds_i64 hw).2⟩
theorem flat_split (ps : List PV) (j : Nat) (u : Value) (h : (flat ps)[j]? = some u) : ∃ i p r, ps[i]? = some p ∧ j = 3 * i + r ∧ p.cells[r]? = some u ∧ r < 3 := by
  induction ps generalizing j with
  | nil => simp [flat] at h
  | cons p ps ih =>
    rw [flat_cons] at h
    have hl : p.cells.length = 3 := rfl
    by_cases hj : j < 3
    · rw [List.getElem?_append_left (by omega)] at h
      exact ⟨0, p, j, rfl, by omega, h, hj⟩
    · rw [List.getElem?_append_right (by omega), hl] at h
      obtain ⟨i, q, r, h1, h2, h3, h4⟩ := ih _ h
      exact ⟨i + 1, q, r, by simpa using h1, by omega, h3, h4⟩
instance pvSome : Inhabited PV := ⟨⟨0, false, none, 0, 0, 0⟩⟩
set_option maxRecDepth 100000 in
theorem open_parts {v : Value} (hf : DataW.trod enc Tryz.prog W 0 (fun _ => true) true f 22 [v] = some x) : ∃ a len cap ps, v = .slice a len cap ∧ PartsIn W a len ps big ∧ (∀ p ∈ ps, -9223372036854775808 ≤ p.v ∧ p.v ≤ 9223372036854775807) ∧ len ≤ cap ∧ cap ≤ 9223372036854775807 := by
  rcases open_slice Tryz.underlying22 hf with ⟨hcs, _⟩ | ⟨a, len, cap, m, n, D, Pl, hcs, _, hl, hm, hmm, _, hx⟩
  · injection hcs with hcs
    subst hcs
    exact ⟨none, 0, 0, [], rfl, PartsIn.nil _ _ _, fun p hp => by simp at hp, by omega, by omega⟩
  · injection hcs with hcs
    subst hcs
    unfold maxLen at hm
    have hlm : len ≤ m := by rw [hmm]; split <;> omega
    obtain ⟨p, hp⟩ := choose_lt (α := PV) (n := len) (p := fun i p => (∀ r u, p.cells[r]? = some u → W.cell? (a.add (i * 3 + r)) = some u) ∧ ZIn W p.num p.Z big ∧ -9223372036854775808 ≤ p.v ∧ p.v ≤ 9223372036854775807) (fun i hi => by
      obtain ⟨cs, h1, h2⟩ := hx i (by omega)
      rw [cellsPart] at h1
      obtain ⟨_, hlen, hcell⟩ := World.cells?_some h1
      obtain ⟨p, rfl, hz, hb⟩ := open_part_cells h2
      refine ⟨p, fun r u hu => ?_, hz, hb⟩
      have hr : r < 3 := by
        have := (List.getElem?_eq_some_iff.1 hu).1
        have hl : p.cells.length = 3 := rfl
        omega
      rw [← hu, ← hcell r hr, add_add])
    have hall : ∀ q ∈ (List.range len).map p, ∃ i, i < len ∧ q = p i := fun q hq => by
      obtain ⟨i, hi, rfl⟩ := List.mem_map.1 hq
      exact ⟨i, List.mem_range.1 hi, rfl⟩
    refine ⟨some a, len, cap, (List.range len).map p, rfl, ⟨by simp, fun hn => ?_, fun q hq => ?_⟩, fun q hq => ?_, hl, hm⟩
    · have h0 := (hp 0 hn).1 0 _ rfl
      obtain ⟨b, o, spot⟩ := a
      have hspot : spot = none := by simpa [Addr.add] using World.cell?_spot h0
      subst hspot
      refine ⟨b, o, rfl, fun j u hu => ?_⟩
      obtain ⟨i, q, r, h1, rfl, h3, h4⟩ := flat_split _ _ _ hu
      have hi : i < len := by
        have := (List.getElem?_eq_some_iff.1 h1).1
        simpa using this
      have hq : q = p i := by
        rw [List.getElem?_map, List.getElem?_range hi] at h1
        exact (Option.some.inj h1).symm
      subst hq
      have h5 := (hp i hi).1 r u h3
      rw [add_plain] at h5
      rw [show 3 * i + r = i * 3 + r by omega]
      exact h5
    · obtain ⟨i, hi, rfl⟩ := hall q hq
      exact (hp i hi).2.1
    · obtain ⟨i, hi, rfl⟩ := hall q hq
      exact (hp i hi).2.2
set_option maxRecDepth 100000 in
/-- A term as it comes in: also each variable is an int64. -/
theorem open_term_cells (h : DataW.trod enc Tryz.prog W 0 (fun _ => true) true f 28 cs = some x) : ∃ A n c s B m d L K, cs = [.slice A n c, .bool s, .slice B m d] ∧ TIn W (.agg #[.slice A n c, .bool s, .slice B m d]) L K big ∧ ∀ p ∈ L, -9223372036854775808 ≤ p.1 ∧ p.1 ≤ 9223372036854775807 := by
  obtain ⟨y0, y1, n, -, hl, h0, h1⟩ := trod_struct2 Tryz.underlying28 h
  rw [cellsTerm] at hl
  match cs, hl with
  | [v0, v1, v2], _ =>
    have g0 : DataW.trod enc Tryz.prog W 0 (fun _ => true) true n 22 (([v0, v1, v2].drop 0).take (Tryz.prog.cellsOf 22)) = some y0 := h0
    have g1 : DataW.trod enc Tryz.prog W 0 (fun _ => true) true n 26 (([v0, v1, v2].drop 1).take (Tryz.prog.cellsOf 26)) = some y1 := h1
    rw [cellsParts] at g0
    rw [cellsInt] at g1
    obtain ⟨a, len, cap, ps, e0, hp, hb, hl1, hl2⟩ := open_parts g0
    obtain ⟨s, B, m, d, Z, e, hz⟩ := open_int_cells g1
    injection e with e1 e
    injection e with e2 e
    subst e0 e1 e2
    refine ⟨a, len, cap, s, B, m, d, lin ps, Z, rfl, ⟨a, len, cap, s, B, m, d, rfl, ⟨ps, hp, rfl⟩, hl1, hl2, hz⟩, fun p hp => ?_⟩
    obtain ⟨q, hq, rfl⟩ := List.mem_map.1 hp
    exact hb q hq
set_option maxRecDepth 100000 in
theorem open_term {b : Nat} {v : Value} {d : DataW H} {p : List MemPlace} (hv : Value.okWide Tryz.prog W .any b 28 v)
    (h0 : DataW.Trod enc Tryz.prog W 0 (fun _ => true) true 28 v d p) : ∃ L K, TIn W v L K big ∧ ∀ p ∈ L, -9223372036854775808 ≤ p.1 ∧ p.1 ≤ 9223372036854775807 := by
  obtain ⟨cs, rfl, hsz⟩ := okWide_struct Tryz.underlying28 hv
  obtain ⟨fuel, hf⟩ := h0
  obtain ⟨A, n, c, s, B, m, d, L, K, e, h1, h2⟩ := open_term_cells hf
  have e2 : cs = #[.slice A n c, .bool s, .slice B m d] := by
    cases cs
    simp only [Value.cells] at e
    simpa using e
  subst e2
  exact ⟨L, K, h1, h2⟩
end
end Go.Proofs.YtdeakieenppmiaaGreatDoor
/- plumblineref04.Few, FewVals. -/
namespace Go.Proofs.YtdeakieenppmiaaGreatDoor
open Go.RowKit

/-- A relation of at most 20 parts, whose numbers have at most li limbs. -/
def FewRV (w : World) (li : Nat) (r : RV) : Prop := r.n ≤ 20 ∧ TIn w r.trm r.L r.K li
def FewRPost (mo li : Nat) (rs : List RV) (w : World) (e : Ending) (w' : World) : Prop := ∃ r, e = .returned (.bool r) ∧ (r = true → rs.length ≤ mo ∧ ∀ x ∈ rs, FewRV w li x) ∧ w' = w
set_option maxRecDepth 100000 in
set_option maxHeartbeats 4000000 in
theorem r4few_any (A : Option Addr) (n c mo li : Nat) (rs : List RV) (w0 : World) (hx : RelsIn w0 A n rs big) (hn : n ≤ 9223372036854775807) (hmo : mo ≤ 1000) (hli : li ≤ 1000) : Calls Tryz.prog 9 #[.slice A n c, .int .i64 mo, .int .i64 li] w0 (FewRPost mo li rs w0) := by
  have HX := hide hx
  have HLN := hide hx.1.1
  clear hx
  go_enter Tryz.func9, Tryz.ntmps9
  by_cases hnm : (mo : Int) < n
  · go_wp2_with fail
    go_ret
    exact ⟨false, rfl, (fun h => by cases h), rfl⟩
  have HNM := hide hnm
  go_wp2_with fail
  have HF := hide (show ∀ i t, i < 0 → rs[i]? = some t → FewRV w0 li t from fun i t h => by omega)
  go_loopw [7] (fun i wr => ∃ q : Nat, q ≤ n ∧ i = .int .i64 q ∧ Hid (∀ i t, i < q → rs[i]? = some t → FewRV w0 li t) ∧ wr = w0) (fun i _ => n - (intOf i).toNat)
  case atStart => exact ⟨0, Nat.zero_le _, rfl, HF, by trivial⟩
  case round =>
    obtain ⟨q, hq, rfl, HFq, rfl⟩ := hrel
    by_cases hqn : q < n
    · obtain ⟨bb, o, t, rfl, hgt, c0, c1, c2, c3⟩ := HX.out.1.at_ hqn
      obtain ⟨A', n', c', s', B', m', d', e', hp', hc1, hc2, hK⟩ := HX.out.2 t (List.mem_of_getElem? hgt)
      have e2 : A' = t.A ∧ n' = t.n ∧ c' = t.c ∧ s' = t.s ∧ B' = t.B ∧ m' = t.m ∧ d' = t.d := by simpa [RV.trm, eq_comm, and_assoc] using e'
      obtain ⟨rfl, rfl, rfl, rfl, rfl, rfl, rfl⟩ := e2
      clear e'
      obtain ⟨ps, hps, hpl⟩ := hp'
      have hm1 := hK.bounds
      have ht1 : t.n ≤ 9223372036854775807 := by omega
      have HPS := hide hps
      have HPL := hide hpl
      have HK := hide hK
      have HT := hide hgt
      have c2' : wr.cell? ⟨bb, o + q * 4 + 1 + 1, none⟩ = some (.slice t.B t.m t.d) := c2
      clear hps hpl hK hgt
      by_cases h30 : (20 : Int) < t.n
      · go_wp2_with fail
        go_ret
        exact ⟨false, rfl, (fun h => by cases h), rfl⟩
      · by_cases h20 : (li : Int) < t.m
        · go_wp2_with fail
          go_ret
          exact ⟨false, rfl, (fun h => by cases h), rfl⟩
        · go_wp2_with fail
          have H30 := hide h30
          have H20 := hide h20
          have HG := hide (show ∀ i x, i < 0 → ps[i]? = some x → x.m ≤ li from fun i x h => by omega)
          obtain ⟨wo, hwo⟩ : ∃ wo, wo = wr := ⟨_, rfl⟩
          go_loopw [8] (fun i w2 => ∃ r : Nat, r ≤ t.n ∧ i = .int .i64 r ∧ Hid (∀ i x, i < r → ps[i]? = some x → x.m ≤ li) ∧ w2 = wo) (fun i _ => t.n - (intOf i).toNat)
          case atStart => exact ⟨0, Nat.zero_le _, rfl, HG, by first | trivial | exact hwo.symm⟩
          case round =>
            obtain ⟨r, hr, rfl, HGr, hw2⟩ := hrel
            subst hw2
            subst hwo
            by_cases hrn : r < t.n
            · obtain ⟨pb, po, p, hA, hgp, g0, g1, g2, hpz⟩ := HPS.out.at_ hrn
              have c0' := c0
              rw [hA] at c0'
              have HAA := hide hA
              clear c0 hA
              have hpm := hpz.bounds
              have hgp' := hide hgp
              rw [Nat.mul_comm 3 r] at g0 g1 g2
              rw [← Nat.add_assoc] at g1 g2
              have g2' : wr.cell? ⟨pb, po + r * 3 + 1 + 1, none⟩ = some (.slice p.B p.m p.d) := g2
              by_cases hp20 : (li : Int) < p.m
              · go_wp2_with fail
                go_ret
                exact ⟨false, rfl, (fun h => by cases h), rfl⟩
              · go_wp2_with fail
                go_roundw
                case rel => exact ⟨r + 1, by omega, by go_num, fun i x hi hx => by
                  by_cases hir : i < r
                  · exact HGr.out i x hir hx
                  · obtain rfl : i = r := by omega
                    rw [hgp'.out] at hx
                    injection hx with hx
                    subst hx
                    omega, by trivial⟩
                case measure => simp [intOf] <;> omega
            · obtain rfl : r = t.n := by omega
              go_wp2_with fail
              go_roundw
              case rel => exact ⟨q + 1, by omega, by go_num, fun i x hi hx => by
                  by_cases hir : i < q
                  · exact HFq.out i x hir hx
                  · obtain rfl : i = q := by omega
                    rw [HT.out] at hx
                    injection hx with hx
                    subst hx
                    have h30 := H30.out
                    have h20 := H20.out
                    refine ⟨by omega, t.A, t.n, t.c, t.s, t.B, t.m, t.d, rfl, ⟨ps, ⟨HPS.out.1, HPS.out.2.1, fun p hp => ?_⟩, HPL.out⟩, hc1, hc2, HK.out.cut (by omega)⟩
                    obtain ⟨y, hy, hyp⟩ := List.mem_iff_getElem.1 hp
                    exact (HPS.out.2.2 p hp).cut (HGr.out y p (by have := HPS.out.1; omega) (by rw [List.getElem?_eq_getElem hy, hyp])), by trivial⟩
              case measure => simp [intOf] <;> omega
    · obtain rfl : q = n := by omega
      go_wp2_with fail
      go_ret
      refine ⟨true, rfl, fun _ => ⟨by have := HLN.out; have := HNM.out; omega, fun t ht => ?_⟩, rfl⟩
      obtain ⟨i, hi, hit⟩ := List.mem_iff_getElem.1 ht
      exact HFq.out i t (by have := HLN.out; omega) (by rw [List.getElem?_eq_getElem hi, hit])
def FewVPost (mo li : Nat) (A : Option Addr) (n : Nat) (vs : List IV) (w : World) (e : Ending) (w' : World) : Prop := ∃ r, e = .returned (.bool r) ∧ (r = true → n ≤ mo ∧ ValsIn w A n vs li) ∧ w' = w
set_option maxRecDepth 100000 in
set_option maxHeartbeats 4000000 in
theorem r4fewVals_any (A : Option Addr) (n c mo li : Nat) (vs : List IV) (w0 : World) (hx : ValsIn w0 A n vs big) (hn : n ≤ 9223372036854775807) (hmo : mo ≤ 1000) (hli : li ≤ 1000) : Calls Tryz.prog 22 #[.slice A n c, .int .i64 mo, .int .i64 li] w0 (FewVPost mo li A n vs w0) := by
  have HX := hide hx
  have HLN := hide hx.1
  clear hx
  go_enter Tryz.func22, Tryz.ntmps22
  by_cases hnm : (mo : Int) < n
  · go_wp2_with fail
    go_ret
    exact ⟨false, rfl, (fun h => by cases h), rfl⟩
  have HNM := hide hnm
  go_wp2_with fail
  have HF := hide (show ∀ i t, i < 0 → vs[i]? = some t → t.m ≤ li from fun i t h => by omega)
  go_loopw [7] (fun i wr => ∃ q : Nat, q ≤ n ∧ i = .int .i64 q ∧ Hid (∀ i t, i < q → vs[i]? = some t → t.m ≤ li) ∧ wr = w0) (fun i _ => n - (intOf i).toNat)
  case atStart => exact ⟨0, Nat.zero_le _, rfl, HF, by trivial⟩
  case round =>
    obtain ⟨q, hq, rfl, HFq, rfl⟩ := hrel
    by_cases hqn : q < n
    · obtain ⟨vb, vo, iv, hA, hiv, e0, e1, hzi⟩ := HX.out.at_ hqn
      rw [hA] at *
      have hpm := hzi.bounds
      have HIV := hide hiv
      rw [Nat.mul_comm 2 q] at e0 e1
      rw [← Nat.add_assoc] at e1
      clear hzi hiv
      by_cases h20 : (li : Int) < iv.m
      · go_wp2_with fail
        go_ret
        exact ⟨false, rfl, (fun h => by cases h), rfl⟩
      · go_wp2_with fail
        go_roundw
        case rel => exact ⟨q + 1, by omega, by go_num, fun i x hi hx => by
          by_cases hir : i < q
          · exact HFq.out i x hir hx
          · obtain rfl : i = q := by omega
            rw [HIV.out] at hx
            injection hx with hx
            subst hx
            omega, by trivial⟩
        case measure => simp [intOf] <;> omega
    · obtain rfl : q = n := by omega
      go_wp2_with fail
      go_ret
      refine ⟨true, rfl, fun _ => ⟨by have := HNM.out; omega, HX.out.1, HX.out.2.1, fun p hp => ?_⟩, rfl⟩
      obtain ⟨y, hy, hyp⟩ := List.mem_iff_getElem.1 hp
      exact (HX.out.2.2 p hp).cut (HFq.out y p (by have := HLN.out; omega) (by rw [List.getElem?_eq_getElem hy, hyp]))
end Go.Proofs.YtdeakieenppmiaaGreatDoor
/- plumblineref03.Value, plumblineref04.Holds. -/
namespace Go.Proofs.YtdeakieenppmiaaGreatDoor
open Go.RowKit
open Tm

def vf (L : List (Int × Int)) (us : List Int) : Nat → Int := fun i => coef L i * us.getD i 0
/-- How far the loop has come. -/
def RValRel (w0 W1 : World) (Z : Int) (j : Nat) (wr : World) : Prop :=
  ∃ s A n c, Blk wr (w0.heap.size + 1 + 1) #[.bool s, .slice A n c] ∧ ZIn wr (.agg #[.bool s, .slice A n c]) Z j ∧ Below (w0.heap.size + 1 + 1) W1 wr
theorem Blk.kpB {w w' : World} {g m d : Nat} {s : Bool} {B : Option Addr} (hb : Blk w g #[.bool s, .slice B m d]) (ho : Only g w w') : Kp w w' := Kp.block hb (nl2 (NL.bool _) (NL.slice _ _ _)) ho
set_option maxRecDepth 100000 in
set_option maxHeartbeats 4000000 in
theorem rvalue_any (v : Value) (L : List (Int × Int)) (K : Int) (k kj : Nat) (VA : Option Addr) (vn vc : Nat) (ivs : List IV) (w0 : World) (hv : TIn w0 v L K k) (hvs : ValsIn w0 VA vn ivs kj) (hvn : vn ≤ 1000) (hle : L.length ≤ 1099511) (hk : k ≤ 100000) (hkj : kj ≤ 100000) :
    Calls Tryz.prog 58 #[v, .slice VA vn vc] w0 (ZPost (K + val (nums ivs) L) (k + L.length + kj + vn) w0) := by
  have hv0 := hv
  obtain ⟨A, n, c, s, B, m, d, rfl, hp, hc1, hc2, hK⟩ := hv
  obtain ⟨z0, z1, z2, z3, z4⟩ := bstart3 28 26 26 w0 #[.slice A n c, .bool s, .slice B m d] #[.bool false, .slice none 0 0] #[.bool s, .slice B m d]
  have y1 := (Box.new 28 w0 #[.slice A n c, .bool s, .slice B m d]).alloc (.cells #[.bool false, .slice none 0 0] 26)
  have x1 := y1.c1
  have x2 := y1.c2
  have HUS := hide (show (nums ivs).length = vn by unfold nums; rw [List.length_map]; exact hvs.1)
  obtain ⟨us, hus⟩ : ∃ us, us = nums ivs := ⟨_, rfl⟩
  rw [← hus] at HUS ⊢
  have HU := hide hus
  clear hus
  go_enter Tryz.func58, Tryz.ntmps58
  go_wp2_with fail
  generalize hW1 : (((w0.alloc (.cells #[.slice A n c, .bool s, .slice B m d] 28)).alloc (.cells #[.bool false, .slice none 0 0] 26)).alloc (.cells #[.bool s, .slice B m d] 26)) = W1 at *
  clear hW1 x1 x2 y1
  have HS := hide (show RValRel w0 W1 (K + sumv (vf L us) 0) (k + L.length + kj + 0) W1 from ⟨s, B, m, d, z2, by rw [show K + sumv (vf L us) 0 = K from Int.add_zero K]; exact (hK.below z3).mono (by omega), Below.refl _ _⟩)
  have R0 := hide z1
  have T0 := hide z3
  have HZ4 := hide z4
  have Z0 := hide z0
  have HV0 := hide hv0
  have HVS := hide hvs
  clear z0 z1 z2 z3 z4 hp hK hv0 hvs
  go_loopw [6] (fun i wr => ∃ q : Nat, q ≤ vn ∧ i = .int .i64 q ∧ Hid (RValRel w0 W1 (K + sumv (vf L us) q) (k + L.length + kj + q) wr)) (fun i _ => vn - (intOf i).toNat)
  case atStart => exact ⟨0, Nat.zero_le _, rfl, HS⟩
  case round =>
    obtain ⟨q, hq, rfl, HR⟩ := hrel
    obtain ⟨s5, A5, n5, c5, b5, zz5, hB⟩ := HR.out
    have hBW : w0.heap.size + 1 + 1 ≤ W1.heap.size := by have := HZ4.out; omega
    have zt := Z0.out.below hB (by omega)
    have hT : Below w0.heap.size w0 wr := T0.out.trans (hB.mono (by omega))
    by_cases hqn : q < vn
    · obtain ⟨vb, vo, p, rfl, hiv, e0, e1, hz⟩ := (HVS.out.below hT).at_ hqn
      rw [Nat.mul_comm 2 q] at e0 e1
      rw [← Nat.add_assoc] at e1
      have hlt := World.block_lt_of_cell? wr _ e0
      have HC := hide (show K + sumv (vf L us) q + coef L (q : Int) * p.Z = K + sumv (vf L us) (q + 1) by
        have h1 : us.getD q 0 = p.Z := by rw [HU.out, List.getD_eq_getElem?_getD]; unfold nums; rw [List.getElem?_map, hiv]; rfl
        show K + sumv (vf L us) q + _ = K + (sumv (vf L us) q + coef L q * us.getD q 0)
        rw [h1, Int.add_assoc])
      have HZ := hide hz
      have HZ5 := hide zz5
      have HB5 := hide b5
      have HZT := hide zt
      have HBB := hide hB
      have HTT := hide hT
      have HV := hide (HV0.out.below hT)
      have SOF := hide (show ∀ W, Below wr.heap.size wr W → (W.cell? ⟨w0.heap.size + 1 + 1, 0, none⟩ = some (.bool s5) ∧ W.cell? ⟨w0.heap.size + 1 + 1, 1, none⟩ = some (.slice A5 n5 c5) ∧ W.cell? ⟨w0.heap.size, 0, none⟩ = some (.slice A n c) ∧ W.cell? ⟨w0.heap.size, 1, none⟩ = some (.bool s) ∧ W.cell? ⟨w0.heap.size, 2, none⟩ = some (.slice B m d) ∧ W.cell? ⟨vb, vo + q * 2, none⟩ = some (.bool p.s) ∧ W.cell? ⟨vb, vo + q * 2 + 1, none⟩ = some (.slice p.B p.m p.d)) from fun W h => ⟨Blk.c0 (HB5.out.next h), Blk.c1 (HB5.out.next h), (HZT.out.next h).c0, (HZT.out.next h).c1, (HZT.out.next h).c2, (h.cell (p := ⟨vb, vo + q * 2, none⟩) hlt).trans e0, (h.cell (p := ⟨vb, vo + q * 2 + 1, none⟩) hlt).trans e1⟩)
      clear zz5 hiv hz zt b5 hB hT HR e0 e1
      go_wp2_with fail
      refine wp_drawnL (by kernel_rfl) (by kernel_rfl) (by kernel_rfl) (by kernel_rfl) (fun w w' => Below w.heap.size w w') (fun j v w => match j with | 0 => v = .agg #[.bool s5, .slice A5 n5 c5] | 1 => v = .agg #[.slice A n c, .bool s, .slice B m d] | 2 => v = .int .i64 (q : Int) | 3 => ZRes w v (coef L (q : Int)) (k + L.length) | 4 => v = .slice (some ⟨vb, vo, none⟩) vn vc | 5 => v = .int .i64 (q : Int) | 6 => v = .pointer (some ⟨vb, vo + q * 2, none⟩) | 7 => v = .agg #[.bool p.s, .slice p.B p.m p.d] | 8 => ZRes w v (coef L (q : Int) * p.Z) (k + L.length + kj) | 9 => ZRes w v (K + sumv (vf L us) q + coef L (q : Int) * p.Z) (k + L.length + kj + q + 1) | _ => True) (fun _ _ w => Below wr.heap.size wr w) ?_ (fun _ => bl_drewN wr 1) ?_ ?_
      · intro j v w w' hT h
        match j, h with
        | 0, h => exact h
        | 1, h => exact h
        | 2, h => exact h
        | 3, h => exact h.below hT
        | 4, h => exact h
        | 5, h => exact h
        | 6, h => exact h
        | 7, h => exact h
        | 8, h => exact h.below hT
        | 9, h => exact h.below hT
        | j + 10, h => trivial
      · refine ⟨?_, ?_, ?_, ?_, ?_, ?_, ?_, ?_, ?_, ?_, trivial⟩
        · intro listed σ w a hin hout hl hla hs hc hp hG hF
          refine Guarded.none rfl ?_
          have e5 : a.tmps.getD 5 undef = .pointer (some ⟨w0.heap.size + 1 + 1, 0, none⟩) := hout 5 (outB_spec (by kernel_rfl))
          have CC := SOF.out w hG; obtain ⟨C0, C1, D0, D1, D2, E0, E1⟩ := CC
          refine Does.val (.agg #[.bool s5, .slice A5 n5 c5]) (w' := w) ?_ ⟨Below.refl _ _, rfl, hG⟩
          go_simp
        · intro listed σ w a hin hout hl hla hs hc hp hG hF
          refine Guarded.none rfl ?_
          have e2 : a.tmps.getD 2 undef = .pointer (some ⟨w0.heap.size, 0, none⟩) := hout 2 (outB_spec (by kernel_rfl))
          have CC := SOF.out w hG; obtain ⟨C0, C1, D0, D1, D2, E0, E1⟩ := CC
          refine Does.val (.agg #[.slice A n c, .bool s, .slice B m d]) (w' := w) ?_ ⟨Below.refl _ _, rfl, hG⟩
          go_simp
        · intro listed σ w a hin hout hl hla hs hc hp hG hF
          refine Guarded.none rfl ?_
          have e6 : a.tmps.getD 6 undef = .int .i64 (q : Int) := hout 6 (outB_spec (by kernel_rfl))
          refine Does.val (.int .i64 (q : Int)) (w' := w) ?_ ⟨Below.refl _ _, rfl, hG⟩
          simp only [Array.getD_eq_getD_getElem?] at e6
          go_simp
        · intro listed σ w a hin hout hl hla hs hc hp hG hF
          refine Guarded.none rfl ?_
          have e16 : a.tmps.getD 16 undef = .agg #[.slice A n c, .bool s, .slice B m d] := (hin 1 16 rfl (hp ⟨1, .data⟩ (by simp) rfl)).trans (hF 1 (hp ⟨1, .data⟩ (by simp) rfl))
          have e17 : a.tmps.getD 17 undef = .int .i64 (q : Int) := (hin 2 17 rfl (hp ⟨2, .data⟩ (by simp) rfl)).trans (hF 2 (hp ⟨2, .data⟩ (by simp) rfl))
          refine Does.call ?_ (rcoef_any _ L K (q : Int) k w (HV.out.below hG) hle (by omega)) ?_
          · go_simp
          · rintro e w' ⟨v, rfl, z, hb⟩
            exact ⟨_, rfl, hb, z, hG.next hb⟩
        · intro listed σ w a hin hout hl hla hs hc hp hG hF
          refine Guarded.none rfl ?_
          have e1 : a.tmps.getD 1 undef = .slice (some ⟨vb, vo, none⟩) vn vc := hout 1 (outB_spec (by kernel_rfl))
          refine Does.val (.slice (some ⟨vb, vo, none⟩) vn vc) (w' := w) ?_ ⟨Below.refl _ _, rfl, hG⟩
          simp only [Array.getD_eq_getD_getElem?] at e1
          go_simp
        · intro listed σ w a hin hout hl hla hs hc hp hG hF
          refine Guarded.none rfl ?_
          have e6 : a.tmps.getD 6 undef = .int .i64 (q : Int) := hout 6 (outB_spec (by kernel_rfl))
          refine Does.val (.int .i64 (q : Int)) (w' := w) ?_ ⟨Below.refl _ _, rfl, hG⟩
          simp only [Array.getD_eq_getD_getElem?] at e6
          go_simp
        · intro listed σ w a hin hout hl hla hs hc hp hG hF
          refine Guarded.none rfl ?_
          have e19 : a.tmps.getD 19 undef = .slice (some ⟨vb, vo, none⟩) vn vc := (hin 4 19 rfl (hp ⟨4, .data⟩ (by simp) rfl)).trans (hF 4 (hp ⟨4, .data⟩ (by simp) rfl))
          have e20 : a.tmps.getD 20 undef = .int .i64 (q : Int) := (hin 5 20 rfl (hp ⟨5, .data⟩ (by simp) rfl)).trans (hF 5 (hp ⟨5, .data⟩ (by simp) rfl))
          refine Does.val (.pointer (some ⟨vb, vo + q * 2, none⟩)) (w' := w) ?_ ⟨Below.refl _ _, rfl, hG⟩
          simp only [Array.getD_eq_getD_getElem?] at e19 e20
          go_simp
          (try (intro hh; exfalso; omega))
        · intro listed σ w a hin hout hl hla hs hc hp hG hF
          refine Guarded.none rfl ?_
          have e21 : a.tmps.getD 21 undef = .pointer (some ⟨vb, vo + q * 2, none⟩) := (hin 6 21 rfl (hp ⟨6, .data⟩ (by simp) rfl)).trans (hF 6 (hp ⟨6, .data⟩ (by simp) rfl))
          have CC := SOF.out w hG; obtain ⟨C0, C1, D0, D1, D2, E0, E1⟩ := CC
          refine Does.val (.agg #[.bool p.s, .slice p.B p.m p.d]) (w' := w) ?_ ⟨Below.refl _ _, rfl, hG⟩
          go_simp
        · intro listed σ w a hin hout hl hla hs hc hp hG hF
          refine Guarded.none rfl ?_
          have e18 := hin 3 18 rfl (hp ⟨3, .data⟩ (by simp) rfl)
          have z3 := hF 3 (hp ⟨3, .data⟩ (by simp) rfl)
          have e22 : a.tmps.getD 22 undef = .agg #[.bool p.s, .slice p.B p.m p.d] := (hin 7 22 rfl (hp ⟨7, .data⟩ (by simp) rfl)).trans (hF 7 (hp ⟨7, .data⟩ (by simp) rfl))
          refine Does.call ?_ (rzmul_z _ (.agg #[.bool p.s, .slice p.B p.m p.d]) _ p.Z (k + L.length) kj w z3.in_ (show ZIn w (.agg #[.bool p.s, .slice p.B p.m p.d]) p.Z kj from HZ.out.below hG) (by omega) (by omega)) ?_
          · go_simp
          · rintro e w' ⟨v, rfl, z, hb⟩
            exact ⟨_, rfl, hb, z, hG.next hb⟩
        · intro listed σ w a hin hout hl hla hs hc hp hG hF
          refine Guarded.none rfl ?_
          have e15 : a.tmps.getD 15 undef = .agg #[.bool s5, .slice A5 n5 c5] := (hin 0 15 rfl (hp ⟨0, .data⟩ (by simp) rfl)).trans (hF 0 (hp ⟨0, .data⟩ (by simp) rfl))
          have e23 := hin 8 23 rfl (hp ⟨8, .data⟩ (by simp) rfl)
          have z8 := hF 8 (hp ⟨8, .data⟩ (by simp) rfl)
          refine Does.call ?_ (rzadd_z _ _ _ _ (k + L.length + kj + q) w (HZ5.out.below hG) (z8.in_.mono (by omega)) (by omega)) ?_
          · go_simp
          · rintro e w' ⟨v, rfl, z, hb⟩
            exact ⟨_, rfl, hb, z, hG.next hb⟩
      · intro o ho
        injection ho with ho; subst ho
        intro listed σ w a hall hin hout hG hF
        refine Guarded.none rfl ?_
        have e5 : a.tmps.getD 5 undef = .pointer (some ⟨w0.heap.size + 1 + 1, 0, none⟩) := hout 5 (outL (by kernel_rfl))
        have e24 := hin 9 24 rfl (by decide)
        have z9 := hF 9 (by decide)
        obtain ⟨s8, A8, n8, c8, ev8⟩ := ZRes.form z9
        rw [ev8] at e24 z9
        have HX := hide (HB5.out.next hG)
        refine Does.store_box (T := 26) (cells := #[.bool s8, .slice A8 n8 c8]) rfl e5 e24 (Blk.box HX.out) (by kernel_rfl) rfl (by simp [Value.oneCell']) (fun w2 x9 o9 => ?_)
        rw [show fin _ σ undef _ = (Act.put (Act.put (Act.put (Act.put (Act.put (Act.put (Act.put (Act.put (Act.put (Act.put (Act.put _ (some 15) (σ 0)) (some 16) (σ 1)) (some 17) (σ 2)) (some 18) (σ 3)) (some 19) (σ 4)) (some 20) (σ 5)) (some 21) (σ 6)) (some 22) (σ 7)) (some 23) (σ 8)) (some 24) (σ 9)) none undef) from (fin_all hall).trans rfl]
        simp only [Act.put, List.setIfInBounds_toArray, List.set_cons_zero, List.set_cons_succ]
        have HE := hide (show RValRel w0 W1 (K + sumv (vf L us) (q + 1)) (k + L.length + kj + (q + 1)) w2 from ⟨s8, A8, n8, c8, x9, by rw [← HC.out]; exact (z9.only HX.out o9).in_, (HBB.out.trans (hG.mono (Nat.le_trans hBW HBB.out.size))).trans (o9.below (Nat.le_trans hBW (Nat.le_trans HBB.out.size hG.size)) (Nat.le_refl _))⟩)
        generalize σ 0 = tt0 at *; generalize σ 1 = tt1 at *; generalize σ 2 = tt2 at *; generalize σ 3 = tt3 at *; generalize σ 4 = tt4 at *; generalize σ 5 = tt5 at *; generalize σ 6 = tt6 at *; generalize σ 7 = tt7 at *; generalize σ 8 = tt8 at *; generalize σ 9 = tt9 at *
        clear hF hG hall hin hout SOF z9 x9 o9 e5 e24 ev8
        go_wp2_with fail
        go_roundw
        case rel => exact ⟨q + 1, by omega, by go_num, HE⟩
        case measure => simp [intOf] <;> omega
    · obtain rfl : q = vn := by omega
      have HL := hide (show K + sumv (vf L us) q = K + val us L by rw [val_sumv, HUS.out]; rfl)
      have b50 := Blk.c0 b5
      have b51 := Blk.c1 b5
      have hcl := clean_z _ _ _ wr zz5 (by omega)
      have k1 : Blk wr (w0.heap.size + 1) #[.bool false, .slice none 0 0] := Box.below R0.out hB (by omega)
      have HT := hide hT
      have K1 := hide k1
      clear zz5 b5 HR hT k1
      go_wp2_with fail
      refine hcl.mono ?_
      rintro en w5 ⟨v5, rfl, r5, b5⟩
      obtain ⟨s6, A6, n6, c6, rfl⟩ := r5.form
      have k5 := K1.out.next b5
      go_wp2_with (with_reducible refine wpList_store_z rfl _ _ rfl (w0.heap.size + 1) _ _ _ _ rfl rfl _ _ k5 ?_; intro w3 k3 ho3)
      refine bodyPost_z rfl rfl k3 rfl ?_
      refine ⟨_, rfl, ?_, zback (HT.out.next b5) (by omega) ho3⟩
      rw [← HL.out]
      exact r5.only k5 ho3
set_option maxHeartbeats 2000000 in
theorem rholds_any (v : Value) (L : List (Int × Int)) (K : Int) (e : Bool) (k kj : Nat) (VA : Option Addr) (vn vc : Nat) (ivs : List IV) (w0 : World) (hv : RIn w0 v L K e k) (hvs : ValsIn w0 VA vn ivs kj) (hvn : vn ≤ 1000) (hle : L.length ≤ 1099511) (hk : k ≤ 100000) (hkj : kj ≤ 100000) :
    Calls Tryz.prog 24 #[v, .slice VA vn vc] w0 (fun en w' => en = .returned (.bool (holdsZ e (K + val (nums ivs) L))) ∧ Below w0.heap.size w0 w') := by
  obtain ⟨A, n, c, s, B, m, d, rfl, ht⟩ := hv
  obtain ⟨z0, z1, -⟩ := bstart1 30 w0 #[.slice A n c, .bool s, .slice B m d, .bool e]
  have x0 := z0.r0
  have x1 := z0.r1
  have x2 := z0.r2
  have hva := rvalue_any _ L K k kj VA vn vc ivs _ (ht.below z1) (hvs.below z1) hvn hle hk hkj
  generalize hZ : K + val (nums ivs) L = Z at hva ⊢
  clear hZ
  go_enter Tryz.func24, Tryz.ntmps24
  go_wp2_with fail
  refine hva.mono ?_
  rintro en w1 ⟨v1, rfl, r1, b1⟩
  have hsg := rsign_z v1 Z _ w1 r1.in_ (by omega)
  have Q1 := hide (z0.next b1)
  have T1 := hide (z1.next b1)
  clear hva x0 x1 x2 z0 z1 r1 b1
  go_wp2_with fail
  refine hsg.mono ?_
  rintro en w2 ⟨rfl, b2⟩
  have x3 := (Q1.out.next b2).r3
  have T2 := T1.out.next b2
  clear hsg
  rcases Int.lt_trichotomy Z 0 with h | h | h
  · have h1 : Z.sign = -1 := Int.sign_eq_neg_one_of_neg h
    rw [h1]
    have HE := hide (show holdsZ e Z = false by
      unfold holdsZ
      have a1 : ¬ Z = 0 := by omega
      have a2 : ¬ 0 ≤ Z := by omega
      cases e <;> simp [a1, a2])
    clear h h1
    cases e <;> (go_wp2_with fail; go_ret; exact ⟨by rw [HE.out] <;> rfl, T2⟩)
  · subst h
    have HE := hide (show holdsZ e 0 = true by unfold holdsZ; cases e <;> simp)
    rw [Int.sign_zero]
    cases e <;> (go_wp2_with fail; go_ret; exact ⟨by rw [HE.out] <;> rfl, T2⟩)
  · have h1 : Z.sign = 1 := Int.sign_eq_one_of_pos h
    rw [h1]
    have HE := hide (show holdsZ e Z = !e by
      unfold holdsZ
      have a1 : ¬ Z = 0 := by omega
      have a2 : 0 ≤ Z := by omega
      cases e <;> simp [a1, a2])
    clear h h1
    cases e <;> (go_wp2_with fail; go_ret; exact ⟨by rw [HE.out] <;> rfl, T2⟩)
end Go.Proofs.YtdeakieenppmiaaGreatDoor
