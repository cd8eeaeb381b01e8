/- Texts of one seat, put together: Open OpenZ OpenT R4Few RContent. -/
import Derived.Test.YtdeakieenppmiaaGreatDoorC02
import Derived.ProofKit
import Derived.OpenShut
import Derived.ShutString
import Derived.ChangeOld
import Derived.Below
import Derived.Lib.SmallJoins
import Derived.Test.YtdeakieenppmiaaGreatDoorC16
import Derived.Deep.Slices
import Derived.Deep.Strs
import Derived.Test.YtdeakieenppmiaaGreatDoorC36
import Derived.Test.YtdeakieenppmiaaGreatDoorC33
import Derived.Test.YtdeakieenppmiaaGreatDoorC23
import Derived.Test.YtdeakieenppmiaaGreatDoorC30
set_option linter.unusedVariables false
set_option linter.unusedSimpArgs false
set_option maxRecDepth 100000
set_option maxHeartbeats 16000000
/- What the row's arguments are opened to. -/
namespace Go.Proofs.YtdeakieenppmiaaGreatDoor
open Go.ChangeShapes Go.WideShapes Go.ChangeAt Go.RowKit
open Go.ChangeMaps (open_string shut_string)

theorem own : ownKnob Tryz.prog.godebug = none := by kernel_rfl
theorem laidOut : laidOutB Tryz.prog = true := by kernel_rfl

theorem wf_u32 {z : Int} (h : (Lit.int .u32 z).wf = true) : 0 ≤ z ∧ z < 4294967296 := by
 have h1 : IntKind.u32.min = 0 := rfl
 have h2 : IntKind.u32.max = 4294967295 := rfl
 simp only [Lit.wf, Bool.and_eq_true, decide_eq_true_eq] at h
 omega

theorem open_nums {H : Type} {enc : TypeId × Value → H} {W : World} {a0 : Option Addr} {len0 cap0 : Nat} {d : DataW H} {p : List MemPlace}
   (h0 : DataW.Trod enc Tryz.prog W 0 (fun _ => true) true 24 (.slice a0 len0 cap0) d p) : ∃ xs, Nums W a0 len0 xs ∧ len0 ≤ cap0 ∧ cap0 ≤ 9223372036854775807 := by
 obtain ⟨fuel, hf⟩ := h0
 rcases open_ints Tryz.underlying24 Tryz.underlying92 (by kernel_rfl) hf with ⟨hcs, _⟩ | ⟨x, l, c, zs, hcs, _, hl, hm, hz, _, hcell, hwz⟩
 · simp [Value.cells] at hcs
   obtain ⟨rfl, rfl, rfl⟩ := hcs
   exact ⟨[], Nums.nil _ _, by omega, by omega⟩
 · simp [Value.cells] at hcs
   obtain ⟨rfl, rfl, rfl⟩ := hcs
   have hz2 : zs.length = cap0 := by simpa using hz
   unfold maxLen at hm
   refine ⟨(zs.take len0).map Int.toNat, ⟨by simp; omega, ?_, ?_⟩, hl, hm⟩
   · intro y hy
     obtain ⟨z, hz1, rfl⟩ := List.mem_map.1 hy
     have := wf_u32 (hwz z (List.mem_of_mem_take hz1))
     omega
   · intro hn
     have h1 := hcell 0 (by omega)
     obtain ⟨b, o, spot⟩ := x
     have hspot : spot = none := by simpa [Addr.add] using World.cell?_spot h1
     subst hspot
     refine ⟨b, o, rfl, fun i hi => ?_⟩
     have h2 := hcell i (by omega)
     have e : (⟨b, o, none⟩ : Addr).add i = ⟨b, o + i, none⟩ := by
      by_cases hi0 : i = 0
      · subst hi0; rfl
      · simp [Addr.add, hi0]
     rw [e] at h2
     rw [h2]
     have hlt : i < zs.length := by omega
     have hw := wf_u32 (hwz zs[i] (List.getElem_mem hlt))
     have e1 : zs.getD i 0 = zs[i] := by rw [List.getD_eq_getElem?_getD, List.getElem?_eq_getElem hlt]; rfl
     have e2 : ((zs.take len0).map Int.toNat).getD i 0 = zs[i].toNat := by
      rw [List.getD_eq_getElem?_getD, List.getElem?_map, List.getElem?_take_of_lt hi, List.getElem?_eq_getElem hlt]; rfl
     rw [e1, e2]
     congr 2
     omega
end Go.Proofs.YtdeakieenppmiaaGreatDoor
/- What a row's argument of type api.Int is opened to. -/
namespace Go.Proofs.YtdeakieenppmiaaGreatDoor
open Go.ChangeShapes Go.WideShapes Go.ChangeAt Go.RowKit
open Go.ChangeMaps (open_string shut_string)

theorem open_nums1 {H : Type} {enc : TypeId × Value → H} {W : World} {v : Value} {x : DataW H × List MemPlace} {f : Nat}
   (hf : DataW.trod enc Tryz.prog W 0 (fun _ => true) true f 24 [v] = some x) : ∃ a len cap xs, v = .slice a len cap ∧ Nums W a len xs ∧ len ≤ cap ∧ cap ≤ 9223372036854775807 := by
 rcases open_ints Tryz.underlying24 Tryz.underlying92 (by kernel_rfl) hf with ⟨hcs, _⟩ | ⟨y, l, c, zs, hcs, _⟩
 · injection hcs with hcs
   subst hcs
   exact ⟨none, 0, 0, [], rfl, Nums.nil _ _, by omega, by omega⟩
 · injection hcs with hcs
   subst hcs
   obtain ⟨xs, h1, h2, h3⟩ := open_nums (a0 := some y) (len0 := l) (cap0 := c) (d := x.1) (p := x.2) (W := W) (enc := enc) ⟨f, hf⟩
   exact ⟨some y, l, c, xs, rfl, h1, h2, h3⟩
end Go.Proofs.YtdeakieenppmiaaGreatDoor
/- What a row's argument of type api.Term, []api.Term or api.Int is opened to, as values. -/
namespace Go.Proofs.YtdeakieenppmiaaGreatDoor
open Go.ChangeShapes Go.WideShapes Go.ChangeAt Go.RowKit Go.Deep

theorem cellsInt : Tryz.prog.cellsOf 26 = 2 := by kernel_rfl
theorem cellsBool : Tryz.prog.cellsOf 4 = 1 := by kernel_rfl
theorem cellsNat : Tryz.prog.cellsOf 24 = 1 := by kernel_rfl
theorem cellsI : Tryz.prog.cellsOf 3 = 1 := by kernel_rfl
theorem cellsPart : Tryz.prog.cellsOf 60 = 3 := by kernel_rfl
theorem cellsParts : Tryz.prog.cellsOf 22 = 1 := by kernel_rfl
theorem cellsTerm : Tryz.prog.cellsOf 28 = 3 := by kernel_rfl

/-- The greatest length. -/
def big : Nat := 9223372036854775807
section
variable {H : Type} {enc : TypeId × Value → H} {W : World} {f : Nat} {x : DataW H × List MemPlace} {cs : List Value}
theorem open_int_cells (h : DataW.trod enc Tryz.prog W 0 (fun _ => true) true f 26 cs = some x) : ∃ s a len cap Z, cs = [.bool s, .slice a len cap] ∧ ZIn W (.agg #[.bool s, .slice a len cap]) Z big := by
 obtain ⟨y0, y1, n, -, hl, h0, h1⟩ := trod_struct2 Tryz.underlying26 h
 rw [cellsInt] at hl
 match cs, hl with
 | [v0, v1], _ =>
  have g0 : DataW.trod enc Tryz.prog W 0 (fun _ => true) true n 4 (([v0, v1].drop 0).take (Tryz.prog.cellsOf 4)) = some y0 := h0
  have g1 : DataW.trod enc Tryz.prog W 0 (fun _ => true) true n 24 (([v0, v1].drop 1).take (Tryz.prog.cellsOf 24)) = some y1 := h1
  rw [cellsBool] at g0
  rw [cellsNat] at g1
  obtain ⟨s, e0, -⟩ := DataW.trod_bool Tryz.underlying4 g0
  injection e0 with e0
  subst e0
  obtain ⟨a, len, cap, xs, rfl, h1, h2, h3⟩ := open_nums1 g1
  exact ⟨s, a, len, cap, _, rfl, s, a, len, cap, xs, rfl, h1, h2, h3, by unfold big; omega, rfl⟩
theorem open_part_cells (h : DataW.trod enc Tryz.prog W 0 (fun _ => true) true f 60 cs = some x) : ∃ p : PV, cs = p.cells ∧ ZIn W p.num p.Z big ∧ -9223372036854775808 ≤ p.v ∧ p.v ≤ 9223372036854775807 := by
 obtain ⟨y0, y1, n, -, hl, h0, h1⟩ := trod_struct2 Tryz.underlying60 h
 rw [cellsPart] at hl
 match cs, hl with
 | [v0, v1, v2], _ =>
  have g0 : DataW.trod enc Tryz.prog W 0 (fun _ => true) true n 3 (([v0, v1, v2].drop 0).take (Tryz.prog.cellsOf 3)) = some y0 := h0
  have g1 : DataW.trod enc Tryz.prog W 0 (fun _ => true) true n 26 (([v0, v1, v2].drop 1).take (Tryz.prog.cellsOf 26)) = some y1 := h1
  rw [cellsI] at g0
  rw [cellsInt] at g1
  obtain ⟨z, e0, -, hw⟩ := DataW.trod_int Tryz.underlying3 g0
  injection e0 with e0
  subst e0
  obtain ⟨s, a, len, cap, Z, e, hz⟩ := open_int_cells g1
  injection e with e1 e
  injection e with e2 e
  subst e1 e2
  exact ⟨⟨z, s, a, len, cap, Z⟩, rfl, hz, (bounds_i64 hw).1, (bounds_i64 hw).2⟩
theorem flat_split (ps : List PV) (j : Nat) (u : Value) (h : (flat ps)[j]? = some u) : ∃ i p r, ps[i]? = some p ∧ j = 3 * i + r ∧ p.cells[r]? = some u ∧ r < 3 := by
 induction ps generalizing j with
 | nil => simp [flat] at h
 | cons p ps ih =>
  rw [flat_cons] at h
  have hl : p.cells.length = 3 := rfl
  by_cases hj : j < 3
  · rw [List.getElem?_append_left (by omega)] at h
    exact ⟨0, p, j, rfl, by omega, h, hj⟩
  · rw [List.getElem?_append_right (by omega), hl] at h
    obtain ⟨i, q, r, h1, h2, h3, h4⟩ := ih _ h
    exact ⟨i + 1, q, r, by simpa using h1, by omega, h3, h4⟩
instance pvSome : Inhabited PV := ⟨⟨0, false, none, 0, 0, 0⟩⟩
theorem open_parts {v : Value} (hf : DataW.trod enc Tryz.prog W 0 (fun _ => true) true f 22 [v] = some x) : ∃ a len cap ps, v = .slice a len cap ∧ PartsIn W a len ps big ∧ (∀ p ∈ ps, -9223372036854775808 ≤ p.v ∧ p.v ≤ 9223372036854775807) ∧ len ≤ cap ∧ cap ≤ 9223372036854775807 := by
 rcases open_slice Tryz.underlying22 hf with ⟨hcs, _⟩ | ⟨a, len, cap, m, n, D, Pl, hcs, _, hl, hm, hmm, _, hx⟩
 · injection hcs with hcs
   subst hcs
   exact ⟨none, 0, 0, [], rfl, PartsIn.nil _ _ _, fun p hp => by simp at hp, by omega, by omega⟩
 · injection hcs with hcs
   subst hcs
   unfold maxLen at hm
   have hlm : len ≤ m := by rw [hmm]; split <;> omega
   obtain ⟨p, hp⟩ := choose_lt (α := PV) (n := len) (p := fun i p => (∀ r u, p.cells[r]? = some u → W.cell? (a.add (i * 3 + r)) = some u) ∧ ZIn W p.num p.Z big ∧ -9223372036854775808 ≤ p.v ∧ p.v ≤ 9223372036854775807) (fun i hi => by
     obtain ⟨cs, h1, h2⟩ := hx i (by omega)
     rw [cellsPart] at h1
     obtain ⟨_, hlen, hcell⟩ := World.cells?_some h1
     obtain ⟨p, rfl, hz, hb⟩ := open_part_cells h2
     refine ⟨p, fun r u hu => ?_, hz, hb⟩
     have hr : r < 3 := by
      have := (List.getElem?_eq_some_iff.1 hu).1
      have hl : p.cells.length = 3 := rfl
      omega
     rw [← hu, ← hcell r hr, add_add])
   have hall : ∀ q ∈ (List.range len).map p, ∃ i, i < len ∧ q = p i := fun q hq => by
     obtain ⟨i, hi, rfl⟩ := List.mem_map.1 hq
     exact ⟨i, List.mem_range.1 hi, rfl⟩
   refine ⟨some a, len, cap, (List.range len).map p, rfl, ⟨by simp, fun hn => ?_, fun q hq => ?_⟩, fun q hq => ?_, hl, hm⟩
   · have h0 := (hp 0 hn).1 0 _ rfl
     obtain ⟨b, o, spot⟩ := a
     have hspot : spot = none := by simpa [Addr.add] using World.cell?_spot h0
     subst hspot
     refine ⟨b, o, rfl, fun j u hu => ?_⟩
     obtain ⟨i, q, r, h1, rfl, h3, h4⟩ := flat_split _ _ _ hu
     have hi : i < len := by
      have := (List.getElem?_eq_some_iff.1 h1).1
      simpa using this
     have hq : q = p i := by
      rw [List.getElem?_map, List.getElem?_range hi] at h1
      exact (Option.some.inj h1).symm
     subst hq
     have h5 := (hp i hi).1 r u h3
     rw [add_plain] at h5
     rw [show 3 * i + r = i * 3 + r by omega]
     exact h5
   · obtain ⟨i, hi, rfl⟩ := hall q hq
     exact (hp i hi).2.1
   · obtain ⟨i, hi, rfl⟩ := hall q hq
     exact (hp i hi).2.2
/-- A term as it comes in: also each variable is an int64. -/
theorem open_term_cells (h : DataW.trod enc Tryz.prog W 0 (fun _ => true) true f 28 cs = some x) : ∃ A n c s B m d L K, cs = [.slice A n c, .bool s, .slice B m d] ∧ TIn W (.agg #[.slice A n c, .bool s, .slice B m d]) L K big ∧ ∀ p ∈ L, -9223372036854775808 ≤ p.1 ∧ p.1 ≤ 9223372036854775807 := by
 obtain ⟨y0, y1, n, -, hl, h0, h1⟩ := trod_struct2 Tryz.underlying28 h
 rw [cellsTerm] at hl
 match cs, hl with
 | [v0, v1, v2], _ =>
  have g0 : DataW.trod enc Tryz.prog W 0 (fun _ => true) true n 22 (([v0, v1, v2].drop 0).take (Tryz.prog.cellsOf 22)) = some y0 := h0
  have g1 : DataW.trod enc Tryz.prog W 0 (fun _ => true) true n 26 (([v0, v1, v2].drop 1).take (Tryz.prog.cellsOf 26)) = some y1 := h1
  rw [cellsParts] at g0
  rw [cellsInt] at g1
  obtain ⟨a, len, cap, ps, e0, hp, hb, hl1, hl2⟩ := open_parts g0
  obtain ⟨s, B, m, d, Z, e, hz⟩ := open_int_cells g1
  injection e with e1 e
  injection e with e2 e
  subst e0 e1 e2
  refine ⟨a, len, cap, s, B, m, d, lin ps, Z, rfl, ⟨a, len, cap, s, B, m, d, rfl, ⟨ps, hp, rfl⟩, hl1, hl2, hz⟩, fun p hp => ?_⟩
  obtain ⟨q, hq, rfl⟩ := List.mem_map.1 hp
  exact hb q hq
end
end Go.Proofs.YtdeakieenppmiaaGreatDoor
/- plumblineref04.Few, FewVals. -/
namespace Go.Proofs.YtdeakieenppmiaaGreatDoor
open Go.RowKit

/-- A relation of at most 20 parts, whose numbers have at most li limbs. -/
def FewRV (w : World) (li : Nat) (r : RV) : Prop := r.n ≤ 20 ∧ TIn w r.trm r.L r.K li
def FewRPost (mo li : Nat) (rs : List RV) (w : World) (e : Ending) (w' : World) : Prop := ∃ r, e = .returned (.bool r) ∧ (r = true → rs.length ≤ mo ∧ ∀ x ∈ rs, FewRV w li x) ∧ w' = w
theorem r4few_any (A : Option Addr) (n c mo li : Nat) (rs : List RV) (w0 : World) (hx : RelsIn w0 A n rs big) (hn : n ≤ 9223372036854775807) (hmo : mo ≤ 1000) (hli : li ≤ 1000) : Calls Tryz.prog 9 #[.slice A n c, .int .i64 mo, .int .i64 li] w0 (FewRPost mo li rs w0) := by
 have HX := hide hx
 have HLN := hide hx.1.1
 clear hx
 go_enter Tryz.func9, Tryz.ntmps9
 by_cases hnm : (mo : Int) < n
 · go_wp2_with fail
   go_ret
   exact ⟨false, rfl, (fun h => by cases h), rfl⟩
 have HNM := hide hnm
 go_wp2_with fail
 have HF := hide (show ∀ i t, i < 0 → rs[i]? = some t → FewRV w0 li t from fun i t h => by omega)
 go_loopw [7] (fun i wr => ∃ q : Nat, q ≤ n ∧ i = .int .i64 q ∧ Hid (∀ i t, i < q → rs[i]? = some t → FewRV w0 li t) ∧ wr = w0) (fun i _ => n - (intOf i).toNat)
 case atStart => exact ⟨0, Nat.zero_le _, rfl, HF, by trivial⟩
 case round =>
   obtain ⟨q, hq, rfl, HFq, rfl⟩ := hrel
   by_cases hqn : q < n
   · obtain ⟨bb, o, t, rfl, hgt, c0, c1, c2, c3⟩ := HX.out.1.at_ hqn
     obtain ⟨A', n', c', s', B', m', d', e', hp', hc1, hc2, hK⟩ := HX.out.2 t (List.mem_of_getElem? hgt)
     have e2 : A' = t.A ∧ n' = t.n ∧ c' = t.c ∧ s' = t.s ∧ B' = t.B ∧ m' = t.m ∧ d' = t.d := by simpa [RV.trm, eq_comm, and_assoc] using e'
     obtain ⟨rfl, rfl, rfl, rfl, rfl, rfl, rfl⟩ := e2
     clear e'
     obtain ⟨ps, hps, hpl⟩ := hp'
     have hm1 := hK.bounds
     have ht1 : t.n ≤ 9223372036854775807 := by omega
     have HPS := hide hps
     have HPL := hide hpl
     have HK := hide hK
     have HT := hide hgt
     have c2' : wr.cell? ⟨bb, o + q * 4 + 1 + 1, none⟩ = some (.slice t.B t.m t.d) := c2
     clear hps hpl hK hgt
     by_cases h30 : (20 : Int) < t.n
     · go_wp2_with fail
       go_ret
       exact ⟨false, rfl, (fun h => by cases h), rfl⟩
     · by_cases h20 : (li : Int) < t.m
       · go_wp2_with fail
         go_ret
         exact ⟨false, rfl, (fun h => by cases h), rfl⟩
       · go_wp2_with fail
         have H30 := hide h30
         have H20 := hide h20
         have HG := hide (show ∀ i x, i < 0 → ps[i]? = some x → x.m ≤ li from fun i x h => by omega)
         obtain ⟨wo, hwo⟩ : ∃ wo, wo = wr := ⟨_, rfl⟩
         go_loopw [8] (fun i w2 => ∃ r : Nat, r ≤ t.n ∧ i = .int .i64 r ∧ Hid (∀ i x, i < r → ps[i]? = some x → x.m ≤ li) ∧ w2 = wo) (fun i _ => t.n - (intOf i).toNat)
         case atStart => exact ⟨0, Nat.zero_le _, rfl, HG, by first | trivial | exact hwo.symm⟩
         case round =>
          obtain ⟨r, hr, rfl, HGr, hw2⟩ := hrel
          subst hw2
          subst hwo
          by_cases hrn : r < t.n
          · obtain ⟨pb, po, p, hA, hgp, g0, g1, g2, hpz⟩ := HPS.out.at_ hrn
            have c0' := c0
            rw [hA] at c0'
            have HAA := hide hA
            clear c0 hA
            have hpm := hpz.bounds
            have hgp' := hide hgp
            rw [Nat.mul_comm 3 r] at g0 g1 g2
            rw [← Nat.add_assoc] at g1 g2
            have g2' : wr.cell? ⟨pb, po + r * 3 + 1 + 1, none⟩ = some (.slice p.B p.m p.d) := g2
            by_cases hp20 : (li : Int) < p.m
            · go_wp2_with fail
              go_ret
              exact ⟨false, rfl, (fun h => by cases h), rfl⟩
            · go_wp2_with fail
              go_roundw
              case rel => exact ⟨r + 1, by omega, by go_num, fun i x hi hx => by
               by_cases hir : i < r
               · exact HGr.out i x hir hx
               · obtain rfl : i = r := by omega
                 rw [hgp'.out] at hx
                 injection hx with hx
                 subst hx
                 omega, by trivial⟩
              case measure => simp [intOf] <;> omega
          · obtain rfl : r = t.n := by omega
            go_wp2_with fail
            go_roundw
            case rel => exact ⟨q + 1, by omega, by go_num, fun i x hi hx => by
               by_cases hir : i < q
               · exact HFq.out i x hir hx
               · obtain rfl : i = q := by omega
                 rw [HT.out] at hx
                 injection hx with hx
                 subst hx
                 have h30 := H30.out
                 have h20 := H20.out
                 refine ⟨by omega, t.A, t.n, t.c, t.s, t.B, t.m, t.d, rfl, ⟨ps, ⟨HPS.out.1, HPS.out.2.1, fun p hp => ?_⟩, HPL.out⟩, hc1, hc2, HK.out.cut (by omega)⟩
                 obtain ⟨y, hy, hyp⟩ := List.mem_iff_getElem.1 hp
                 exact (HPS.out.2.2 p hp).cut (HGr.out y p (by have := HPS.out.1; omega) (by rw [List.getElem?_eq_getElem hy, hyp])), by trivial⟩
            case measure => simp [intOf] <;> omega
   · obtain rfl : q = n := by omega
     go_wp2_with fail
     go_ret
     refine ⟨true, rfl, fun _ => ⟨by have := HLN.out; have := HNM.out; omega, fun t ht => ?_⟩, rfl⟩
     obtain ⟨i, hi, hit⟩ := List.mem_iff_getElem.1 ht
     exact HFq.out i t (by have := HLN.out; omega) (by rw [List.getElem?_eq_getElem hi, hit])
def FewVPost (mo li : Nat) (A : Option Addr) (n : Nat) (vs : List IV) (w : World) (e : Ending) (w' : World) : Prop := ∃ r, e = .returned (.bool r) ∧ (r = true → n ≤ mo ∧ ValsIn w A n vs li) ∧ w' = w
end Go.Proofs.YtdeakieenppmiaaGreatDoor
/- plumblineref03.Content. -/
namespace Go.Proofs.YtdeakieenppmiaaGreatDoor
open Go.RowKit
open Tm

theorem IIn.keepI {w w' : World} {A : Option Addr} {n g q d : Nat} {xs : List Int} {C : Option Addr} {s : Bool} (h : IIn w A n xs) (hb : Blk w g #[.bool s, .slice C q d]) (ho : Only g w w') : IIn w' A n xs := by
 refine ⟨h.1, fun hn => ?_⟩
 obtain ⟨b, o, e, hc⟩ := h.2 hn
 refine ⟨b, o, e, fun j u hu => ?_⟩
 have h1 := hc j u hu
 refine ho.gb.cell h1 (fun hh => ?_)
 injection hh with hh
 have hh' : b = g := hh
 subst hh'
 have hu2 : ∃ x, u = .int .i64 x := by
  obtain ⟨x, -, hx⟩ := List.mem_map.1 (List.mem_of_getElem? hu)
  exact ⟨x, hx.symm⟩
 obtain ⟨x, rfl⟩ := hu2
 rw [cell_of_row w b _ _ _ _ hb] at h1
 match o + j, h1 with
 | 0, h1 => simp at h1
 | 1, h1 => simp at h1
 | i + 2, h1 => simp at h1
theorem rcontent_any (v : Value) (L : List (Int × Int)) (K : Int) (k : Nat) (w0 : World) (hv : TIn w0 v L K k) (hl : L.length ≤ 1099511) (hk : k ≤ 109951162) : Calls Tryz.prog 39 #[v] w0 (ZPost (content L) (k + L.length) w0) := by
 have hv0 := hv
 obtain ⟨A, n, c, s, B, m, d, rfl, -⟩ := hv
 obtain ⟨z0, z1, z2, z3, z4⟩ := bstart3 28 26 26 w0 #[.slice A n c, .bool s, .slice B m d] #[.bool false, .slice none 0 0] #[.bool false, .slice none 0 0]
 have hva := rvars_any _ L K k _ (hv0.below z3) hl (by omega)
 have x0 := z0.c0
 have x1 := z0.c1
 have x2 := z0.c2
 go_enter Tryz.func39, Tryz.ntmps39
 go_wp2_with fail
 refine hva.mono ?_
 rintro e W1 ⟨AV, cV, rfl, iv, hv1, hv2, b1⟩
 have IV := hide iv
 have HT1 := hide (z3.next b1)
 have hW1 : w0.heap.size + 1 + 1 + 1 ≤ W1.heap.size := by have := b1.size; omega
 have Q0 := hide (z0.next b1)
 have HR1 := hide (z1.next b1)
 have HG := hide (z2.next b1)
 have HV0 := hide hv0
 have HS := hide (show ContRel (w0.heap.size + 1 + 1) W1 (norm L) (k + L.length) 0 W1 from ⟨false, none, 0, 0, z2.next b1, ZRes.zero _ _, Only.refl _ _⟩)
 have hm1 : (vars L).length ≤ 1099511 := by have := vars_length L; omega
 clear x0 x1 x2 hva z0 z1 z2 z3 z4 b1 iv hv0
 generalize hm : (vars L).length = m1 at *
 have HM1 := hide hm
 clear hm
 go_wp2_with fail
 go_loopw [5] (fun i wr => ∃ q : Nat, q ≤ m1 ∧ i = .int .i64 q ∧ Hid (ContRel (w0.heap.size + 1 + 1) W1 (norm L) (k + L.length) q wr)) (fun i _ => m1 - (intOf i).toNat)
 case atStart => exact ⟨0, Nat.zero_le _, rfl, HS⟩
 case round =>
  obtain ⟨q, hq, rfl, HR⟩ := hrel
  obtain ⟨s5, A5, n5, c5, b5, zz5, hB⟩ := HR.out
  have hT : Below w0.heap.size w0 wr := HT1.out.trans (hB.below (by omega) (by omega))
  by_cases hqn : q < m1
  · obtain ⟨bb, o, x, rfl, hlt, hx, c0⟩ := (IV.out.keepI HG.out hB).at_ hqn
    have hLp := norm_get L q x hx
    have HC := hide (show gcdZ (gcdL 0 ((norm L).take q) : Nat) (coef L x) = (gcdL 0 ((norm L).take (q + 1)) : Nat) by unfold gcdZ; rw [gcdL_take_succ 0 _ q _ _ hLp, Int.natAbs_natCast])
    have HB5 := hide b5
    have HZ5 := hide zz5
    have HTT := hide hT
    have HOB := hide hB
    have zt := Box.other Q0.out hB (by omega)
    generalize ((gcdL 0 ((norm L).take q) : Nat) : Int) = Y at *
    have HM := hide (fun W (h : Below wr.heap.size wr W) => rcoef_any _ L K x k W (HV0.out.below (HTT.out.next h)) hl (by omega))
    have SOF := hide (show ∀ W, Below wr.heap.size wr W → (W.cell? ⟨w0.heap.size + 1 + 1, 0, none⟩ = some (.bool s5) ∧ W.cell? ⟨w0.heap.size + 1 + 1, 1, none⟩ = some (.slice A5 n5 c5) ∧ W.cell? ⟨w0.heap.size, 0, none⟩ = some (.slice A n c) ∧ W.cell? ⟨w0.heap.size, 1, none⟩ = some (.bool s) ∧ W.cell? ⟨w0.heap.size, 2, none⟩ = some (.slice B m d) ∧ W.cell? ⟨bb, o + q, none⟩ = some (.int .i64 x)) from fun W h => ⟨(Blk.next HB5.out h).c0, (Blk.next HB5.out h).c1, (zt.next h).c0, (zt.next h).c1, (zt.next h).c2, (h.cell (p := ⟨bb, o + q, none⟩) hlt).trans c0⟩)
    clear b5 zz5 hT hB zt HR hx hLp c0
    go_wp2_with fail
    refine wp_drawnL (by kernel_rfl) (by kernel_rfl) (by kernel_rfl) (by kernel_rfl) (fun w w' => Below w.heap.size w w') (fun j v w => match j with | 0 => v = .agg #[.bool s5, .slice A5 n5 c5] | 1 => v = .agg #[.slice A n c, .bool s, .slice B m d] | 2 => v = .slice (some ⟨bb, o, none⟩) m1 cV | 3 => v = .int .i64 (q : Int) | 4 => v = .pointer (some ⟨bb, o + q, none⟩) | 5 => v = .int .i64 x | 6 => ZRes w v (coef L x) (k + L.length) | 7 => ZRes w v (gcdZ Y (coef L x)) (k + L.length) | _ => True) (fun _ _ w => Below wr.heap.size wr w) ?_ (fun _ => bl_drewN wr 1) ?_ ?_
    · intro j v w w' hT h
      match j, h with
      | 0, h => exact h
      | 1, h => exact h
      | 2, h => exact h
      | 3, h => exact h
      | 4, h => exact h
      | 5, h => exact h
      | 6, h => exact h.below hT
      | 7, h => exact h.below hT
      | j + 8, h => trivial
    · refine ⟨?_, ?_, ?_, ?_, ?_, ?_, ?_, ?_, trivial⟩
      · intro listed σ w a hin hout hl hla hs hc hp hG hF
        refine Guarded.none rfl ?_
        have e3 : a.tmps.getD 3 undef = .pointer (some ⟨w0.heap.size + 1 + 1, 0, none⟩) := hout 3 (outB_spec (by kernel_rfl))
        have CC := SOF.out w hG; obtain ⟨C0, C1, D0, D1, D2, E0⟩ := CC
        refine Does.val (.agg #[.bool s5, .slice A5 n5 c5]) (w' := w) ?_ ⟨Below.refl _ _, rfl, hG⟩
        go_simp
      · intro listed σ w a hin hout hl hla hs hc hp hG hF
        refine Guarded.none rfl ?_
        have e1 : a.tmps.getD 1 undef = .pointer (some ⟨w0.heap.size, 0, none⟩) := hout 1 (outB_spec (by kernel_rfl))
        have CC := SOF.out w hG; obtain ⟨C0, C1, D0, D1, D2, E0⟩ := CC
        refine Does.val (.agg #[.slice A n c, .bool s, .slice B m d]) (w' := w) ?_ ⟨Below.refl _ _, rfl, hG⟩
        go_simp
      · intro listed σ w a hin hout hl hla hs hc hp hG hF
        refine Guarded.none rfl ?_
        have e4 : a.tmps.getD 4 undef = .slice (some ⟨bb, o, none⟩) m1 cV := hout 4 (outB_spec (by kernel_rfl))
        refine Does.val (.slice (some ⟨bb, o, none⟩) m1 cV) (w' := w) ?_ ⟨Below.refl _ _, rfl, hG⟩
        simp only [Array.getD_eq_getD_getElem?] at e4
        go_simp
      · intro listed σ w a hin hout hl hla hs hc hp hG hF
        refine Guarded.none rfl ?_
        have e5 : a.tmps.getD 5 undef = .int .i64 (q : Int) := hout 5 (outB_spec (by kernel_rfl))
        refine Does.val (.int .i64 (q : Int)) (w' := w) ?_ ⟨Below.refl _ _, rfl, hG⟩
        simp only [Array.getD_eq_getD_getElem?] at e5
        go_simp
      · intro listed σ w a hin hout hl hla hs hc hp hG hF
        refine Guarded.none rfl ?_
        have e17 : a.tmps.getD 17 undef = .slice (some ⟨bb, o, none⟩) m1 cV := (hin 2 17 rfl (hp ⟨2, .data⟩ (by simp) rfl)).trans (hF 2 (hp ⟨2, .data⟩ (by simp) rfl))
        have e18 : a.tmps.getD 18 undef = .int .i64 (q : Int) := (hin 3 18 rfl (hp ⟨3, .data⟩ (by simp) rfl)).trans (hF 3 (hp ⟨3, .data⟩ (by simp) rfl))
        refine Does.val (.pointer (some ⟨bb, o + q, none⟩)) (w' := w) ?_ ⟨Below.refl _ _, rfl, hG⟩
        simp only [Array.getD_eq_getD_getElem?] at e17 e18
        go_simp
        (try (intro hh; exfalso; omega))
      · intro listed σ w a hin hout hl hla hs hc hp hG hF
        refine Guarded.none rfl ?_
        have e19 : a.tmps.getD 19 undef = .pointer (some ⟨bb, o + q, none⟩) := (hin 4 19 rfl (hp ⟨4, .data⟩ (by simp) rfl)).trans (hF 4 (hp ⟨4, .data⟩ (by simp) rfl))
        have CC := SOF.out w hG; obtain ⟨C0, C1, D0, D1, D2, E0⟩ := CC
        refine Does.val (.int .i64 x) (w' := w) ?_ ⟨Below.refl _ _, rfl, hG⟩
        go_simp
      · intro listed σ w a hin hout hl hla hs hc hp hG hF
        refine Guarded.none rfl ?_
        have e16 : a.tmps.getD 16 undef = .agg #[.slice A n c, .bool s, .slice B m d] := (hin 1 16 rfl (hp ⟨1, .data⟩ (by simp) rfl)).trans (hF 1 (hp ⟨1, .data⟩ (by simp) rfl))
        have e20 : a.tmps.getD 20 undef = .int .i64 x := (hin 5 20 rfl (hp ⟨5, .data⟩ (by simp) rfl)).trans (hF 5 (hp ⟨5, .data⟩ (by simp) rfl))
        refine Does.call ?_ (HM.out w hG) ?_
        · go_simp
        · rintro e w' ⟨v, rfl, z, hb⟩
          exact ⟨_, rfl, hb, z, hG.next hb⟩
      · intro listed σ w a hin hout hl hla hs hc hp hG hF
        refine Guarded.none rfl ?_
        have e15 : a.tmps.getD 15 undef = .agg #[.bool s5, .slice A5 n5 c5] := (hin 0 15 rfl (hp ⟨0, .data⟩ (by simp) rfl)).trans (hF 0 (hp ⟨0, .data⟩ (by simp) rfl))
        have e21 := hin 6 21 rfl (hp ⟨6, .data⟩ (by simp) rfl)
        have z6 := hF 6 (hp ⟨6, .data⟩ (by simp) rfl)
        refine Does.call ?_ (rgcd_z _ _ Y (coef L x) (k + L.length) w (HZ5.out.in_.below hG) z6.in_ (by omega)) ?_
        · go_simp
        · rintro e w' ⟨v, rfl, z, hb⟩
          exact ⟨_, rfl, hb, z, hG.next hb⟩
    · intro o ho
      injection ho with ho; subst ho
      intro listed σ w a hall hin hout hG hF
      refine Guarded.none rfl ?_
      have e3 : a.tmps.getD 3 undef = .pointer (some ⟨w0.heap.size + 1 + 1, 0, none⟩) := hout 3 (outL (by kernel_rfl))
      have e22 := hin 7 22 rfl (by decide)
      have z7 := hF 7 (by decide)
      have z7 := hF 7 (by decide)
      obtain ⟨s8, A8, n8, c8, ev8⟩ := ZRes.form z7
      rw [ev8] at e22 z7
      have HX := hide (Blk.next HB5.out hG)
      refine Does.store_box (T := 26) (cells := #[.bool s8, .slice A8 n8 c8]) rfl e3 e22 (Blk.box HX.out) (by kernel_rfl) rfl (by simp [Value.oneCell']) (fun w2 x9 o9 => ?_)
      rw [show fin _ σ undef _ = (Act.put (Act.put (Act.put (Act.put (Act.put (Act.put (Act.put (Act.put (Act.put _ (some 15) (σ 0)) (some 16) (σ 1)) (some 17) (σ 2)) (some 18) (σ 3)) (some 19) (σ 4)) (some 20) (σ 5)) (some 21) (σ 6)) (some 22) (σ 7)) none undef) from (fin_all hall).trans rfl]
      simp only [Act.put, List.setIfInBounds_toArray, List.set_cons_zero, List.set_cons_succ]
      have HE := hide (show ContRel (w0.heap.size + 1 + 1) W1 (norm L) (k + L.length) (q + 1) w2 from ⟨s8, A8, n8, c8, x9, by rw [← HC.out]; exact z7.only HX.out o9, (HOB.out.next hG).trans o9⟩)
      generalize σ 0 = tt0 at *; generalize σ 1 = tt1 at *; generalize σ 2 = tt2 at *; generalize σ 3 = tt3 at *; generalize σ 4 = tt4 at *; generalize σ 5 = tt5 at *; generalize σ 6 = tt6 at *; generalize σ 7 = tt7 at *
      clear hF hG hall hin hout SOF HM z7 x9 o9 e3 e22 ev8
      go_wp2_with fail
      go_roundw
      case rel => exact ⟨q + 1, by omega, by go_num, HE⟩
      case measure => simp [intOf] <;> omega
  · obtain rfl : q = m1 := by omega
    have HL := hide (show ((gcdL 0 ((norm L).take q) : Nat) : Int) = content L by unfold content; rw [List.take_of_length_le (by rw [← HM1.out]; unfold vars; rw [List.length_map]; exact Nat.le_refl _)])
    have b50 := b5.c0
    have b51 := b5.c1
    have k1 : Blk wr (w0.heap.size + 1) #[.bool false, .slice none 0 0] := Box.other HR1.out hB (by omega)
    have HZ5 := hide zz5
    have HT := hide hT
    clear zz5 b5 HR hB hT
    go_wp2_with (with_reducible refine wpList_store_z rfl _ _ rfl (w0.heap.size + 1) _ _ _ _ rfl rfl _ _ k1 ?_; intro w3 k3 ho3)
    refine bodyPost_z rfl rfl k3 rfl ?_
    refine ⟨_, rfl, ?_, zback HT.out (by omega) ho3⟩
    rw [← HL.out]
    exact HZ5.out.only k1 ho3
end Go.Proofs.YtdeakieenppmiaaGreatDoor
