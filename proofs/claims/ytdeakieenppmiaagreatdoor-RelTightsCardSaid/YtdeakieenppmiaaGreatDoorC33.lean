/- Texts of one seat, put together: RelCmp First TermsIn. -/
import Derived.Test.YtdeakieenppmiaaGreatDoorC26
import Derived.Test.YtdeakieenppmiaaGreatDoorC32
import Derived.Test.YtdeakieenppmiaaGreatDoorC24
import Derived.Test.YtdeakieenppmiaaGreatDoorC22
import Derived.Maps.OwnSet
import Derived.Test.YtdeakieenppmiaaGreatDoorC16
set_option linter.unusedVariables false
set_option linter.unusedSimpArgs false
set_option maxRecDepth 100000
set_option maxHeartbeats 16000000
/- cmp.Or over two ints; rel.Cmp, Same. -/
namespace Go.Proofs.YtdeakieenppmiaaGreatDoor
open Go.RowKit
open Tm

theorem or_two (A : Option Addr) (c : Nat) (x y : Int) (w : World) (hx : IIn w A 2 [x, y]) : Calls Tryz.prog 53 #[.slice A 2 c] w (fun e w' => e = .returned (.int .i64 (orZ x y)) ∧ Below w.heap.size w w') := by
 obtain ⟨b, o, x', rfl, hlt, h0, c0⟩ := hx.at_ (i := 0) (by decide)
 obtain ⟨b', o', y', e1, hlt', h1, c1⟩ := hx.at_ (i := 1) (by decide)
 injection e1 with e1
 injection e1 with e2 e3
 subst e2 e3
 injection h0 with h0
 subst h0
 injection h1 with h1
 subst h1
 rw [Nat.add_zero] at c0
 go_enter Tryz.func53, Tryz.ntmps53
 go_wp2_with fail
 go_loopw [8] (fun i wr => ∃ q : Nat, q ≤ 2 ∧ i = .int .i64 q ∧ (0 < q → x = 0) ∧ (1 < q → y = 0) ∧ wr = w) (fun i _ => 2 - (intOf i).toNat)
 case atStart => exact ⟨0, by decide, rfl, by omega, by omega, rfl⟩
 case round =>
  obtain ⟨q, hq, rfl, hx0, hy0, rfl⟩ := hrel
  match q, hq with
  | 0, _ =>
   clear hx0 hy0
   by_cases h : x = 0
   · have HH := hide h
     have hb : (x != 0) = false := by simp [h]
     clear h
     go_wp2_with fail
     go_roundw
     case rel => exact ⟨1, by decide, by go_num, fun _ => HH.out, by omega, by trivial⟩
     case measure => simp [intOf] <;> omega
   · have hb : (x != 0) = true := by simp [h]
     have e1 : orZ x y = x := by unfold orZ; rw [if_pos h]
     have HE := hide e1
     clear e1 h
     go_wp2_with fail
     go_ret
     exact ⟨by rw [HE.out] <;> rfl, Below.refl _ _⟩
  | 1, _ =>
   have HX := hide (hx0 (by decide))
   clear hx0 hy0
   by_cases h : y = 0
   · have HH := hide h
     have hb : (y != 0) = false := by simp [h]
     clear h
     go_wp2_with fail
     go_roundw
     case rel => exact ⟨2, by decide, by go_num, fun _ => HX.out, fun _ => HH.out, by trivial⟩
     case measure => simp [intOf] <;> omega
   · have hb : (y != 0) = true := by simp [h]
     have e1 : orZ x y = y := by unfold orZ; rw [if_neg (by rw [HX.out]; simp)]
     have HE := hide e1
     clear e1 h
     go_wp2_with fail
     go_ret
     exact ⟨by rw [HE.out] <;> rfl, Below.refl _ _⟩
  | 2, _ =>
   have e1 : orZ x y = 0 := by unfold orZ; rw [if_neg (by rw [hx0 (by decide)]; simp), hy0 (by decide)]
   have HE := hide e1
   clear e1 hx0 hy0
   go_wp2_with fail
   go_ret
   exact ⟨by rw [HE.out] <;> rfl, Below.refl _ _⟩
def cmpR (L M : List (Int × Int)) (K KM : Int) (f1 f2 : Bool) : Int := orZ (cmpT L M K KM) (kindZ f1 - kindZ f2)
theorem relCmp_any (v u : Value) (L M : List (Int × Int)) (K KM : Int) (f1 f2 : Bool) (k : Nat) (w0 : World) (hv : RIn w0 v L K f1 k) (hu : RIn w0 u M KM f2 k) (hl : L.length ≤ 1099511) (hm : M.length ≤ 1099511) (hk : k ≤ 1099511627) :
   Calls Tryz.prog 18 #[v, u] w0 (fun e w' => e = .returned (.int .i64 (cmpR L M K KM f1 f2)) ∧ Below w0.heap.size w0 w') := by
 have hv0 := hv
 have hu0 := hu
 obtain ⟨A, n, c, s, B, m, d, rfl, ht⟩ := hv
 obtain ⟨A2, n2, c2, s2, B2, m2, d2, rfl, hu1⟩ := hu
 obtain ⟨z0, z1, z2, -⟩ := bstart2 30 30 w0 #[.slice A n c, .bool s, .slice B m d, .bool f1] #[.slice A2 n2 c2, .bool s2, .slice B2 m2 d2, .bool f2]
 unfold cmpR
 have hkw : IntKind.i64.wrap (kindZ f1 - kindZ f2) = kindZ f1 - kindZ f2 := by cases f1 <;> cases f2 <;> rfl
 have hcm := fun W (a : TIn W (.agg #[.slice A n c, .bool s, .slice B m d]) L K k) (b : TIn W (.agg #[.slice A2 n2 c2, .bool s2, .slice B2 m2 d2]) M KM k) => tcmp_any _ _ L M K KM k W a b hl hm hk
 have hk1 := fun W (a : RIn W (.agg #[.slice A n c, .bool s, .slice B m d, .bool f1]) L K f1 k) => rkind_any _ L K f1 k W a
 have hk2 := fun W (a : RIn W (.agg #[.slice A2 n2 c2, .bool s2, .slice B2 m2 d2, .bool f2]) M KM f2 k) => rkind_any _ M KM f2 k W a
 generalize cmpT L M K KM = cz at hcm ⊢
 generalize kindZ f1 = k1 at hkw hk1 ⊢
 generalize kindZ f2 = k2 at hkw hk2 ⊢
 have HCM0 := hide hcm
 have HK10 := hide hk1
 have HK20 := hide hk2
 clear hcm hk1 hk2
 go_enter Tryz.func18, Tryz.ntmps18
 go_upto_region 1 with fail
 generalize hW : ((w0.alloc (.cells #[.slice A n c, .bool s, .slice B m d, .bool f1] 30)).alloc (.cells #[.slice A2 n2 c2, .bool s2, .slice B2 m2 d2, .bool f2] 30)) = W0 at *
 clear hW
 have HX := hide z0
 have HY := hide z1
 have HT8 := hide z2
 have HCM := hide (fun W (h : Below W0.heap.size W0 W) => HCM0.out W ((ht.below z2).below h) ((hu1.below z2).below h))
 have HK1 := hide (fun W (h : Below W0.heap.size W0 W) => HK10.out W ((hv0.below z2).below h))
 have HK2 := hide (fun W (h : Below W0.heap.size W0 W) => HK20.out W ((hu0.below z2).below h))
 have SOF := hide (show ∀ W, Below W0.heap.size W0 W → (W.cell? ⟨w0.heap.size, 0, none⟩ = some (.slice A n c) ∧ W.cell? ⟨w0.heap.size, 1, none⟩ = some (.bool s) ∧ W.cell? ⟨w0.heap.size, 2, none⟩ = some (.slice B m d) ∧ W.cell? ⟨w0.heap.size, 3, none⟩ = some (.bool f1) ∧ W.cell? ⟨w0.heap.size + 1, 0, none⟩ = some (.slice A2 n2 c2) ∧ W.cell? ⟨w0.heap.size + 1, 1, none⟩ = some (.bool s2) ∧ W.cell? ⟨w0.heap.size + 1, 2, none⟩ = some (.slice B2 m2 d2) ∧ W.cell? ⟨w0.heap.size + 1, 3, none⟩ = some (.bool f2)) from fun W h => ⟨(HX.out.next h).r0, (HX.out.next h).r1, (HX.out.next h).r2, (HX.out.next h).r3, (HY.out.next h).r0, (HY.out.next h).r1, (HY.out.next h).r2, (HY.out.next h).r3⟩)
 clear z0 z1 z2 ht hu1 hv0 hu0
 refine wp_drawn (by kernel_rfl) (by kernel_rfl) (by kernel_rfl) (fun w w' => Below w.heap.size w w') (fun j v w => match j with | 0 => v = .pointer (some ⟨w0.heap.size, 0, none⟩) | 1 => v = .agg #[.slice A n c, .bool s, .slice B m d] | 2 => v = .pointer (some ⟨w0.heap.size + 1, 0, none⟩) | 3 => v = .agg #[.slice A2 n2 c2, .bool s2, .slice B2 m2 d2] | 4 => v = .int .i64 cz | 5 => v = .agg #[.slice A n c, .bool s, .slice B m d, .bool f1] | 6 => v = .int .i64 k1 | 7 => v = .agg #[.slice A2 n2 c2, .bool s2, .slice B2 m2 d2, .bool f2] | 8 => v = .int .i64 k2 | 9 => v = .int .i64 (k1 - k2) | 10 => ∃ g, v = .slice (some ⟨g, 0, none⟩) 2 2 ∧ Box 3 w g #[.int .i64 cz, .int .i64 (k1 - k2)] | 11 => v = .int .i64 (orZ cz (k1 - k2)) | 12 => v = .int .i64 (orZ cz (k1 - k2)) | _ => True) (fun _ _ w => Below W0.heap.size W0 w) ?_ (fun _ => bl_drewN W0 1) ?_ ?_
 · intro j v w w' hT h
   match j, h with
   | 0, h => exact h
   | 1, h => exact h
   | 2, h => exact h
   | 3, h => exact h
   | 4, h => exact h
   | 5, h => exact h
   | 6, h => exact h
   | 7, h => exact h
   | 8, h => exact h
   | 9, h => exact h
   | 10, h => exact (by obtain ⟨g, e, h1⟩ := h; exact ⟨g, e, h1.next hT⟩)
   | 11, h => exact h
   | 12, h => exact h
   | j + 13, h => trivial
 · refine ⟨?_, ?_, ?_, ?_, ?_, ?_, ?_, ?_, ?_, ?_, ?_, ?_, ?_, trivial⟩
   · intro listed σ w a hin hout hl hc hp hG hF
     refine Guarded.none rfl ?_
     have e2 : a.tmps.getD 2 undef = .pointer (some ⟨w0.heap.size, 0, none⟩) := hout 2 (outB_spec (by kernel_rfl))
     refine Does.val (.pointer (some ⟨w0.heap.size, 0, none⟩)) (w' := w) ?_ ⟨Below.refl _ _, rfl, hG⟩
     simp only [Array.getD_eq_getD_getElem?] at e2
     go_simp
   · intro listed σ w a hin hout hl hc hp hG hF
     refine Guarded.none rfl ?_
     have e5 : a.tmps.getD 5 undef = .pointer (some ⟨w0.heap.size, 0, none⟩) := (hin 0 5 rfl (hp ⟨0, .data⟩ (by simp) rfl)).trans (hF 0 (hp ⟨0, .data⟩ (by simp) rfl))
     have CC := SOF.out w hG; obtain ⟨C0, C1, C2, C3, D0, D1, D2, D3⟩ := CC
     refine Does.val (.agg #[.slice A n c, .bool s, .slice B m d]) (w' := w) ?_ ⟨Below.refl _ _, rfl, hG⟩
     go_simp
   · intro listed σ w a hin hout hl hc hp hG hF
     refine Guarded.none rfl ?_
     have e3 : a.tmps.getD 3 undef = .pointer (some ⟨w0.heap.size + 1, 0, none⟩) := hout 3 (outB_spec (by kernel_rfl))
     refine Does.val (.pointer (some ⟨w0.heap.size + 1, 0, none⟩)) (w' := w) ?_ ⟨Below.refl _ _, rfl, hG⟩
     simp only [Array.getD_eq_getD_getElem?] at e3
     go_simp
   · intro listed σ w a hin hout hl hc hp hG hF
     refine Guarded.none rfl ?_
     have e7 : a.tmps.getD 7 undef = .pointer (some ⟨w0.heap.size + 1, 0, none⟩) := (hin 2 7 rfl (hp ⟨2, .data⟩ (by simp) rfl)).trans (hF 2 (hp ⟨2, .data⟩ (by simp) rfl))
     have CC := SOF.out w hG; obtain ⟨C0, C1, C2, C3, D0, D1, D2, D3⟩ := CC
     refine Does.val (.agg #[.slice A2 n2 c2, .bool s2, .slice B2 m2 d2]) (w' := w) ?_ ⟨Below.refl _ _, rfl, hG⟩
     go_simp
   · intro listed σ w a hin hout hl hc hp hG hF
     refine Guarded.none rfl ?_
     have e6 : a.tmps.getD 6 undef = .agg #[.slice A n c, .bool s, .slice B m d] := (hin 1 6 rfl (hp ⟨1, .data⟩ (by simp) rfl)).trans (hF 1 (hp ⟨1, .data⟩ (by simp) rfl))
     have e8 : a.tmps.getD 8 undef = .agg #[.slice A2 n2 c2, .bool s2, .slice B2 m2 d2] := (hin 3 8 rfl (hp ⟨3, .data⟩ (by simp) rfl)).trans (hF 3 (hp ⟨3, .data⟩ (by simp) rfl))
     refine Does.call ?_ (HCM.out w hG) ?_
     · go_simp
     · rintro e w' ⟨rfl, hb⟩
       exact ⟨_, rfl, hb, rfl, hG.next hb⟩
   · intro listed σ w a hin hout hl hc hp hG hF
     refine Guarded.none rfl ?_
     have e2 : a.tmps.getD 2 undef = .pointer (some ⟨w0.heap.size, 0, none⟩) := hout 2 (outB_spec (by kernel_rfl))
     have CC := SOF.out w hG; obtain ⟨C0, C1, C2, C3, D0, D1, D2, D3⟩ := CC
     refine Does.val (.agg #[.slice A n c, .bool s, .slice B m d, .bool f1]) (w' := w) ?_ ⟨Below.refl _ _, rfl, hG⟩
     go_simp
   · intro listed σ w a hin hout hl hc hp hG hF
     refine Guarded.none rfl ?_
     have e10 : a.tmps.getD 10 undef = .agg #[.slice A n c, .bool s, .slice B m d, .bool f1] := (hin 5 10 rfl (hp ⟨5, .data⟩ (by simp) rfl)).trans (hF 5 (hp ⟨5, .data⟩ (by simp) rfl))
     refine Does.call ?_ (HK1.out w hG) ?_
     · go_simp
     · rintro e w' ⟨rfl, hb⟩
       exact ⟨_, rfl, hb, rfl, hG.next hb⟩
   · intro listed σ w a hin hout hl hc hp hG hF
     refine Guarded.none rfl ?_
     have e3 : a.tmps.getD 3 undef = .pointer (some ⟨w0.heap.size + 1, 0, none⟩) := hout 3 (outB_spec (by kernel_rfl))
     have CC := SOF.out w hG; obtain ⟨C0, C1, C2, C3, D0, D1, D2, D3⟩ := CC
     refine Does.val (.agg #[.slice A2 n2 c2, .bool s2, .slice B2 m2 d2, .bool f2]) (w' := w) ?_ ⟨Below.refl _ _, rfl, hG⟩
     go_simp
   · intro listed σ w a hin hout hl hc hp hG hF
     refine Guarded.none rfl ?_
     have e12 : a.tmps.getD 12 undef = .agg #[.slice A2 n2 c2, .bool s2, .slice B2 m2 d2, .bool f2] := (hin 7 12 rfl (hp ⟨7, .data⟩ (by simp) rfl)).trans (hF 7 (hp ⟨7, .data⟩ (by simp) rfl))
     refine Does.call ?_ (HK2.out w hG) ?_
     · go_simp
     · rintro e w' ⟨rfl, hb⟩
       exact ⟨_, rfl, hb, rfl, hG.next hb⟩
   · intro listed σ w a hin hout hl hc hp hG hF
     refine Guarded.none rfl ?_
     have e11 : a.tmps.getD 11 undef = .int .i64 k1 := (hin 6 11 rfl (hp ⟨6, .data⟩ (by simp) rfl)).trans (hF 6 (hp ⟨6, .data⟩ (by simp) rfl))
     have e13 : a.tmps.getD 13 undef = .int .i64 k2 := (hin 8 13 rfl (hp ⟨8, .data⟩ (by simp) rfl)).trans (hF 8 (hp ⟨8, .data⟩ (by simp) rfl))
     refine Does.val (.int .i64 (k1 - k2)) (w' := w) ?_ ⟨Below.refl _ _, rfl, hG⟩
     simp only [Array.getD_eq_getD_getElem?] at e11 e13
     go_simp
   · intro listed σ w a hin hout hl hc hp hG hF
     refine Guarded.none rfl ?_
     have e9 : a.tmps.getD 9 undef = .int .i64 cz := (hin 4 9 rfl (hp ⟨4, .data⟩ (by simp) rfl)).trans (hF 4 (hp ⟨4, .data⟩ (by simp) rfl))
     have e14 : a.tmps.getD 14 undef = .int .i64 (k1 - k2) := (hin 9 14 rfl (hp ⟨9, .data⟩ (by simp) rfl)).trans (hF 9 (hp ⟨9, .data⟩ (by simp) rfl))
     refine Does.val (.slice (some ⟨w.heap.size, 0, none⟩) 2 2) (w' := w.alloc (.cells #[.int .i64 cz, .int .i64 (k1 - k2)] 3)) ?_ ⟨bl_alloc w _, ⟨w.heap.size, rfl, Box.new _ _ _⟩, hG.next (bl_alloc w _)⟩
     simp only [Array.getD_eq_getD_getElem?] at e9 e14
     go_simp
   · intro listed σ w a hin hout hl hc hp hG hF
     refine Guarded.none rfl ?_
     have e15 := hin 10 15 rfl (hp ⟨10, .data⟩ (by simp) rfl)
     obtain ⟨g10, ev10, x10⟩ := hF 10 (hp ⟨10, .data⟩ (by simp) rfl)
     rw [ev10] at e15
     refine Does.call ?_ (or_two _ 2 cz (k1 - k2) w (IIn.two x10)) ?_
     · go_simp
     · rintro e w' ⟨rfl, hb⟩
       exact ⟨_, rfl, hb, rfl, hG.next hb⟩
   · intro listed σ w a hin hout hl hc hp hG hF
     refine Guarded.none rfl ?_
     have e16 : a.tmps.getD 16 undef = .int .i64 (orZ cz (k1 - k2)) := (hin 11 16 rfl (hp ⟨11, .data⟩ (by simp) rfl)).trans (hF 11 (hp ⟨11, .data⟩ (by simp) rfl))
     refine Does.val (.int .i64 (orZ cz (k1 - k2))) (w' := w) ?_ ⟨Below.refl _ _, rfl, hG⟩
     simp only [Array.getD_eq_getD_getElem?] at e16
     go_simp
 · intro listed σ W9 hall hG hF
   rw [show mid _ σ listed _ = (Act.put (Act.put (Act.put (Act.put (Act.put (Act.put (Act.put (Act.put (Act.put (Act.put (Act.put (Act.put (Act.put _ (some 5) (σ 0)) (some 6) (σ 1)) (some 7) (σ 2)) (some 8) (σ 3)) (some 9) (σ 4)) (some 10) (σ 5)) (some 11) (σ 6)) (some 12) (σ 7)) (some 13) (σ 8)) (some 14) (σ 9)) (some 15) (σ 10)) (some 16) (σ 11)) (some 4) (σ 12)) from (mid_all hall).trans rfl]
   generalize σ 0 = tt0
   generalize σ 1 = tt1
   generalize σ 2 = tt2
   generalize σ 3 = tt3
   generalize σ 4 = tt4
   generalize σ 5 = tt5
   generalize σ 6 = tt6
   generalize σ 7 = tt7
   generalize σ 8 = tt8
   generalize σ 9 = tt9
   generalize σ 10 = tt10
   generalize σ 11 = tt11
   rw [show σ 12 = .int .i64 (orZ cz (k1 - k2)) from hF 12 (by decide)]
   simp only [Act.put, List.setIfInBounds_toArray, List.set_cons_zero, List.set_cons_succ]
   have TG := hG
   clear hF hG hall
   clear σ
   go_wp2_with fail
   go_ret
   exact ⟨rfl, HT8.out.next TG⟩
theorem relSame_any (v u : Value) (L M : List (Int × Int)) (K KM : Int) (f1 f2 : Bool) (k : Nat) (w0 : World) (hv : RIn w0 v L K f1 k) (hu : RIn w0 u M KM f2 k) (hl : L.length ≤ 1099511) (hm : M.length ≤ 1099511) (hk : k ≤ 1099511627) :
  Calls Tryz.prog 19 #[v, u] w0 (fun e w' => e = .returned (.bool (cmpR L M K KM f1 f2 == 0)) ∧ Below w0.heap.size w0 w') := by
 have hv0 := hv
 have hu0 := hu
 obtain ⟨A, n, c, s, B, m, d, rfl, -⟩ := hv
 obtain ⟨A2, n2, c2, s2, B2, m2, d2, rfl, -⟩ := hu
 obtain ⟨z0, z1, z2, -⟩ := bstart2 30 30 w0 #[.slice A n c, .bool s, .slice B m d, .bool f1] #[.slice A2 n2 c2, .bool s2, .slice B2 m2 d2, .bool f2]
 have hc := relCmp_any _ _ L M K KM f1 f2 k _ (hv0.below z2) (hu0.below z2) hl hm hk
 generalize cmpR L M K KM f1 f2 = cz at *
 have x0 := z0.r0
 have x1 := z0.r1
 have x2 := z0.r2
 have x3 := z0.r3
 have y0 := z1.r0
 have y1 := z1.r1
 have y2 := z1.r2
 have y3 := z1.r3
 go_enter Tryz.func19, Tryz.ntmps19
 go_wp2_with fail
 refine hc.mono ?_
 rintro e w1 ⟨rfl, b1⟩
 go_wp2_with fail
 go_ret
 exact ⟨rfl, z2.next b1⟩
end Go.Proofs.YtdeakieenppmiaaGreatDoor
/- Maps from ints to ints; term.firstPlaces. -/
namespace Go.Proofs.YtdeakieenppmiaaGreatDoor
open Go.RowKit Go.Maps
open Tm

theorem mapLaw : Keyed Tryz.prog 3 := int_keyed Tryz.underlying3
theorem mapZero (w : World) : (zeroValue 3).run Tryz.prog w = .ok (.int .i64 0) w := by kernel_rfl
theorem run_makeMap_hint (n : Int) (w : World) : (Instr.makeMap 135 (some (.int .i64 n))).run Tryz.prog w = .ok (.map (some w.heap.size)) (w.alloc (.map #[] 0)) := by
 simp [Instr.makeMap, run_underlying Tryz.underlying135, asInt, asIntOf, Result.andThen]
theorem wf_int {x : Int} (h1 : -9223372036854775808 ≤ x) (h2 : x ≤ 9223372036854775807) : (Lit.int .i64 x).wf = true := WalkArith.wf_i64 ⟨by omega, by omega⟩
/-- Block b is a map of at most n entries that says f. -/
def MapI (w : World) (b n : Nat) (f : Int → Option Nat) : Prop :=
 ∃ D : DataW Unit, w.ownsMap Tryz.prog 3 (plainElem Tryz.prog 3) b n D ∧ IsMap D ∧ ∀ x, Maps.has D (.int .i64 x) = (f x).isSome ∧ ∀ i z, f x = some i → D.atKey (.int .i64 x) z = .lit (.int .i64 i)
theorem MapI.lt {w : World} {b n : Nat} {f : Int → Option Nat} (h : MapI w b n f) : b < w.heap.size := by obtain ⟨D, h1, -⟩ := h; exact h1.lt
theorem MapI.below {w w' : World} {b n : Nat} {f : Int → Option Nat} (h : MapI w b n f) (hb : Below w.heap.size w w') : MapI w' b n f := by
 obtain ⟨D, ⟨es, clock, h1, h2⟩, h3⟩ := h
 exact ⟨D, ⟨es, clock, (hb.block b (by rcases Nat.lt_or_ge b w.heap.size with h' | h'; exact h'; simp [Array.getElem?_eq_none h'] at h1)).trans h1, h2⟩, h3⟩
theorem MapI.mono {w : World} {b n m : Nat} {f : Int → Option Nat} (h : MapI w b n f) (hm : n ≤ m) : MapI w b m f := by
 obtain ⟨D, h1, h2⟩ := h; exact ⟨D, h1.mono hm, h2⟩
theorem MapI.congr {w : World} {b n : Nat} {f g : Int → Option Nat} (h : MapI w b n f) (e : ∀ x, f x = g x) : MapI w b n g := by
 obtain rfl : f = g := funext e
 exact h
theorem MapI.start (w : World) : MapI (w.alloc (.map #[] 0)) w.heap.size 0 (fun _ => none) :=
 ⟨.map [], World.ownsMap_made _ _ _ _, isMap_empty, fun x => ⟨rfl, fun i z h => by cases h⟩⟩
theorem mapI_put {w w' : World} {b n i : Nat} {f : Int → Option Nat} {x : Int} {D : DataW Unit} (h0 : IsMap D) (h1 : ∀ x, Maps.has D (.int .i64 x) = (f x).isSome ∧ ∀ i z, f x = some i → D.atKey (.int .i64 x) z = .lit (.int .i64 i))
   (h : w'.ownsMap Tryz.prog 3 (plainElem Tryz.prog 3) b n (D.put (.int .i64 x) (.lit (.int .i64 i)))) : MapI w' b n (fun y => if y = x then some i else f y) := by
 have hk : WideAt.IsKeyLit (.int .i64 x) := trivial
 refine ⟨_, h, h0.put _ _, fun y => ?_⟩
 dsimp only
 by_cases hy : y = x
 · subst hy
   rw [has_put_same h0 hk, if_pos rfl]
   refine ⟨rfl, fun j z hj => ?_⟩
   injection hj with hj
   subst hj
   exact atKey_put_same h0 hk _ _
 · have hne : (Lit.int .i64 y) ≠ (Lit.int .i64 x) := fun e => hy (by injection e)
   rw [has_put_other hne, if_neg hy]
   refine ⟨(h1 y).1, fun j z hj => ?_⟩
   rw [atKey_put_other hne]
   exact (h1 y).2 j z hj
def FirstPost (vs : List Int) (w : World) (e : Ending) (w' : World) : Prop := ∃ b, e = .returned (.map (some b)) ∧ MapI w' b vs.length (fun x => firstAt x vs) ∧ Below w.heap.size w w'
def FirstRel (w0 : World) (vs : List Int) (q : Nat) (wr : World) : Prop := MapI wr w0.heap.size q (fun x => firstAt x (vs.take q)) ∧ Below w0.heap.size w0 wr
theorem first_take_succ {vs : List Int} {q : Nat} {v : Int} (h : vs[q]? = some v) (x : Int) : firstAt x (vs.take (q + 1)) = match firstAt x (vs.take q) with | some i => some i | none => if v = x then some q else none := by
 have hq : q < vs.length := (List.getElem?_eq_some_iff.1 h).1
 rw [List.take_add_one, h]
 show firstAt x (vs.take q ++ [v]) = _
 rw [firstAt_snoc, List.length_take, Nat.min_eq_left (Nat.le_of_lt hq)]
 cases firstAt x (vs.take q) <;> rfl
theorem firstPlaces_any (A : Option Addr) (n c : Nat) (vs : List Int) (w0 : World) (hx : IIn w0 A n vs) (hn : n ≤ 1099511627) (hwf : ∀ v ∈ vs, -9223372036854775808 ≤ v ∧ v ≤ 9223372036854775807) : Calls Tryz.prog 112 #[.slice A n c] w0 (FirstPost vs w0) := by
 have hmm := run_makeMap_hint
 have y1 := bl_alloc w0 (.map #[] 0)
 have HS := hide (show FirstRel w0 vs 0 (w0.alloc (.map #[] 0)) from ⟨(MapI.start w0).congr (fun x => by simp [firstAt]), y1⟩)
 have HX := hide hx
 have HWF := hide hwf
 clear y1 hx hwf
 go_enter Tryz.func112, Tryz.ntmps112
 go_wp2_with fail
 go_loopw [13] (fun i wr => ∃ q : Nat, q ≤ n ∧ i = .int .i64 q ∧ Hid (FirstRel w0 vs q wr)) (fun i _ => n - (intOf i).toNat)
 case atStart => exact ⟨0, Nat.zero_le _, rfl, HS⟩
 case round =>
  obtain ⟨q, hq, rfl, HR⟩ := hrel
  obtain ⟨hM, hB⟩ := HR.out
  by_cases hqn : q < n
  · obtain ⟨bb, o, v, rfl, hlt, hvq, c0⟩ := (HX.out.below hB).at_ hqn
    obtain ⟨hw1, hw2⟩ := HWF.out v (List.mem_of_getElem? hvq)
    have hkey := keyOf_int_mk Tryz.underlying3 (wf_int hw1 hw2)
    obtain ⟨D, hown, h0, h1⟩ := hM
    have HH := hide h1
    have H0 := hide h0
    have HS := hide (first_take_succ hvq)
    have HB := hide hB
    have hsz := hB.size
    cases hf : firstAt v (vs.take q) with
    | some i =>
     have hhas : Maps.has D (.int .i64 v) = true := by have := (h1 v).1; dsimp only at this; rw [this, hf]; rfl
     have HE := hide (show FirstRel w0 vs (q + 1) wr from ⟨(show MapI wr w0.heap.size q (fun x => firstAt x (vs.take q)) from ⟨D, hown, h0, h1⟩).mono (Nat.le_succ q) |>.congr (fun x => by
      rw [HS.out x]
      cases hx : firstAt x (vs.take q) with
      | some j => rfl
      | none =>
        by_cases hvx : v = x
        · subst hvx; rw [hf] at hx; cases hx
        · simp [hvx]), hB⟩)
     clear h1 h0 hf hvq HR hB hw1 hw2
     go_wp2_with (at_lookup; refine wpList_lookup_own_ok_int _ rfl _ _ 135 rfl 3 3 .i64 mapLaw Tryz.underlying135 Tryz.underlying3 (mapZero _) w0.heap.size q D rfl hown _ _ rfl hkey ?_; intro c hat hwc; clear hat hwc)
     go_roundw
     case rel => exact ⟨q + 1, by omega, by go_num, HE⟩
     case measure => simp [intOf] <;> omega
    | none =>
     have hhas : Maps.has D (.int .i64 v) = false := by have := (h1 v).1; dsimp only at this; rw [this, hf]; rfl
     have HE := hide (show ∀ w1, w1.ownsMap Tryz.prog 3 (plainElem Tryz.prog 3) w0.heap.size (q + 1) (D.put (.int .i64 v) (.lit (.int .i64 (q : Nat)))) → wr.grownBy w1 (some w0.heap.size) → FirstRel w0 vs (q + 1) w1 from fun w1 h2 g2 => ⟨(mapI_put (w := wr) h0 h1 h2).congr (fun x => by
      rw [HS.out x]
      by_cases hvx : x = v
      · subst hvx; rw [if_pos rfl, hf]; simp
      · rw [if_neg hvx]
        cases hx : firstAt x (vs.take q) with
        | some j => rfl
        | none => simp [Ne.symm hvx]), hB.trans (Only.below (g := w0.heap.size) g2 hsz (Nat.le_refl _))⟩)
     have hwq : (Lit.int .i64 (q : Int)).wf = true := wf_int (by omega) (by omega)
     clear h1 h0 hf hvq HR hB hw1 hw2
     go_wp2_with (first
      | (at_lookup; refine wpList_lookup_own_ok_int _ rfl _ _ 135 rfl 3 3 .i64 mapLaw Tryz.underlying135 Tryz.underlying3 (mapZero _) w0.heap.size q D rfl hown _ _ rfl hkey ?_; intro c hat hwc; clear hat hwc)
      | (at_mapUpdate; refine wpList_mapUpdate_own _ rfl _ _ _ 135 rfl 3 3 mapLaw Tryz.underlying135 _ w0.heap.size q D rfl hown (by unfold maxLen; omega) _ _ _ rfl rfl hkey _ [] (plainElem_int Tryz.underlying3 hwq) ?_; intro w1 hown1 hgrow1; have HE1 := hide (HE.out w1 hown1 hgrow1); clear hown1 hgrow1))
     go_roundw
     case rel => exact ⟨q + 1, by omega, by go_num, HE1⟩
     case measure => simp [intOf] <;> omega
  · obtain rfl : q = n := by omega
    have HE := hide (show FirstPost vs w0 (.returned (.map (some w0.heap.size))) wr from ⟨w0.heap.size, rfl, by rw [HX.out.1]; exact hM.congr (fun x => by rw [List.take_of_length_le (by rw [HX.out.1]; exact Nat.le_refl _)]), hB⟩)
    clear hM hB HR
    go_wp2_with fail
    go_ret
    exact HE.out
end Go.Proofs.YtdeakieenppmiaaGreatDoor
/- Slices of terms: what they read as. -/
namespace Go.Proofs.YtdeakieenppmiaaGreatDoor
open Go.RowKit

/-- A term as its cells hold it, and what it reads as. -/
structure TV where
 A : Option Addr
 n : Nat
 c : Nat
 s : Bool
 B : Option Addr
 m : Nat
 d : Nat
 L : List (Int × Int)
 K : Int
def TV.cells (t : TV) : List Value := [.slice t.A t.n t.c, .bool t.s, .slice t.B t.m t.d]
def TV.agg (t : TV) : Value := .agg #[.slice t.A t.n t.c, .bool t.s, .slice t.B t.m t.d]
def flatT (ts : List TV) : List Value := (ts.map TV.cells).flatten
theorem flatT_cons (t : TV) (ts : List TV) : flatT (t :: ts) = t.cells ++ flatT ts := rfl
theorem flatT_get (ts : List TV) (i : Nat) (t : TV) (h : ts[i]? = some t) : (flatT ts)[3 * i]? = some (.slice t.A t.n t.c) ∧ (flatT ts)[3 * i + 1]? = some (.bool t.s) ∧ (flatT ts)[3 * i + 2]? = some (.slice t.B t.m t.d) := by
 induction ts generalizing i with
 | nil => simp at h
 | cons q ts ih =>
  rw [flatT_cons]
  cases i with
  | zero =>
   simp at h; subst h
   exact ⟨rfl, rfl, rfl⟩
  | succ i =>
   have h2 := ih i (by simpa using h)
   have hl : q.cells.length = 3 := rfl
   rw [show 3 * (i + 1) = q.cells.length + 3 * i by rw [hl]; omega, show q.cells.length + 3 * i + 1 = q.cells.length + (3 * i + 1) by omega, show q.cells.length + 3 * i + 2 = q.cells.length + (3 * i + 2) by omega, List.getElem?_append_right (by omega), List.getElem?_append_right (by omega), List.getElem?_append_right (by omega)]
   simpa using h2
def TermsIn (w : World) (A : Option Addr) (n : Nat) (ts : List TV) (k : Nat) : Prop :=
 ts.length = n ∧ (0 < n → ∃ b o, A = some ⟨b, o, none⟩ ∧ ∀ j u, (flatT ts)[j]? = some u → w.cell? ⟨b, o + j, none⟩ = some u) ∧ ∀ t ∈ ts, TIn w t.agg t.L t.K k
theorem TermsIn.below {w w' : World} {A : Option Addr} {n k : Nat} {ts : List TV} (h : TermsIn w A n ts k) (hb : Below w.heap.size w w') : TermsIn w' A n ts k := by
 refine ⟨h.1, fun hn => ?_, fun p hp => (h.2.2 p hp).below hb⟩
 obtain ⟨b, o, e, hc⟩ := h.2.1 hn
 refine ⟨b, o, e, fun j u hu => ?_⟩
 have h1 := hc j u hu
 have hlt := World.block_lt_of_cell? w _ h1
 exact (World.cell?_of_block (w := w) (a := ⟨b, o + j, none⟩) (hb.block b hlt)).trans h1
theorem TermsIn.at_ {w : World} {A : Option Addr} {n k i : Nat} {ts : List TV} (h : TermsIn w A n ts k) (hi : i < n) : ∃ b o t, A = some ⟨b, o, none⟩ ∧ ts[i]? = some t ∧ w.cell? ⟨b, o + i * 3, none⟩ = some (.slice t.A t.n t.c) ∧ w.cell? ⟨b, o + i * 3 + 1, none⟩ = some (.bool t.s) ∧ w.cell? ⟨b, o + i * 3 + 2, none⟩ = some (.slice t.B t.m t.d) ∧ TIn w t.agg t.L t.K k := by
 obtain ⟨b, o, e, hc⟩ := h.2.1 (by omega)
 have hl : i < ts.length := by rw [h.1]; exact hi
 obtain ⟨g0, g1, g2⟩ := flatT_get ts i ts[i] (List.getElem?_eq_getElem hl)
 refine ⟨b, o, ts[i], e, List.getElem?_eq_getElem hl, ?_, ?_, ?_, h.2.2 _ (List.getElem_mem hl)⟩
 · rw [show o + i * 3 = o + 3 * i by omega]; exact hc _ _ g0
 · rw [show o + i * 3 + 1 = o + (3 * i + 1) by omega]; exact hc _ _ g1
 · rw [show o + i * 3 + 2 = o + (3 * i + 2) by omega]; exact hc _ _ g2
/-- The terms of a literal. -/
theorem TermsIn.box {T : TypeId} {w : World} {g k : Nat} {ts : List TV} (h : Box T w g (flatT ts).toArray) (hk : ∀ t ∈ ts, TIn w t.agg t.L t.K k) : TermsIn w (some ⟨g, 0, none⟩) ts.length ts k :=
 ⟨rfl, fun _ => ⟨g, 0, rfl, fun j u hu => by rw [Nat.zero_add]; exact h.cell j u (by simpa using hu)⟩, hk⟩
theorem ZIn.cut {w : World} {s : Bool} {A : Option Addr} {n c k j : Nat} {Z : Int} (h : ZIn w (.agg #[.bool s, .slice A n c]) Z k) (hn : n ≤ j) : ZIn w (.agg #[.bool s, .slice A n c]) Z j := by
 obtain ⟨s', A', n', c', xs, e, h1, h2, h3, h4, h5⟩ := h
 injection e with e
 have e1 : s' = s ∧ A' = A ∧ n' = n ∧ c' = c := by simpa [eq_comm] using e
 obtain ⟨rfl, rfl, rfl, rfl⟩ := e1
 exact ⟨_, _, _, _, xs, rfl, h1, h2, h3, hn, h5⟩
theorem ZIn.bounds {w : World} {s : Bool} {A : Option Addr} {n c k : Nat} {Z : Int} (h : ZIn w (.agg #[.bool s, .slice A n c]) Z k) : n ≤ 9223372036854775807 := by
 obtain ⟨s', A', n', c', xs, e, h1, h2, h3, h4, h5⟩ := h
 injection e with e
 have e1 : s' = s ∧ A' = A ∧ n' = n ∧ c' = c := by simpa [eq_comm] using e
 obtain ⟨rfl, rfl, rfl, rfl⟩ := e1
 omega
/-- A term of at most 30 parts, whose numbers have at most 20 limbs. -/
def FewT (w : World) (t : TV) : Prop := t.n ≤ 30 ∧ TIn w t.agg t.L t.K 20
def FewPost (ts : List TV) (w : World) (e : Ending) (w' : World) : Prop := ∃ r, e = .returned (.bool r) ∧ (r = true → ∀ t ∈ ts, FewT w t) ∧ Below w.heap.size w w'
end Go.Proofs.YtdeakieenppmiaaGreatDoor
