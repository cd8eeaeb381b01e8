/- Texts of one seat, put together: TMove RelPut. -/
import Derived.Test.YtdeakieenppmiaaGreatDoorC34
import Derived.Test.YtdeakieenppmiaaGreatDoorC26
import Derived.Test.YtdeakieenppmiaaGreatDoorC24
set_option linter.unusedVariables false
set_option linter.unusedSimpArgs false
set_option maxRecDepth 100000
set_option maxHeartbeats 16000000
/- term.Move. -/
namespace Go.Proofs.YtdeakieenppmiaaGreatDoor
open Go.RowKit
open Tm

def clamp (n : Int) : Int := if n < -2147483648 then -2147483648 else if 2147483647 < n then 2147483647 else n
theorem clamp_range (n : Int) : -2147483648 ≤ clamp n ∧ clamp n ≤ 2147483647 := by unfold clamp; split <;> (try split) <;> omega
def moved (sh : Int) (L : List (Int × Int)) : List (Int × Int) := (L.filter fun p => decide (0 ≤ p.1 + sh ∧ p.1 + sh ≤ 2147483647)).map fun p => (p.1 + sh, p.2)
theorem moved_take (sh : Int) (L : List (Int × Int)) (q : Nat) (u c : Int) (h : L[q]? = some (u, c)) : moved sh (L.take (q + 1)) = moved sh (L.take q) ++ (if 0 ≤ u + sh ∧ u + sh ≤ 2147483647 then [(u + sh, c)] else []) := by
 unfold moved
 rw [List.take_add_one, h, List.filter_append, List.map_append]
 by_cases hx : 0 ≤ u + sh ∧ u + sh ≤ 2147483647 <;> simp [hx]
theorem tmove_any (v : Value) (L : List (Int × Int)) (K x : Int) (k : Nat) (w0 : World) (hv : TIn w0 v L K k) (hx1 : -9223372036854775808 ≤ x) (hx2 : x ≤ 9223372036854775807) (hl : L.length ≤ 1000) (hrg : ∀ p ∈ L, p.1 ≤ 9223372036854775807) (hk : k ≤ 100000000) :
  Calls Tryz.prog 69 #[v, .int .i64 x] w0 (TPost (norm (moved (clamp x) (norm L))) K (k + 1010000) w0) := by
 obtain ⟨A, n, c, s, B, m, d, rfl, hp, hc1, hc2, hK⟩ := hv
 have hn := hp.len
 obtain ⟨z0, z1, z2, z3, z4⟩ := bstart3 28 28 28 w0 #[.slice A n c, .bool s, .slice B m d] #[.slice none 0 0, .bool false, .slice none 0 0] #[.slice none 0 0, .bool s, .slice B m d]
 have y1 := (Box.new 28 w0 #[.slice A n c, .bool s, .slice B m d]).alloc (.cells #[.slice none 0 0, .bool false, .slice none 0 0] 28)
 have x1 := y1.c1
 have x2 := y1.c2
 have x0 := z0.c0
 have hpl := plain_any A n c L k _ (hp.below z3) hc1 hc2 (by omega) (by omega)
 have hsh := clamp_range x
 obtain ⟨sh, hs⟩ : ∃ sh, sh = clamp x := ⟨_, rfl⟩
 rw [← hs] at hsh ⊢
 have HK := hide (hK.below z3)
 have HR := hide z1
 have HB := hide z2
 have HT := hide z3
 have HRG := hide (norm_range hrg)
 have HNL := hide (norm_length L)
 clear z0 z1 z2 z3 z4 y1 hp hK hrg
 have hmm : min (max x (-2147483648)) 2147483647 = sh := by rw [hs]; unfold clamp; split <;> (try split) <;> omega
 clear hs
 rw [hn] at hl
 have HN := hide hn
 clear hn
 go_enter Tryz.func69, Tryz.ntmps69
 go_wp2_with fail
 refine hpl.mono ?_
 rintro e W2 ⟨A1, n1, c1, rfl, p1, h11, h12, b1⟩
 have hn1 : n1 ≤ 1000 := by have := p1.len; have := HNL.out; have := HN.out; omega
 have HP1 := hide p1
 have HR2 := hide (HR.out.next b1)
 have HB2 := hide (HB.out.next b1)
 have HT2 := hide (HT.out.next b1)
 have HT2S := hide HT2.out.size
 have hw2 := hide (Box.lt HB2.out)
 have HS := hide (show PutRel W2 (w0.heap.size + 1 + 1) (moved sh ((norm L).take 0)) K (k + n) 0 W2 from
  ⟨[], none, 0, s, B, m, d, HB2.out, LRow.nil _ _ _ _, fun v => rfl, fun p hp => by simp at hp, (HK.out.below b1).mono (by omega), Only.refl _ _, Nat.le_refl _⟩)
 clear x0 x1 x2 hpl p1 b1
 go_wp2_with fail
 clear hmm
 go_loopw [20] (fun i wr => ∃ q : Nat, q ≤ n1 ∧ i = .int .i64 q ∧ Hid (PutRel W2 (w0.heap.size + 1 + 1) (moved sh ((norm L).take q)) K (k + n) q wr)) (fun i _ => n1 - (intOf i).toNat)
 case atStart => exact ⟨0, Nat.zero_le _, rfl, HS⟩
 case round =>
  obtain ⟨q, hq, rfl, HR⟩ := hrel
  obtain ⟨rs, A4, c4, s4, B4, m4, d4, xg, lr, hco, hrz, zK, oW, hrl⟩ := HR.out
  have hT : Below w0.heap.size w0 wr := HT2.out.trans (oW.below HT2.out.size (by omega))
  by_cases hqn : q < n1
  · obtain ⟨bb, o, p, rfl, hlt, hLp, c0, c1x, c2, hz⟩ := (HP1.out.keep oW (HB2.out.kp (nlT _ _ _ _ _ _ _) oW) (HP1.out.offTerm HB2.out)).at_ hqn
    have hpv := HRG.out _ (List.mem_of_getElem? hLp)
    dsimp only at hpv
    have HMT := hide (moved_take sh (norm L) q _ _ hLp)
    have hw1 : IntKind.i64.wrap (-sh) = -sh := IntWalk.i64_in _ (by omega)
    have hw2' : IntKind.i64.wrap (2147483647 - sh) = 2147483647 - sh := IntWalk.i64_in _ (by omega)
    have XG := hide xg
    have LR := hide lr
    have HRZ := hide hrz
    have ZK := hide zK
    have OW := hide oW
    have HZ := hide hz
    have HCO := hide hco
    have HRL := hide hrl
    by_cases hin : 0 ≤ p.v + sh ∧ p.v + sh ≤ 2147483647
    · have hw3 : IntKind.i64.wrap (p.v + sh) = p.v + sh := IntWalk.i64_in _ (by omega)
      have hi1 : -sh ≤ p.v := by omega
      have hi2 : p.v ≤ 2147483647 - sh := by omega
      obtain ⟨p2, hp2⟩ : ∃ p2 : PV, p2 = ⟨p.v + sh, p.s, p.B, p.m, p.d, p.Z⟩ := ⟨_, rfl⟩
      have hle : rs.length + 1 ≤ 1099511627776 := by omega
      have HE := hide (show ∀ (w2 : World) A2 c2, Box 28 w2 (w0.heap.size + 1 + 1) #[.slice A2 (rs ++ [p2]).length c2, .bool s4, .slice B4 m4 d4] → LRow 60 3 w2 W2.heap.size (.slice A2 (rs ++ [p2]).length c2) (rs ++ [p2]).length (flat (rs ++ [p2])) → (∀ p' ∈ rs ++ [p2], ZIn w2 p'.num p'.Z (k + n)) → ZIn w2 (.agg #[.bool s4, .slice B4 m4 d4]) K (k + n + q) → Only (w0.heap.size + 1 + 1) W2 w2 → PutRel W2 (w0.heap.size + 1 + 1) (moved sh ((norm L).take (q + 1))) K (k + n) (q + 1) w2 from fun w2 A2 c2 a1 a2 a3 a4 a5 => ⟨rs ++ [p2], A2, c2, s4, B4, m4, d4, a1, a2, fun v => by rw [HMT.out, if_pos hin, lin_append, coef_append, coef_append, HCO.out, hp2]; simp [lin, PV.part], a3, a4.mono (by omega), a5, by have := HRL.out; simp; omega⟩)
      have hsz : W2.heap.size ≤ ((wr.alloc (.cells #[.int .i64 p.v, .bool p.s, .slice p.B p.m p.d] 60)).alloc (.cells #[.int .i64 (p.v + sh), .bool p.s, .slice p.B p.m p.d] 60)).heap.size := by rw [size_alloc (w := wr.alloc _), size_alloc]; have := oW.size; omega
      have gx0 := xg.c0
      have gx1 := (xg.next (bl_alloc wr (.cells #[.int .i64 p.v, .bool p.s, .slice p.B p.m p.d] 60))).c0
      clear hco hrz zK oW hz hT HR hLp xg lr hrl
      subst hp2
      go_wp2_with (at_builtin; refine wpList_append_parts rfl _ _ rfl W2.heap.size _ rs rfl ((LR.out.below (bl_alloc _ _)).below (bl_alloc _ _)) _ 0 1 1 [⟨p.v + sh, p.s, p.B, p.m, p.d, p.Z⟩] rfl rfl (cells_newS _ (⟨p.v + sh, p.s, p.B, p.m, p.d, p.Z⟩ : PV) _ (by rw [size_alloc])) hle hsz ?_; intro v2 w2 l2 g2; obtain ⟨A2, c2, rfl, xA, kA, oA, xB, lB, kB, oB⟩ := put_app ((XG.out.next (bl_alloc _ _)).next (bl_alloc _ _)) ((LR.out.below (bl_alloc _ _)).below (bl_alloc _ _)) ((OW.out.next (bl_alloc _ _)).next (bl_alloc _ _)) l2 g2; have u0 := xA.c0; have u1 := xA.fr 0; have HE1 := hide (HE.out _ A2 c2 xB lB (fun p' hp' => by
         rcases List.mem_append.1 hp' with hp' | hp'
         · exact (((HRZ.out p' hp').below (bl_alloc _ _)).below (bl_alloc _ _)).kp kB
         · simp at hp'; subst hp'; exact (((HZ.out.mono (by omega)).below (bl_alloc _ _)).below (bl_alloc _ _)).kp kB) (((ZK.out.below (bl_alloc _ _)).below (bl_alloc _ _)).kp kB) oB); clear xA kA oA xB lB kB oB l2 g2)
      clear u0 u1 gx0 gx1
      simp only [List.length_append, List.length_cons, List.length_nil, Nat.zero_add] at HE1
      go_roundw
      case rel => exact ⟨q + 1, by omega, by go_num, HE1⟩
      case measure => simp [intOf] <;> omega
    · have HE1 := hide (show PutRel W2 (w0.heap.size + 1 + 1) (moved sh ((norm L).take (q + 1))) K (k + n) (q + 1) (wr.alloc (.cells #[.int .i64 p.v, .bool p.s, .slice p.B p.m p.d] 60)) from
        ⟨rs, A4, c4, s4, B4, m4, d4, xg.next (bl_alloc _ _), lr.below (bl_alloc _ _), fun v => by rw [HMT.out, if_neg hin, List.append_nil, HCO.out], fun p' hp' => (hrz p' hp').below (bl_alloc _ _), (zK.below (bl_alloc _ _)).mono (by omega), oW.next (bl_alloc _ _), by omega⟩)
      clear hco hrz zK oW hz hT HR hLp xg lr hrl
      by_cases hi1 : -sh ≤ p.v
      · have hi2 : ¬ p.v ≤ 2147483647 - sh := by omega
        go_wp2_with fail
        go_roundw
        case rel => exact ⟨q + 1, by omega, by go_num, HE1⟩
        case measure => simp [intOf] <;> omega
      · go_wp2_with fail
        go_roundw
        case rel => exact ⟨q + 1, by omega, by go_num, HE1⟩
        case measure => simp [intOf] <;> omega
  · obtain rfl : q = n1 := by omega
    have hall := List.take_of_length_le (l := norm L) (i := q) (by rw [HP1.out.len]; exact Nat.le_refl _)
    rw [hall] at hco
    have hin : PIn wr A4 rs.length (lin rs) (k + n + q) := ⟨rs, lr.parts rfl (fun p hp => (hrz p hp).mono (by omega)), rfl⟩
    obtain ⟨A', c', hv', h41, h42, -⟩ := lr.len
    injection hv' with e1' e2' e3'
    subst e1' e3'
    have hpl := tplain_any (.agg #[.slice A4 rs.length c4, .bool s4, .slice B4 m4 d4]) (lin rs) K (k + n + q) wr ⟨A4, rs.length, c4, s4, B4, m4, d4, rfl, hin, h41, h42, zK⟩ (by rw [hin.len]; omega) (by omega)
    have HLN := hide hin.len
    have HN2 := hide (show norm (lin rs) = norm (moved sh (norm L)) from norm_same hco)
    have hR : Box 28 wr (w0.heap.size + 1) #[.slice none 0 0, .bool false, .slice none 0 0] := HR2.out.other oW (by omega)
    have x0 := xg.c0
    have x1 := xg.c1
    have x2 := xg.c2
    have HTT := hide hT
    have HRR := hide hR
    clear hall hin hco zK hrz lr xg oW HR hT hR
    go_wp2_with fail
    refine hpl.mono ?_
    rintro e w5 ⟨v5, rfl, r5, b5⟩
    obtain ⟨A5, n5, c5, s5, B5, m5, d5, rfl⟩ := r5.form
    have k5 := HRR.out.next b5
    go_wp2_with (with_reducible refine wpList_store_t rfl _ _ rfl (w0.heap.size + 1) _ _ _ _ _ _ _ rfl rfl _ _ _ k5 ?_; intro w7 k7 ho7)
    refine bodyPost_t rfl rfl k7 rfl ?_
    refine TPost.mono ⟨_, rfl, ?_, zback (HTT.out.next b5) (by omega) ho7⟩ (show k + n + q + (lin rs).length ≤ _ by have := HLN.out; omega)
    rw [← HN2.out]
    exact r5.only k5 ho7
end Go.Proofs.YtdeakieenppmiaaGreatDoor
/- rel: Move, Put, PutAll. -/
namespace Go.Proofs.YtdeakieenppmiaaGreatDoor
open Go.RowKit Go.Maps
open Tm

theorem relMove_any (v : Value) (L : List (Int × Int)) (K x : Int) (fl : Bool) (k : Nat) (w0 : World) (hv : RIn w0 v L K fl k) (hx1 : -9223372036854775808 ≤ x) (hx2 : x ≤ 9223372036854775807) (hle : L.length ≤ 1000) (hrg : ∀ p ∈ L, p.1 ≤ 9223372036854775807) (hk : k ≤ 100000000) :
   Calls Tryz.prog 33 #[v, .int .i64 x] w0 (RPost (norm (moved (clamp x) (norm L))) K fl (k + 1010000) w0) := by
 obtain ⟨A, n, c, s, B, m, d, rfl, ht⟩ := hv
 obtain ⟨z0, z1, z2, -⟩ := bstart2 30 30 w0 #[.slice A n c, .bool s, .slice B m d, .bool fl] #[.slice none 0 0, .bool false, .slice none 0 0, .bool false]
 go_enter Tryz.func33, Tryz.ntmps33
 go_upto_region 1 with fail
 generalize hW : ((w0.alloc (.cells #[.slice A n c, .bool s, .slice B m d, .bool fl] 30)).alloc (.cells #[.slice none 0 0, .bool false, .slice none 0 0, .bool false] 30)) = W0 at *
 clear hW
 have HX := hide z0
 have HR8 := hide z1
 have HT8 := hide z2
 have HV := hide (ht.below z2)
 have SOF := hide (show ∀ W, Below W0.heap.size W0 W → (W.cell? ⟨w0.heap.size, 0, none⟩ = some (.slice A n c) ∧ W.cell? ⟨w0.heap.size, 1, none⟩ = some (.bool s) ∧ W.cell? ⟨w0.heap.size, 2, none⟩ = some (.slice B m d) ∧ W.cell? ⟨w0.heap.size, 3, none⟩ = some (.bool fl)) from fun W h => ⟨(HX.out.next h).r0, (HX.out.next h).r1, (HX.out.next h).r2, (HX.out.next h).r3⟩)
 clear z0 z1 z2 ht
 refine wp_drawnL (by kernel_rfl) (by kernel_rfl) (by kernel_rfl) (by kernel_rfl) (fun w w' => Below w.heap.size w w') (fun j v w => match j with | 0 => v = .pointer (some ⟨w0.heap.size, 0, none⟩) | 1 => v = .agg #[.slice A n c, .bool s, .slice B m d] | 2 => v = .int .i64 x | 3 => TRes w v (norm (moved (clamp x) (norm L))) K (k + 1010000) | 4 => v = .pointer (some ⟨w0.heap.size, 3, none⟩) | 5 => v = .bool fl | 6 => RRes w v (norm (moved (clamp x) (norm L))) K fl (k + 1010000) | _ => True) (fun _ _ w => Below W0.heap.size W0 w) ?_ (fun _ => bl_drewN W0 1) ?_ ?_
 · intro j v w w' hT h
   match j, h with
   | 0, h => exact h
   | 1, h => exact h
   | 2, h => exact h
   | 3, h => exact h.below hT
   | 4, h => exact h
   | 5, h => exact h
   | 6, h => exact h.below hT
   | j + 7, h => trivial
 · refine ⟨?_, ?_, ?_, ?_, ?_, ?_, ?_, trivial⟩
   · intro listed σ w a hin hout hl hla hs hc hp hG hF
     refine Guarded.none rfl ?_
     have e2 : a.tmps.getD 2 undef = .pointer (some ⟨w0.heap.size, 0, none⟩) := hout 2 (outB_spec (by kernel_rfl))
     refine Does.val (.pointer (some ⟨w0.heap.size, 0, none⟩)) (w' := w) ?_ ⟨Below.refl _ _, rfl, hG⟩
     simp only [Array.getD_eq_getD_getElem?] at e2
     go_simp
   · intro listed σ w a hin hout hl hla hs hc hp hG hF
     refine Guarded.none rfl ?_
     have e5 : a.tmps.getD 5 undef = .pointer (some ⟨w0.heap.size, 0, none⟩) := (hin 0 5 rfl (hp ⟨0, .data⟩ (by simp) rfl)).trans (hF 0 (hp ⟨0, .data⟩ (by simp) rfl))
     have CC := SOF.out w hG; obtain ⟨C0, C1, C2, C3⟩ := CC
     refine Does.val (.agg #[.slice A n c, .bool s, .slice B m d]) (w' := w) ?_ ⟨Below.refl _ _, rfl, hG⟩
     go_simp
   · intro listed σ w a hin hout hl hla hs hc hp hG hF
     refine Guarded.none rfl ?_
     have e1 : a.tmps.getD 1 undef = .int .i64 x := hout 1 (outB_spec (by kernel_rfl))
     refine Does.val (.int .i64 x) (w' := w) ?_ ⟨Below.refl _ _, rfl, hG⟩
     simp only [Array.getD_eq_getD_getElem?] at e1
     go_simp
   · intro listed σ w a hin hout hl hla hs hc hp hG hF
     refine Guarded.none rfl ?_
     have e6 : a.tmps.getD 6 undef = .agg #[.slice A n c, .bool s, .slice B m d] := (hin 1 6 rfl (hp ⟨1, .data⟩ (by simp) rfl)).trans (hF 1 (hp ⟨1, .data⟩ (by simp) rfl))
     have e7 : a.tmps.getD 7 undef = .int .i64 x := (hin 2 7 rfl (hp ⟨2, .data⟩ (by simp) rfl)).trans (hF 2 (hp ⟨2, .data⟩ (by simp) rfl))
     refine Does.call ?_ (tmove_any _ L K x k w (HV.out.below hG) hx1 hx2 hle hrg hk) ?_
     · go_simp
     · rintro e w' ⟨v, rfl, z, hb⟩
       exact ⟨_, rfl, hb, z, hG.next hb⟩
   · intro listed σ w a hin hout hl hla hs hc hp hG hF
     refine Guarded.none rfl ?_
     have e2 : a.tmps.getD 2 undef = .pointer (some ⟨w0.heap.size, 0, none⟩) := hout 2 (outB_spec (by kernel_rfl))
     refine Does.val (.pointer (some ⟨w0.heap.size, 3, none⟩)) (w' := w) ?_ ⟨Below.refl _ _, rfl, hG⟩
     simp only [Array.getD_eq_getD_getElem?] at e2
     go_simp
   · intro listed σ w a hin hout hl hla hs hc hp hG hF
     refine Guarded.none rfl ?_
     have e9 : a.tmps.getD 9 undef = .pointer (some ⟨w0.heap.size, 3, none⟩) := (hin 4 9 rfl (hp ⟨4, .data⟩ (by simp) rfl)).trans (hF 4 (hp ⟨4, .data⟩ (by simp) rfl))
     have CC := SOF.out w hG; obtain ⟨C0, C1, C2, C3⟩ := CC
     refine Does.val (.bool fl) (w' := w) ?_ ⟨Below.refl _ _, rfl, hG⟩
     go_simp
   · intro listed σ w a hin hout hl hla hs hc hp hG hF
     refine Guarded.none rfl ?_
     have e8 := hin 3 8 rfl (hp ⟨3, .data⟩ (by simp) rfl)
     have z3 := hF 3 (hp ⟨3, .data⟩ (by simp) rfl)
     have e10 : a.tmps.getD 10 undef = .bool fl := (hin 5 10 rfl (hp ⟨5, .data⟩ (by simp) rfl)).trans (hF 5 (hp ⟨5, .data⟩ (by simp) rfl))
     obtain ⟨A7, n7, c7, s7, B7, m7, d7, ev7⟩ := TRes.form z3
     rw [ev7] at e8 z3
     refine Does.val (.agg #[.slice A7 n7 c7, .bool s7, .slice B7 m7 d7, .bool fl]) (w' := w) ?_ ⟨Below.refl _ _, ⟨A7, n7, c7, s7, B7, m7, d7, rfl, z3⟩, hG⟩
     simp only [Array.getD_eq_getD_getElem?] at e8 e10
     go_simp
 · intro o ho
   injection ho with ho; subst ho
   intro listed σ w a hall hin hout hG hF
   refine Guarded.none rfl ?_
   have e4 : a.tmps.getD 4 undef = .pointer (some ⟨w0.heap.size + 1, 0, none⟩) := hout 4 (outL (by kernel_rfl))
   have e11 := hin 6 11 rfl (by decide)
   have z6 := hF 6 (by decide)
   obtain ⟨A8, n8, c8, s8, B8, m8, d8, ev8, t8⟩ := z6
   rw [ev8] at e11
   refine Does.store_box (T := 30) (cells := #[.slice A8 n8 c8, .bool s8, .slice B8 m8 d8, .bool fl]) rfl e4 e11 (HR8.out.next hG) (by kernel_rfl) rfl (by simp [Value.oneCell']) (fun w2 x9 o9 => ?_)
   rw [show fin _ σ undef _ = (Act.put (Act.put (Act.put (Act.put (Act.put (Act.put (Act.put (Act.put _ (some 5) (σ 0)) (some 6) (σ 1)) (some 7) (σ 2)) (some 8) (σ 3)) (some 9) (σ 4)) (some 10) (σ 5)) (some 11) (σ 6)) none undef) from (fin_all hall).trans rfl]
   simp only [Act.put, List.setIfInBounds_toArray, List.set_cons_zero, List.set_cons_succ]
   have HZ8 := hide (t8.onlyR (HR8.out.next hG) o9)
   have HO := hide (zback (HT8.out.next hG) (by omega) o9)
   generalize σ 0 = tt0 at *; generalize σ 1 = tt1 at *; generalize σ 2 = tt2 at *; generalize σ 3 = tt3 at *; generalize σ 4 = tt4 at *; generalize σ 5 = tt5 at *; generalize σ 6 = tt6 at *
   clear hF hG hall hin hout SOF t8 o9 e4 e11 ev8
   go_wp2_with fail
   refine bodyPost_r rfl rfl x9 rfl ?_
   exact ⟨_, rfl, ⟨_, _, _, _, _, _, _, rfl, HZ8.out⟩, HO.out⟩
theorem relPut_any (v u : Value) (L M : List (Int × Int)) (K KM x : Int) (fl : Bool) (k ku : Nat) (w0 : World) (hv : RIn w0 v L K fl k) (hu : TIn w0 u M KM ku) (hx1 : -9223372036854775808 ≤ x) (hx2 : x ≤ 9223372036854775807) (hml : M.length ≤ 1000) (hle : L.length ≤ 1000) (hrg : ∀ p ∈ L, p.1 ≤ 9223372036854775807) (hk : k ≤ 100000000) (hku : ku ≤ 100000000) :
   Calls Tryz.prog 30 #[v, .int .i64 x, u] w0 (RPost (norm (putL [x] [(M, KM)] (norm L))) (K + putK [x] [(M, KM)] (norm L)) fl (k + ku + 1010000) w0) := by
 have hu0 := hu
 obtain ⟨A, n, c, s, B, m, d, rfl, ht⟩ := hv
 obtain ⟨A2, n2, c2, s2, B2, m2, d2, rfl, -⟩ := hu
 obtain ⟨z0, zu, z1, z2, -⟩ := bstart3 30 28 30 w0 #[.slice A n c, .bool s, .slice B m d, .bool fl] #[.slice A2 n2 c2, .bool s2, .slice B2 m2 d2] #[.slice none 0 0, .bool false, .slice none 0 0, .bool false]
 go_enter Tryz.func30, Tryz.ntmps30
 go_upto_region 1 with fail
 generalize hW : (((w0.alloc (.cells #[.slice A n c, .bool s, .slice B m d, .bool fl] 30)).alloc (.cells #[.slice A2 n2 c2, .bool s2, .slice B2 m2 d2] 28)).alloc (.cells #[.slice none 0 0, .bool false, .slice none 0 0, .bool false] 30)) = W0 at *
 clear hW
 have HX := hide z0
 have HXU := hide zu
 have HR8 := hide z1
 have HT8 := hide z2
 have HV := hide (ht.below z2)
 have HU := hide (hu0.below z2)
 have SOF := hide (show ∀ W, Below W0.heap.size W0 W → (W.cell? ⟨w0.heap.size, 0, none⟩ = some (.slice A n c) ∧ W.cell? ⟨w0.heap.size, 1, none⟩ = some (.bool s) ∧ W.cell? ⟨w0.heap.size, 2, none⟩ = some (.slice B m d) ∧ W.cell? ⟨w0.heap.size, 3, none⟩ = some (.bool fl) ∧ W.cell? ⟨w0.heap.size + 1, 0, none⟩ = some (.slice A2 n2 c2) ∧ W.cell? ⟨w0.heap.size + 1, 1, none⟩ = some (.bool s2) ∧ W.cell? ⟨w0.heap.size + 1, 2, none⟩ = some (.slice B2 m2 d2)) from fun W h => ⟨(HX.out.next h).r0, (HX.out.next h).r1, (HX.out.next h).r2, (HX.out.next h).r3, (HXU.out.next h).c0, (HXU.out.next h).c1, (HXU.out.next h).c2⟩)
 clear z0 zu z1 z2 ht hu0
 refine wp_drawnL (by kernel_rfl) (by kernel_rfl) (by kernel_rfl) (by kernel_rfl) (fun w w' => Below w.heap.size w w') (fun j v w => match j with | 0 => v = .pointer (some ⟨w0.heap.size, 0, none⟩) | 1 => v = .agg #[.slice A n c, .bool s, .slice B m d] | 2 => v = .int .i64 x | 3 => v = .agg #[.slice A2 n2 c2, .bool s2, .slice B2 m2 d2] | 4 => TRes w v (norm (putL [x] [(M, KM)] (norm L))) (K + putK [x] [(M, KM)] (norm L)) (k + ku + 1010000) | 5 => v = .pointer (some ⟨w0.heap.size, 3, none⟩) | 6 => v = .bool fl | 7 => RRes w v (norm (putL [x] [(M, KM)] (norm L))) (K + putK [x] [(M, KM)] (norm L)) fl (k + ku + 1010000) | _ => True) (fun _ _ w => Below W0.heap.size W0 w) ?_ (fun _ => bl_drewN W0 1) ?_ ?_
 · intro j v w w' hT h
   match j, h with
   | 0, h => exact h
   | 1, h => exact h
   | 2, h => exact h
   | 3, h => exact h
   | 4, h => exact h.below hT
   | 5, h => exact h
   | 6, h => exact h
   | 7, h => exact h.below hT
   | j + 8, h => trivial
 · refine ⟨?_, ?_, ?_, ?_, ?_, ?_, ?_, ?_, trivial⟩
   · intro listed σ w a hin hout hl hla hs hc hp hG hF
     refine Guarded.none rfl ?_
     have e3 : a.tmps.getD 3 undef = .pointer (some ⟨w0.heap.size, 0, none⟩) := hout 3 (outB_spec (by kernel_rfl))
     refine Does.val (.pointer (some ⟨w0.heap.size, 0, none⟩)) (w' := w) ?_ ⟨Below.refl _ _, rfl, hG⟩
     simp only [Array.getD_eq_getD_getElem?] at e3
     go_simp
   · intro listed σ w a hin hout hl hla hs hc hp hG hF
     refine Guarded.none rfl ?_
     have e7 : a.tmps.getD 7 undef = .pointer (some ⟨w0.heap.size, 0, none⟩) := (hin 0 7 rfl (hp ⟨0, .data⟩ (by simp) rfl)).trans (hF 0 (hp ⟨0, .data⟩ (by simp) rfl))
     have CC := SOF.out w hG; obtain ⟨C0, C1, C2, C3, D0, D1, D2⟩ := CC
     refine Does.val (.agg #[.slice A n c, .bool s, .slice B m d]) (w' := w) ?_ ⟨Below.refl _ _, rfl, hG⟩
     go_simp
   · intro listed σ w a hin hout hl hla hs hc hp hG hF
     refine Guarded.none rfl ?_
     have e1 : a.tmps.getD 1 undef = .int .i64 x := hout 1 (outB_spec (by kernel_rfl))
     refine Does.val (.int .i64 x) (w' := w) ?_ ⟨Below.refl _ _, rfl, hG⟩
     simp only [Array.getD_eq_getD_getElem?] at e1
     go_simp
   · intro listed σ w a hin hout hl hla hs hc hp hG hF
     refine Guarded.none rfl ?_
     have e5 : a.tmps.getD 5 undef = .pointer (some ⟨w0.heap.size + 1, 0, none⟩) := hout 5 (outB_spec (by kernel_rfl))
     have CC := SOF.out w hG; obtain ⟨C0, C1, C2, C3, D0, D1, D2⟩ := CC
     refine Does.val (.agg #[.slice A2 n2 c2, .bool s2, .slice B2 m2 d2]) (w' := w) ?_ ⟨Below.refl _ _, rfl, hG⟩
     go_simp
   · intro listed σ w a hin hout hl hla hs hc hp hG hF
     refine Guarded.none rfl ?_
     have e8 : a.tmps.getD 8 undef = .agg #[.slice A n c, .bool s, .slice B m d] := (hin 1 8 rfl (hp ⟨1, .data⟩ (by simp) rfl)).trans (hF 1 (hp ⟨1, .data⟩ (by simp) rfl))
     have e9 : a.tmps.getD 9 undef = .int .i64 x := (hin 2 9 rfl (hp ⟨2, .data⟩ (by simp) rfl)).trans (hF 2 (hp ⟨2, .data⟩ (by simp) rfl))
     have e10 : a.tmps.getD 10 undef = .agg #[.slice A2 n2 c2, .bool s2, .slice B2 m2 d2] := (hin 3 10 rfl (hp ⟨3, .data⟩ (by simp) rfl)).trans (hF 3 (hp ⟨3, .data⟩ (by simp) rfl))
     refine Does.call ?_ (tput_any _ _ L M K KM x k ku w (HV.out.below hG) (HU.out.below hG) hx1 hx2 hml hle hrg hk hku) ?_
     · go_simp
     · rintro e w' ⟨v, rfl, z, hb⟩
       exact ⟨_, rfl, hb, z, hG.next hb⟩
   · intro listed σ w a hin hout hl hla hs hc hp hG hF
     refine Guarded.none rfl ?_
     have e3 : a.tmps.getD 3 undef = .pointer (some ⟨w0.heap.size, 0, none⟩) := hout 3 (outB_spec (by kernel_rfl))
     refine Does.val (.pointer (some ⟨w0.heap.size, 3, none⟩)) (w' := w) ?_ ⟨Below.refl _ _, rfl, hG⟩
     simp only [Array.getD_eq_getD_getElem?] at e3
     go_simp
   · intro listed σ w a hin hout hl hla hs hc hp hG hF
     refine Guarded.none rfl ?_
     have e12 : a.tmps.getD 12 undef = .pointer (some ⟨w0.heap.size, 3, none⟩) := (hin 5 12 rfl (hp ⟨5, .data⟩ (by simp) rfl)).trans (hF 5 (hp ⟨5, .data⟩ (by simp) rfl))
     have CC := SOF.out w hG; obtain ⟨C0, C1, C2, C3, D0, D1, D2⟩ := CC
     refine Does.val (.bool fl) (w' := w) ?_ ⟨Below.refl _ _, rfl, hG⟩
     go_simp
   · intro listed σ w a hin hout hl hla hs hc hp hG hF
     refine Guarded.none rfl ?_
     have e11 := hin 4 11 rfl (hp ⟨4, .data⟩ (by simp) rfl)
     have z4 := hF 4 (hp ⟨4, .data⟩ (by simp) rfl)
     have e13 : a.tmps.getD 13 undef = .bool fl := (hin 6 13 rfl (hp ⟨6, .data⟩ (by simp) rfl)).trans (hF 6 (hp ⟨6, .data⟩ (by simp) rfl))
     obtain ⟨A7, n7, c7, s7, B7, m7, d7, ev7⟩ := TRes.form z4
     rw [ev7] at e11 z4
     refine Does.val (.agg #[.slice A7 n7 c7, .bool s7, .slice B7 m7 d7, .bool fl]) (w' := w) ?_ ⟨Below.refl _ _, ⟨A7, n7, c7, s7, B7, m7, d7, rfl, z4⟩, hG⟩
     simp only [Array.getD_eq_getD_getElem?] at e11 e13
     go_simp
 · intro o ho
   injection ho with ho; subst ho
   intro listed σ w a hall hin hout hG hF
   refine Guarded.none rfl ?_
   have e6 : a.tmps.getD 6 undef = .pointer (some ⟨w0.heap.size + 1 + 1, 0, none⟩) := hout 6 (outL (by kernel_rfl))
   have e14 := hin 7 14 rfl (by decide)
   have z7 := hF 7 (by decide)
   obtain ⟨A8, n8, c8, s8, B8, m8, d8, ev8, t8⟩ := z7
   rw [ev8] at e14
   refine Does.store_box (T := 30) (cells := #[.slice A8 n8 c8, .bool s8, .slice B8 m8 d8, .bool fl]) rfl e6 e14 (HR8.out.next hG) (by kernel_rfl) rfl (by simp [Value.oneCell']) (fun w2 x9 o9 => ?_)
   rw [show fin _ σ undef _ = (Act.put (Act.put (Act.put (Act.put (Act.put (Act.put (Act.put (Act.put (Act.put _ (some 7) (σ 0)) (some 8) (σ 1)) (some 9) (σ 2)) (some 10) (σ 3)) (some 11) (σ 4)) (some 12) (σ 5)) (some 13) (σ 6)) (some 14) (σ 7)) none undef) from (fin_all hall).trans rfl]
   simp only [Act.put, List.setIfInBounds_toArray, List.set_cons_zero, List.set_cons_succ]
   have HZ8 := hide (t8.onlyR (HR8.out.next hG) o9)
   have HO := hide (zback (HT8.out.next hG) (by omega) o9)
   generalize σ 0 = tt0 at *; generalize σ 1 = tt1 at *; generalize σ 2 = tt2 at *; generalize σ 3 = tt3 at *; generalize σ 4 = tt4 at *; generalize σ 5 = tt5 at *; generalize σ 6 = tt6 at *; generalize σ 7 = tt7 at *
   clear hF hG hall hin hout SOF t8 o9 e6 e14 ev8
   go_wp2_with fail
   refine bodyPost_r rfl rfl x9 rfl ?_
   exact ⟨_, rfl, ⟨_, _, _, _, _, _, _, rfl, HZ8.out⟩, HO.out⟩
theorem relPutAll_any (v : Value) (L : List (Int × Int)) (K : Int) (fl : Bool) (k : Nat) (VA : Option Addr) (vn vc : Nat) (vs : List Int) (TA : Option Addr) (tn tc : Nat) (ts : List TV) (kt : Nat) (w0 : World) (hv : RIn w0 v L K fl k) (hvs : IIn w0 VA vn vs) (hvn : vn ≤ 1099511627) (hwf : ∀ x ∈ vs, -9223372036854775808 ≤ x ∧ x ≤ 9223372036854775807)
   (hts : TermsIn w0 TA tn ts kt) (htn : tn ≤ 9223372036854775807) (htl : ∀ t ∈ ts, t.L.length ≤ 1000) (hle : L.length ≤ 1000) (hrg : ∀ p ∈ L, p.1 ≤ 9223372036854775807) (hk : k ≤ 100000000) (hkt : kt ≤ 100000000) :
   Calls Tryz.prog 31 #[v, .slice VA vn vc, .slice TA tn tc] w0 (RPost (norm (putL vs (pairs ts) (norm L))) (K + putK vs (pairs ts) (norm L)) fl (k + kt + 1010000) w0) := by
 obtain ⟨A, n, c, s, B, m, d, rfl, ht⟩ := hv
 obtain ⟨z0, z1, z2, -⟩ := bstart2 30 30 w0 #[.slice A n c, .bool s, .slice B m d, .bool fl] #[.slice none 0 0, .bool false, .slice none 0 0, .bool false]
 go_enter Tryz.func31, Tryz.ntmps31
 go_upto_region 1 with fail
 generalize hW : ((w0.alloc (.cells #[.slice A n c, .bool s, .slice B m d, .bool fl] 30)).alloc (.cells #[.slice none 0 0, .bool false, .slice none 0 0, .bool false] 30)) = W0 at *
 clear hW
 have HX := hide z0
 have HR8 := hide z1
 have HT8 := hide z2
 have HV := hide (ht.below z2)
 have HVS := hide (hvs.below z2)
 have HTS := hide (hts.below z2)
 have SOF := hide (show ∀ W, Below W0.heap.size W0 W → (W.cell? ⟨w0.heap.size, 0, none⟩ = some (.slice A n c) ∧ W.cell? ⟨w0.heap.size, 1, none⟩ = some (.bool s) ∧ W.cell? ⟨w0.heap.size, 2, none⟩ = some (.slice B m d) ∧ W.cell? ⟨w0.heap.size, 3, none⟩ = some (.bool fl)) from fun W h => ⟨(HX.out.next h).r0, (HX.out.next h).r1, (HX.out.next h).r2, (HX.out.next h).r3⟩)
 clear z0 z1 z2 ht hvs hts
 refine wp_drawnL (by kernel_rfl) (by kernel_rfl) (by kernel_rfl) (by kernel_rfl) (fun w w' => Below w.heap.size w w') (fun j v w => match j with | 0 => v = .pointer (some ⟨w0.heap.size, 0, none⟩) | 1 => v = .agg #[.slice A n c, .bool s, .slice B m d] | 2 => v = .slice VA vn vc | 3 => v = .slice TA tn tc | 4 => TRes w v (norm (putL vs (pairs ts) (norm L))) (K + putK vs (pairs ts) (norm L)) (k + kt + 1010000) | 5 => v = .pointer (some ⟨w0.heap.size, 3, none⟩) | 6 => v = .bool fl | 7 => RRes w v (norm (putL vs (pairs ts) (norm L))) (K + putK vs (pairs ts) (norm L)) fl (k + kt + 1010000) | _ => True) (fun _ _ w => Below W0.heap.size W0 w) ?_ (fun _ => bl_drewN W0 1) ?_ ?_
 · intro j v w w' hT h
   match j, h with
   | 0, h => exact h
   | 1, h => exact h
   | 2, h => exact h
   | 3, h => exact h
   | 4, h => exact h.below hT
   | 5, h => exact h
   | 6, h => exact h
   | 7, h => exact h.below hT
   | j + 8, h => trivial
 · refine ⟨?_, ?_, ?_, ?_, ?_, ?_, ?_, ?_, trivial⟩
   · intro listed σ w a hin hout hl hla hs hc hp hG hF
     refine Guarded.none rfl ?_
     have e3 : a.tmps.getD 3 undef = .pointer (some ⟨w0.heap.size, 0, none⟩) := hout 3 (outB_spec (by kernel_rfl))
     refine Does.val (.pointer (some ⟨w0.heap.size, 0, none⟩)) (w' := w) ?_ ⟨Below.refl _ _, rfl, hG⟩
     simp only [Array.getD_eq_getD_getElem?] at e3
     go_simp
   · intro listed σ w a hin hout hl hla hs hc hp hG hF
     refine Guarded.none rfl ?_
     have e7 : a.tmps.getD 7 undef = .pointer (some ⟨w0.heap.size, 0, none⟩) := (hin 0 7 rfl (hp ⟨0, .data⟩ (by simp) rfl)).trans (hF 0 (hp ⟨0, .data⟩ (by simp) rfl))
     have CC := SOF.out w hG; obtain ⟨C0, C1, C2, C3⟩ := CC
     refine Does.val (.agg #[.slice A n c, .bool s, .slice B m d]) (w' := w) ?_ ⟨Below.refl _ _, rfl, hG⟩
     go_simp
   · intro listed σ w a hin hout hl hla hs hc hp hG hF
     refine Guarded.none rfl ?_
     have e1 : a.tmps.getD 1 undef = .slice VA vn vc := hout 1 (outB_spec (by kernel_rfl))
     refine Does.val (.slice VA vn vc) (w' := w) ?_ ⟨Below.refl _ _, rfl, hG⟩
     simp only [Array.getD_eq_getD_getElem?] at e1
     go_simp
   · intro listed σ w a hin hout hl hla hs hc hp hG hF
     refine Guarded.none rfl ?_
     have e2 : a.tmps.getD 2 undef = .slice TA tn tc := hout 2 (outB_spec (by kernel_rfl))
     refine Does.val (.slice TA tn tc) (w' := w) ?_ ⟨Below.refl _ _, rfl, hG⟩
     simp only [Array.getD_eq_getD_getElem?] at e2
     go_simp
   · intro listed σ w a hin hout hl hla hs hc hp hG hF
     refine Guarded.none rfl ?_
     have e8 : a.tmps.getD 8 undef = .agg #[.slice A n c, .bool s, .slice B m d] := (hin 1 8 rfl (hp ⟨1, .data⟩ (by simp) rfl)).trans (hF 1 (hp ⟨1, .data⟩ (by simp) rfl))
     have e9 : a.tmps.getD 9 undef = .slice VA vn vc := (hin 2 9 rfl (hp ⟨2, .data⟩ (by simp) rfl)).trans (hF 2 (hp ⟨2, .data⟩ (by simp) rfl))
     have e10 : a.tmps.getD 10 undef = .slice TA tn tc := (hin 3 10 rfl (hp ⟨3, .data⟩ (by simp) rfl)).trans (hF 3 (hp ⟨3, .data⟩ (by simp) rfl))
     refine Does.call ?_ (tputAll_any _ L K k VA vn vc vs TA tn tc ts kt w (HV.out.below hG) (HVS.out.below hG) hvn hwf (HTS.out.below hG) htn htl hle hrg hk hkt) ?_
     · go_simp
     · rintro e w' ⟨v, rfl, z, hb⟩
       exact ⟨_, rfl, hb, z, hG.next hb⟩
   · intro listed σ w a hin hout hl hla hs hc hp hG hF
     refine Guarded.none rfl ?_
     have e3 : a.tmps.getD 3 undef = .pointer (some ⟨w0.heap.size, 0, none⟩) := hout 3 (outB_spec (by kernel_rfl))
     refine Does.val (.pointer (some ⟨w0.heap.size, 3, none⟩)) (w' := w) ?_ ⟨Below.refl _ _, rfl, hG⟩
     simp only [Array.getD_eq_getD_getElem?] at e3
     go_simp
   · intro listed σ w a hin hout hl hla hs hc hp hG hF
     refine Guarded.none rfl ?_
     have e12 : a.tmps.getD 12 undef = .pointer (some ⟨w0.heap.size, 3, none⟩) := (hin 5 12 rfl (hp ⟨5, .data⟩ (by simp) rfl)).trans (hF 5 (hp ⟨5, .data⟩ (by simp) rfl))
     have CC := SOF.out w hG; obtain ⟨C0, C1, C2, C3⟩ := CC
     refine Does.val (.bool fl) (w' := w) ?_ ⟨Below.refl _ _, rfl, hG⟩
     go_simp
   · intro listed σ w a hin hout hl hla hs hc hp hG hF
     refine Guarded.none rfl ?_
     have e11 := hin 4 11 rfl (hp ⟨4, .data⟩ (by simp) rfl)
     have z4 := hF 4 (hp ⟨4, .data⟩ (by simp) rfl)
     have e13 : a.tmps.getD 13 undef = .bool fl := (hin 6 13 rfl (hp ⟨6, .data⟩ (by simp) rfl)).trans (hF 6 (hp ⟨6, .data⟩ (by simp) rfl))
     obtain ⟨A7, n7, c7, s7, B7, m7, d7, ev7⟩ := TRes.form z4
     rw [ev7] at e11 z4
     refine Does.val (.agg #[.slice A7 n7 c7, .bool s7, .slice B7 m7 d7, .bool fl]) (w' := w) ?_ ⟨Below.refl _ _, ⟨A7, n7, c7, s7, B7, m7, d7, rfl, z4⟩, hG⟩
     simp only [Array.getD_eq_getD_getElem?] at e11 e13
     go_simp
 · intro o ho
   injection ho with ho; subst ho
   intro listed σ w a hall hin hout hG hF
   refine Guarded.none rfl ?_
   have e6 : a.tmps.getD 6 undef = .pointer (some ⟨w0.heap.size + 1, 0, none⟩) := hout 6 (outL (by kernel_rfl))
   have e14 := hin 7 14 rfl (by decide)
   have z7 := hF 7 (by decide)
   obtain ⟨A8, n8, c8, s8, B8, m8, d8, ev8, t8⟩ := z7
   rw [ev8] at e14
   refine Does.store_box (T := 30) (cells := #[.slice A8 n8 c8, .bool s8, .slice B8 m8 d8, .bool fl]) rfl e6 e14 (HR8.out.next hG) (by kernel_rfl) rfl (by simp [Value.oneCell']) (fun w2 x9 o9 => ?_)
   rw [show fin _ σ undef _ = (Act.put (Act.put (Act.put (Act.put (Act.put (Act.put (Act.put (Act.put (Act.put _ (some 7) (σ 0)) (some 8) (σ 1)) (some 9) (σ 2)) (some 10) (σ 3)) (some 11) (σ 4)) (some 12) (σ 5)) (some 13) (σ 6)) (some 14) (σ 7)) none undef) from (fin_all hall).trans rfl]
   simp only [Act.put, List.setIfInBounds_toArray, List.set_cons_zero, List.set_cons_succ]
   have HZ8 := hide (t8.onlyR (HR8.out.next hG) o9)
   have HO := hide (zback (HT8.out.next hG) (by omega) o9)
   generalize σ 0 = tt0 at *; generalize σ 1 = tt1 at *; generalize σ 2 = tt2 at *; generalize σ 3 = tt3 at *; generalize σ 4 = tt4 at *; generalize σ 5 = tt5 at *; generalize σ 6 = tt6 at *; generalize σ 7 = tt7 at *
   clear hF hG hall hin hout SOF t8 o9 e6 e14 ev8
   go_wp2_with fail
   refine bodyPost_r rfl rfl x9 rfl ?_
   exact ⟨_, rfl, ⟨_, _, _, _, _, _, _, rfl, HZ8.out⟩, HO.out⟩
end Go.Proofs.YtdeakieenppmiaaGreatDoor
