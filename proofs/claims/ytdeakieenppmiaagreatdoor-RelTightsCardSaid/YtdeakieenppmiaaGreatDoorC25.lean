/- Texts of one seat, put together: LOf4 KeepP RelBox TVars. -/
import Derived.Test.YtdeakieenppmiaaGreatDoorC24
import Derived.Test.YtdeakieenppmiaaGreatDoorC19
import Derived.Test.YtdeakieenppmiaaGreatDoorC17
import Derived.Test.YtdeakieenppmiaaGreatDoorC22
set_option linter.unusedVariables false
set_option linter.unusedSimpArgs false
set_option maxRecDepth 100000
set_option maxHeartbeats 16000000
/- plumblinelaw04.of (the same as plumblinelaw03.of). -/
namespace Go.Proofs.YtdeakieenppmiaaGreatDoor
open Go.RowKit
open Tm

theorem lof4_own (K : Int) (A : Option Addr) (n c : Nat) (xs : List Int) (w0 : World) (hx : IIn w0 A n xs) (hk1 : -9223372036854775808 ≤ K) (hk2 : K ≤ 9223372036854775807) (hxs : ∀ x ∈ xs, -9223372036854775808 ≤ x ∧ x ≤ 9223372036854775807) (hn1 : n ≤ 1099511) : Calls Tryz.prog 27 #[.int .i64 K, .slice A n c] w0 (OfPost (ofs xs) n K 2 w0) := by
 have hln : xs.length = n := hx.1
 obtain ⟨z0, z1, z2⟩ := bstart1 28 w0 #[.slice none 0 0, .bool false, .slice none 0 0]
 have hcl := rof_z K (w0.alloc (.cells #[.slice none 0 0, .bool false, .slice none 0 0] 28)) hk1 hk2
 go_enter Tryz.func27, Tryz.ntmps27
 go_wp2_with fail
 refine hcl.mono ?_
 rintro e w1 ⟨v1, rfl, r1, b1⟩
 obtain ⟨s1, A1, n1, c1, rfl⟩ := r1.form
 have t1 := z1.next b1
 have q0 := z0.next b1
 have hz3 := hide (show w0.heap.size + 1 ≤ w1.heap.size by have := b1.size; simp at this; omega)
 obtain ⟨y0, y1, y2⟩ := bstart1 28 w1 #[.slice none 0 0, .bool s1, .slice A1 n1 c1]
 have HR1 := hide (r1.below y1)
 have XB := hide y0
 have XR := hide (q0.next y1)
 have HW1 := hide (t1.next y1)
 have HI := hide hx
 have HLN := hide hln
 clear hcl r1 t1 q0 y0 y1 y2 z0 z1 z2 b1 hx hln
 go_wp2_with fail
 generalize hW1 : w1.alloc (.cells #[.slice none 0 0, .bool s1, .slice A1 n1 c1] 28) = W1 at *
 clear hW1
 have HE := hide (show EachRel2 W1 w1.heap.size (ofs xs) K (fun z => z) 2 0 W1 from
  ⟨[], none, 0, s1, A1, n1, c1, XB.out, LRow.nil _ _ _ _, rfl, rfl, fun p hp => by simp at hp, HR1.out, Only.refl _ _, Kp.refl _⟩)
 go_loopw [6, 7, 13] (fun _ _ i wr => ∃ q : Nat, q ≤ n ∧ i = .int .i64 q ∧ Hid (EachRel2 W1 w1.heap.size (ofs xs) K (fun z => z) 2 q wr)) (fun _ _ i _ => n - (intOf i).toNat)
 case atStart => exact ⟨0, Nat.zero_le _, rfl, HE⟩
 case round =>
  obtain ⟨q, hq, rfl, HR⟩ := hrel
  obtain ⟨rs, A4, c4, s4, B4, m4, d4, xg, lr, hrl, hlin, hrz, zK, oW, kW⟩ := HR.out
  have hT : Below w0.heap.size w0 wr := HW1.out.trans (oW.below HW1.out.size (by have := hz3.out; omega))
  by_cases hqn : q < n
  · obtain ⟨bb, o, x, rfl, hlt, hx, c0⟩ := (HI.out.below hT).at_ hqn
    have hxb := hxs x (List.mem_of_getElem? hx)
    have HLp := hide (ofs_get xs q x hx)
    have HXG := hide xg
    have HL := hide lr
    have HRL := hide hrl
    have HLI := hide hlin
    have HRZ := hide hrz
    have HZK := hide zK
    have HOW := hide oW
    have HKW := hide kW
    have HWS := hide oW.size
    have HTT := hide hT
    have HRW := hide (show ∀ gs, (Value.slice A4 q c4).ownBlock = some gs → gs < wr.heap.size from fun gs e => (lr.lt gs e).2)
    have HF6 := hide (fun W (_ : Below wr.heap.size wr W) => rof_z x W hxb.1 hxb.2)
    have SOF := hide (show ∀ W, Below wr.heap.size wr W → (W.cell? ⟨w1.heap.size, 0, none⟩ = some (.slice A4 q c4)) from fun W h => (HXG.out.next h).c0)
    clear xg lr hrl hlin hrz zK oW kW hT hx hxb HR
    go_wp2_with fail
    clear c0
    refine wp_drawnL (by kernel_rfl) (by kernel_rfl) (by kernel_rfl) (by kernel_rfl) (Tg (Value.slice A4 q c4).ownBlock) (fun j v w => match j with | 0 => v = .pointer (some ⟨w1.heap.size, 0, none⟩) | 1 => v = .slice A4 q c4 | 2 => v = .int .i64 (q : Int) | 3 => v = .int .i64 x | 4 => ∃ s B m d, v = .agg #[.bool s, .slice B m d] ∧ ZRes w (.agg #[.bool s, .slice B m d]) x 2 | 5 => ∃ s B m d, v = .agg #[.int .i64 (q : Int), .bool s, .slice B m d] ∧ ZRes w (.agg #[.bool s, .slice B m d]) x 2 | 6 => ∃ gs s B m d, v = .slice (some ⟨gs, 0, none⟩) 1 1 ∧ wr.heap.size ≤ gs ∧ Box 60 w gs #[.int .i64 (q : Int), .bool s, .slice B m d] ∧ ZRes w (.agg #[.bool s, .slice B m d]) x 2 | 7 => True | 8 => v = .pointer (some ⟨w1.heap.size, 0, none⟩) | _ => True) (GA 7 wr (fun v w => ∃ p2 : PV, p2.v = (q : Int) ∧ p2.Z = x ∧ LRow 60 3 w W1.heap.size v (rs ++ [p2]).length (flat (rs ++ [p2])) ∧ ZRes w p2.num p2.Z 2 ∧ Tg (Value.slice A4 q c4).ownBlock wr w)) ?_ (fun _ => GA.start _ (bl_drewN wr 1)) ?_ ?_
    · intro j v w w' hT h
      match j, h with
      | 0, h => exact h
      | 1, h => exact h
      | 2, h => exact h
      | 3, h => exact h
      | 4, h => exact (by obtain ⟨s, B, m, d, e, z⟩ := h; exact ⟨s, B, m, d, e, z.kp hT.2⟩)
      | 5, h => exact (by obtain ⟨s, B, m, d, e, z⟩ := h; exact ⟨s, B, m, d, e, z.kp hT.2⟩)
      | 6, h => exact (by obtain ⟨gs, s, B, m, d, e, h1, h2, h3⟩ := h; exact ⟨gs, s, B, m, d, e, h1, h2.grown hT.1 (fun e => by have := HRW.out gs e.symm; omega), h3.kp hT.2⟩)
      | 7, h => exact trivial
      | 8, h => exact h
      | j + 9, h => trivial
    · refine ⟨?_, ?_, ?_, ?_, ?_, ?_, ?_, ?_, ?_, trivial⟩
      · intro listed σ w a hin hout hl hla hs hc hp hG hF
        refine Guarded.none rfl ?_
        have e5 : a.tmps.getD 5 undef = .pointer (some ⟨w1.heap.size, 0, none⟩) := hout 5 (outB_spec (by kernel_rfl))
        refine Does.val (.pointer (some ⟨w1.heap.size, 0, none⟩)) (w' := w) ?_ ⟨Tg.refl _ _, rfl, hG.same (by decide)⟩
        simp only [Array.getD_eq_getD_getElem?] at e5
        go_simp
      · intro listed σ w a hin hout hl hla hs hc hp hG hF
        refine Guarded.none rfl ?_
        have e18 : a.tmps.getD 18 undef = .pointer (some ⟨w1.heap.size, 0, none⟩) := (hin 0 18 rfl (hp ⟨0, .data⟩ (by simp) rfl)).trans (hF 0 (hp ⟨0, .data⟩ (by simp) rfl))
        have CC := SOF.out w (hG.1 (un_next (k := 7) hc hl (by kernel_rfl))); obtain C0 := CC
        refine Does.val (.slice A4 q c4) (w' := w) ?_ ⟨Tg.refl _ _, rfl, hG.same (by decide)⟩
        go_simp
      · intro listed σ w a hin hout hl hla hs hc hp hG hF
        refine Guarded.none rfl ?_
        have e6 : a.tmps.getD 6 undef = .int .i64 (q : Int) := hout 6 (outB_spec (by kernel_rfl))
        refine Does.val (.int .i64 (q : Int)) (w' := w) ?_ ⟨Tg.refl _ _, rfl, hG.same (by decide)⟩
        simp only [Array.getD_eq_getD_getElem?] at e6
        go_simp
      · intro listed σ w a hin hout hl hla hs hc hp hG hF
        refine Guarded.none rfl ?_
        have e7 : a.tmps.getD 7 undef = .int .i64 x := hout 7 (outB_spec (by kernel_rfl))
        refine Does.val (.int .i64 x) (w' := w) ?_ ⟨Tg.refl _ _, rfl, hG.same (by decide)⟩
        simp only [Array.getD_eq_getD_getElem?] at e7
        go_simp
      · intro listed σ w a hin hout hl hla hs hc hp hG hF
        refine Guarded.none rfl ?_
        have e21 : a.tmps.getD 21 undef = .int .i64 x := (hin 3 21 rfl (hp ⟨3, .data⟩ (by simp) rfl)).trans (hF 3 (hp ⟨3, .data⟩ (by simp) rfl))
        refine Does.call ?_ (HF6.out w (hG.1 (un_next (k := 7) hc hl (by kernel_rfl)))) ?_
        · go_simp; (try exact eg _ _)
        · rintro e w' ⟨v, rfl, z, hb⟩
          exact ⟨_, rfl, Tg.of_below hb, (by obtain ⟨s, B, m, d, rfl⟩ := z.form; exact ⟨s, B, m, d, rfl, z⟩), hG.call (by decide) (un_next (k := 7) hc hl (by kernel_rfl)) hb⟩
      · intro listed σ w a hin hout hl hla hs hc hp hG hF
        refine Guarded.none rfl ?_
        have e20 : a.tmps.getD 20 undef = .int .i64 (q : Int) := (hin 2 20 rfl (hp ⟨2, .data⟩ (by simp) rfl)).trans (hF 2 (hp ⟨2, .data⟩ (by simp) rfl))
        have e22 := hin 4 22 rfl (hp ⟨4, .data⟩ (by simp) rfl)
        obtain ⟨s4, B4, m4, d4, ev4, z4⟩ := hF 4 (hp ⟨4, .data⟩ (by simp) rfl)
        rw [ev4] at e22
        refine Does.val (.agg #[.int .i64 (q : Int), .bool s4, .slice B4 m4 d4]) (w' := w) ?_ ⟨Tg.refl _ _, ⟨s4, B4, m4, d4, rfl, z4⟩, hG.same (by decide)⟩
        simp only [Array.getD_eq_getD_getElem?] at e20 e22
        go_simp
      · intro listed σ w a hin hout hl hla hs hc hp hG hF
        refine Guarded.none rfl ?_
        have e23 := hin 5 23 rfl (hp ⟨5, .data⟩ (by simp) rfl)
        obtain ⟨s5, B5, m5, d5, ev5, z5⟩ := hF 5 (hp ⟨5, .data⟩ (by simp) rfl)
        rw [ev5] at e23
        refine Does.val (.slice (some ⟨w.heap.size, 0, none⟩) 1 1) (w' := w.alloc (.cells #[.int .i64 (q : Int), .bool s5, .slice B5 m5 d5] 60)) ?_ ⟨Tg.of_below (bl_alloc w _), ⟨w.heap.size, s5, B5, m5, d5, rfl, (hG.1 (un_next (k := 7) hc hl (by kernel_rfl))).size, Box.new _ _ _, z5.alloc _⟩, hG.call (by decide) (un_next (k := 7) hc hl (by kernel_rfl)) (bl_alloc w _)⟩
        simp only [Array.getD_eq_getD_getElem?] at e23
        go_simp
      · intro listed σ w a hin hout hl hla hs hc hp hG hF
        refine Guarded.none rfl ?_
        have e19 : a.tmps.getD 19 undef = .slice A4 q c4 := (hin 1 19 rfl (hp ⟨1, .data⟩ (by simp) rfl)).trans (hF 1 (hp ⟨1, .data⟩ (by simp) rfl))
        have e24 := hin 6 24 rfl (hp ⟨6, .data⟩ (by simp) rfl)
        obtain ⟨g6, s6, B6, m6, d6, ev6, hg6, x6, z6⟩ := hF 6 (hp ⟨6, .data⟩ (by simp) rfl)
        rw [ev6] at e24
        have hl0 := hl
        have hB := hG.1 hl
        have hl := HL.out.below hB
        obtain ⟨i0, hi0, hz0, hz1, hz2⟩ := info_parts part_info
        obtain ⟨v', w', hr, h2, h3⟩ := run_append_lrow (P := Tryz.prog) w W1.heap.size 22 22 60 i0 _ 3 40 Tryz.underlying22 hi0 hz0 hz1 hz2 rfl (by decide) part_zero_nls (.slice A4 q c4) q (flat rs) hl ⟨g6, 0, none⟩ 1 1 (flat [⟨(q : Int), s6, B6, m6, d6, x⟩]) rfl (fun jj u hu => by rw [addr_add, Nat.zero_add]; exact x6.cell jj u (by simpa [flat, PV.cells] using hu)) (flat_one _) (flat_nls _) (by unfold maxLen; omega) (by omega) (Nat.le_trans HWS.out hB.size)
        have hk := hl.kp h3
        refine Does.val v' (w' := w') ?_ ⟨⟨h3, hk⟩, trivial, GA.on_ hl0 (by rw [hs]; decide) ⟨⟨(q : Int), s6, B6, m6, d6, x⟩, rfl, rfl, ?_, z6.kp hk, ⟨World.grownBy.trans2 hB h3, (Kp.of_below hB).trans hk⟩⟩⟩
        · exact exec_append rfl e19 e24 hr
        · rw [flat_append, List.length_append, HRL.out]; exact h2
      · intro listed σ w a hin hout hl hla hs hc hp hG hF
        refine Guarded.none rfl ?_
        have e5 : a.tmps.getD 5 undef = .pointer (some ⟨w1.heap.size, 0, none⟩) := hout 5 (outB_spec (by kernel_rfl))
        refine Does.val (.pointer (some ⟨w1.heap.size, 0, none⟩)) (w' := w) ?_ ⟨Tg.refl _ _, rfl, hG.same (by decide)⟩
        simp only [Array.getD_eq_getD_getElem?] at e5
        go_simp
    · intro o ho
      injection ho with ho; subst ho
      intro listed σ w a hall hin hout hG hF
      refine Guarded.none rfl ?_
      have e26 : a.tmps.getD 26 undef = .pointer (some ⟨w1.heap.size, 0, none⟩) := (hin 8 26 rfl (by decide)).trans (hF 8 (by decide))
      have e25 := hin 7 25 rfl (by decide)
      have z7 := hF 7 (by decide)
      obtain ⟨p2, e1, e2, l2, z2, tg⟩ := hG.2 (hall 7 (by decide))
      have hlr := HL.out
      have x9 := HXG.out.grown tg.1 (fun e => hlr.offTerm HXG.out e.symm)
      obtain ⟨A2, c2, hv2, -, -, -⟩ := l2.len
      have hlen2 : (rs ++ [p2]).length = q + 1 := by simp [HRL.out]
      rw [hlen2] at hv2
      rw [hv2] at e25 l2
      have u0 := x9.c0
      have u1 := x9.fr 0
      refine Does.skip (w' := w.setCell ⟨w1.heap.size, 0, none⟩ (.slice A2 (q + 1) c2)) (by go_simp) ?_
      have HE2 := hide (EachRel2.step (f := fun z => z) HXG.out hlr HRL.out HLI.out HRZ.out HZK.out HOW.out HKW.out HLp.out e1 e2 l2 z2 tg)
      rw [show fin _ σ undef _ = (Act.put (Act.put (Act.put (Act.put (Act.put (Act.put (Act.put (Act.put (Act.put (Act.put _ (some 18) (σ 0)) (some 19) (σ 1)) (some 20) (σ 2)) (some 21) (σ 3)) (some 22) (σ 4)) (some 23) (σ 5)) (some 24) (σ 6)) (some 25) (σ 7)) (some 26) (σ 8)) none undef) from (fin_all hall).trans rfl]
      simp only [Act.put, List.setIfInBounds_toArray, List.set_cons_zero, List.set_cons_succ]
      generalize σ 0 = tt0; generalize σ 1 = tt1; generalize σ 2 = tt2; generalize σ 3 = tt3; generalize σ 4 = tt4; generalize σ 5 = tt5; generalize σ 6 = tt6; generalize σ 7 = tt7 at *; generalize σ 8 = tt8
      clear hF hG hall hin hout SOF HF6 HRW l2 z2 tg x9 u0 u1 hlen2
      generalize w.setCell ⟨w1.heap.size, 0, none⟩ (.slice A2 (q + 1) c2) = w8 at *
      go_wp2_with fail
      go_roundw
      case rel => exact ⟨q + 1, by omega, by go_num, HE2⟩
      case measure => simp [intOf] <;> omega
  · obtain rfl : q = n := by omega
    have hL2 := hide (show lin rs = ofs xs by
      rw [hlin, List.take_of_length_le (by rw [ofs_length]; have := HLN.out; omega)]
      simp)
    have hR := XR.out.other oW (by have := hz3.out; omega)
    obtain ⟨A', c', hv', hc1', hc2', -⟩ := lr.len
    injection hv' with e1' e2' e3'
    subst e1' e3'
    have HOP := hide (show OwnParts wr w0.heap.size (.slice A4 q c4) q (lin rs) 2 from ⟨rs, lr.rebase HW1.out.size, hrl, rfl, hrz⟩)
    have HZK := hide zK
    have HB := hide hT
    have HR5 := hide hR
    have x0 := xg.c0
    have x1 := xg.c1
    have x2 := xg.c2
    clear lr hrl hlin hrz zK oW kW HR xg hT
    go_wp2_with (with_reducible refine wpList_store_t rfl _ _ rfl w0.heap.size _ _ _ _ _ _ _ rfl rfl _ _ _ hR ?_; intro w7 k7 ho7)
    refine bodyPost_t rfl rfl k7 rfl ?_
    have hk := HR5.out.kp (nlT _ _ _ _ _ _ _) ho7
    refine ⟨A4, c4, s4, B4, m4, d4, rfl, ?_, hc1', hc2', HZK.out.kp hk, zback HB.out (by omega) ho7⟩
    rw [← hL2.out]
    obtain ⟨ts, g1, g2, g3, g4⟩ := HOP.out
    exact ⟨ts, g1.onlyTerm HR5.out ho7, g2, g3, fun p hp => (g4 p hp).kp hk⟩
theorem lof4_any (K : Int) (A : Option Addr) (n c : Nat) (xs : List Int) (w0 : World) (hx : IIn w0 A n xs) (hk1 : -9223372036854775808 ≤ K) (hk2 : K ≤ 9223372036854775807) (hxs : ∀ x ∈ xs, -9223372036854775808 ≤ x ∧ x ≤ 9223372036854775807) (hn1 : n ≤ 1099511) : Calls Tryz.prog 27 #[.int .i64 K, .slice A n c] w0 (TPost (ofs xs) K 2 w0) :=
 (lof4_own K A n c xs w0 hx hk1 hk2 hxs hn1).mono fun _ _ h => h.res
end Go.Proofs.YtdeakieenppmiaaGreatDoor
/- Parts are kept where only the box of an api.Int turns. -/
namespace Go.Proofs.YtdeakieenppmiaaGreatDoor
open Go.RowKit

theorem Only.next {g : Nat} {a b c : World} (h : Only g a b) (k : Below b.heap.size b c) : Only g a c := h.trans ⟨k.os, k.tape, k.output, k.size, fun i hi _ => k.block i hi⟩
theorem PIn.offInt {w : World} {A B : Option Addr} {n k g m d : Nat} {s : Bool} {L : List (Int × Int)} (h : PIn w A n L k) (hb : Blk w g #[.bool s, .slice B m d]) : 0 < n → Apart A g := by
 obtain ⟨ps, h, -⟩ := h
 intro hn ad had he
 obtain ⟨b, o, e, hc⟩ := h.2.1 hn
 have hl : 0 < ps.length := by rw [h.1]; exact hn
 obtain ⟨g0, -, -⟩ := flat_get ps 0 ps[0] (List.getElem?_eq_getElem hl)
 have h0 := hc 0 _ g0
 rw [had] at e
 injection e with e
 subst e
 have he' : b = g := he
 subst he'
 rw [cell_of_row w b _ _ _ _ hb] at h0
 match o, h0 with
 | 0, h0 => simp at h0
 | 1, h0 => simp at h0
 | o + 2, h0 => simp at h0
theorem Blk.kpI {w w' : World} {g m d : Nat} {s : Bool} {B : Option Addr} (hb : Blk w g #[.bool s, .slice B m d]) (ho : Only g w w') : Kp w w' := Kp.block hb (nl2 (NL.bool _) (NL.slice _ _ _)) ho
theorem PIn.onlyInt {w w' : World} {A B : Option Addr} {n k g m d : Nat} {s : Bool} {L : List (Int × Int)} (h : PIn w A n L k) (hb : Blk w g #[.bool s, .slice B m d]) (ho : Only g w w') : PIn w' A n L k :=
 h.keep ho (hb.kpI ho) (h.offInt hb)
end Go.Proofs.YtdeakieenppmiaaGreatDoor
/- A value of api.Rel (four cells), and its variable. -/
namespace Go.Proofs.YtdeakieenppmiaaGreatDoor
open Go.RowKit

section
variable {T : TypeId} {w w' : World} {g k j : Nat} {x y z u v : Value} {L : List (Int × Int)} {K : Int} {e : Bool}
theorem Box.r0 (h : Box T w g #[x, y, z, u]) : w.cell? ⟨g, 0, none⟩ = some x := h.cell 0 x rfl
theorem Box.r1 (h : Box T w g #[x, y, z, u]) : w.cell? ⟨g, 1, none⟩ = some y := h.cell 1 y rfl
theorem Box.r2 (h : Box T w g #[x, y, z, u]) : w.cell? ⟨g, 2, none⟩ = some z := h.cell 2 z rfl
theorem Box.r3 (h : Box T w g #[x, y, z, u]) : w.cell? ⟨g, 3, none⟩ = some u := h.cell 3 u rfl
theorem nl4 (hx : NL x) (hy : NL y) (hz : NL z) (hu : NL u) : NLs (#[x, y, z, u] : Array Value).toList := by
 intro t ht
 simp at ht
 rcases ht with rfl | rfl | rfl | rfl <;> assumption
theorem nlR (A B : Option Addr) (n c m d : Nat) (s e : Bool) : NLs (#[.slice A n c, .bool s, .slice B m d, .bool e] : Array Value).toList := nl4 (NL.slice _ _ _) (NL.bool _) (NL.slice _ _ _) (NL.bool _)
theorem wpList_store_r {w : World} {ops : Array Oper} {rest : List Oper} {o : Oper} {a : Act} {Q : Exit → Act → World → Prop} (hgd : o.guard = none) (x y : Operand) (ho : o.op = .store 30 x y)
  (g : Nat) (s e : Bool) (A B : Option Addr) (n c m d : Nat) (hx : a.eval x = .pointer (some ⟨g, 0, none⟩)) (hy : a.eval y = .agg #[.slice A n c, .bool s, .slice B m d, .bool e]) (u v z t : Value) (hb : Box 30 w g #[u, v, z, t])
  (h : ∀ w', Box 30 w' g #[.slice A n c, .bool s, .slice B m d, .bool e] → Only g w w' → wpList Tryz.prog ops Q rest (a.put o.dst undef) w') : wpList Tryz.prog ops Q (o :: rest) a w :=
 wpList_store_box hgd 30 x y ho g _ hx hy _ hb (by kernel_rfl) rfl (by simp [Value.oneCell']) h
theorem bodyPost_r {fn : Func} {R : Ending → World → Prop} {a : Act} {w : World} {g p : Nat} {x y z u : Value} (hres : fn.results = #[.cell p 30]) (hp : a.tmps.getD p undef = .pointer (some ⟨g, 0, none⟩))
  (hb : Box 30 w g #[x, y, z, u]) (hd : a.defers = []) (hR : R (.returned (.agg #[x, y, z, u])) w) : bodyPost Tryz.prog fn R .ret a w :=
 bodyPost_ret (results_cell_row hres _ _ g _ #[x, y, z, u] _ _ hp hb Tryz.underlying30 rfl (by kernel_rfl)) hd hR
/-- The value reads as a relation: its term's parts and number, whether it is an equation. -/
def RIn (w : World) (v : Value) (L : List (Int × Int)) (K : Int) (e : Bool) (k : Nat) : Prop := ∃ A n c s B m d, v = .agg #[.slice A n c, .bool s, .slice B m d, .bool e] ∧ TIn w (.agg #[.slice A n c, .bool s, .slice B m d]) L K k
def RRes (w : World) (v : Value) (L : List (Int × Int)) (K : Int) (e : Bool) (k : Nat) : Prop := ∃ A n c s B m d, v = .agg #[.slice A n c, .bool s, .slice B m d, .bool e] ∧ TRes w (.agg #[.slice A n c, .bool s, .slice B m d]) L K k
theorem RIn.below (h : RIn w v L K e k) (hb : Below w.heap.size w w') : RIn w' v L K e k := by
 obtain ⟨A, n, c, s, B, m, d, rfl, h⟩ := h; exact ⟨A, n, c, s, B, m, d, rfl, h.below hb⟩
theorem RRes.below (h : RRes w v L K e k) (hb : Below w.heap.size w w') : RRes w' v L K e k := by
 obtain ⟨A, n, c, s, B, m, d, rfl, h⟩ := h; exact ⟨A, n, c, s, B, m, d, rfl, h.below hb⟩
theorem RRes.mono (h : RRes w v L K e k) (hj : k ≤ j) : RRes w v L K e j := by
 obtain ⟨A, n, c, s, B, m, d, rfl, h⟩ := h; exact ⟨A, n, c, s, B, m, d, rfl, h.mono hj⟩
theorem RRes.in_ (h : RRes w v L K e k) : RIn w v L K e k := by
 obtain ⟨A, n, c, s, B, m, d, rfl, h⟩ := h; exact ⟨A, n, c, s, B, m, d, rfl, h.in_⟩
theorem RRes.ofEq {M : List (Int × Int)} {J : Int} {f : Bool} (h : RRes w v L K e k) (e1 : L = M) (e2 : K = J) (e3 : e = f) : RRes w v M J f k := e1 ▸ e2 ▸ e3 ▸ h
theorem PIn.offRel {A B C : Option Addr} {n m c d q : Nat} {s f : Bool} (h : PIn w A n L k) (hb : Box 30 w g #[.slice B m c, .bool s, .slice C q d, .bool f]) : 0 < n → Apart A g := by
 obtain ⟨ps, h, -⟩ := h
 intro hn ad had he
 obtain ⟨b, o, e, hc⟩ := h.2.1 hn
 have hl : 0 < ps.length := by rw [h.1]; exact hn
 obtain ⟨g0, -, -⟩ := flat_get ps 0 ps[0] (List.getElem?_eq_getElem hl)
 have h0 := hc 0 _ g0
 rw [had] at e
 injection e with e
 subst e
 have he' : b = g := he
 subst he'
 rw [cell_of_row w b _ _ _ _ hb] at h0
 match o, h0 with
 | 0, h0 => simp at h0
 | 1, h0 => simp at h0
 | 2, h0 => simp at h0
 | 3, h0 => simp at h0
 | o + 4, h0 => simp at h0
/-- A term is what it was behind a store into a relation's variable. -/
theorem TRes.onlyR {B C : Option Addr} {m c d q : Nat} {s f : Bool} (h : TRes w v L K k) (hb : Box 30 w g #[.slice B m c, .bool s, .slice C q d, .bool f]) (ho : Only g w w') : TRes w' v L K k := by
 have hk : Kp w w' := hb.kp (nlR _ _ _ _ _ _ _ _) ho
 obtain ⟨A, n, c, s, B, m, d, e, h1, h2, h3, h4⟩ := h
 exact ⟨A, n, c, s, B, m, d, e, h1.keep ho hk (h1.in_.offRel hb), h2, h3, h4.kp hk⟩
end
theorem TIn.opn {w : World} {A B : Option Addr} {n c m d k : Nat} {s : Bool} {L : List (Int × Int)} {K : Int} (h : TIn w (.agg #[.slice A n c, .bool s, .slice B m d]) L K k) : PIn w A n L k ∧ n ≤ c ∧ c ≤ 9223372036854775807 ∧ ZIn w (.agg #[.bool s, .slice B m d]) K k := by
 obtain ⟨A', n', c', s', B', m', d', e, h1, h2, h3, h4⟩ := h
 have e2 : A' = A ∧ n' = n ∧ c' = c ∧ s' = s ∧ B' = B ∧ m' = m ∧ d' = d := by simpa [eq_comm, and_assoc] using e
 obtain ⟨rfl, rfl, rfl, rfl, rfl, rfl, rfl⟩ := e2
 exact ⟨h1, h2, h3, h4⟩
theorem TRes.opn {w : World} {A B : Option Addr} {n c m d k : Nat} {s : Bool} {L : List (Int × Int)} {K : Int} (h : TRes w (.agg #[.slice A n c, .bool s, .slice B m d]) L K k) : PRes w A n L k ∧ n ≤ c ∧ c ≤ 9223372036854775807 ∧ ZRes w (.agg #[.bool s, .slice B m d]) K k := by
 obtain ⟨A', n', c', s', B', m', d', e, h1, h2, h3, h4⟩ := h
 have e2 : A' = A ∧ n' = n ∧ c' = c ∧ s' = s ∧ B' = B ∧ m' = m ∧ d' = d := by simpa [eq_comm, and_assoc] using e
 obtain ⟨rfl, rfl, rfl, rfl, rfl, rfl, rfl⟩ := e2
 exact ⟨h1, h2, h3, h4⟩
def RPost (L : List (Int × Int)) (K : Int) (e : Bool) (k : Nat) (w : World) (en : Ending) (w' : World) : Prop := ∃ v, en = .returned v ∧ RRes w' v L K e k ∧ Below w.heap.size w w'
end Go.Proofs.YtdeakieenppmiaaGreatDoor
/- term.Vars. -/
namespace Go.Proofs.YtdeakieenppmiaaGreatDoor
open Go.RowKit
open Tm

def TVarsRel (W1 : World) (L : List (Int × Int)) (q : Nat) (sv : Value) (wr : World) : Prop := LRow 3 1 wr W1.heap.size sv ((L.take q).map Prod.fst).length (ints ((L.take q).map Prod.fst)) ∧ Below W1.heap.size W1 wr
theorem cellI2 (w : World) (o : Obj) (x : Int) (T : TypeId) : ((w.alloc o).alloc (.cells #[.int .i64 x] T)).cell? ⟨w.heap.size + 1, 0, none⟩ = some (.int .i64 x) := by
 have h := cellI (w.alloc o) x T
 rw [size_alloc] at h
 exact h
theorem fst_take_succ (L : List (Int × Int)) (q : Nat) (u c : Int) (h : L[q]? = some (u, c)) : (L.take (q + 1)).map Prod.fst = (L.take q).map Prod.fst ++ [u] := by
 rw [List.take_add_one, h]; simp
theorem tvars_any (v : Value) (L : List (Int × Int)) (K : Int) (k : Nat) (w0 : World) (hv : TIn w0 v L K k) (hl : L.length ≤ 1099511) (hk : k ≤ 1099511627) : Calls Tryz.prog 68 #[v] w0 (IPost (vars L) w0) := by
 obtain ⟨A, n, c, s, B, m, d, rfl, hp, hc1, hc2, -⟩ := hv
 have hn := hp.len
 obtain ⟨z0, z1, -⟩ := bstart1 28 w0 #[.slice A n c, .bool s, .slice B m d]
 have hpl := plain_any A n c L k _ (hp.below z1) hc1 hc2 (by omega) hk
 have x0 := z0.c0
 have HNL := hide (norm_length L)
 rw [hn] at hl
 have HN := hide hn
 clear hn
 go_enter Tryz.func68, Tryz.ntmps68
 go_wp2_with fail
 refine hpl.mono ?_
 rintro e W1 ⟨A1, n1, c1, rfl, p1, h11, h12, b1⟩
 have HT1 := hide (z1.next b1)
 have hn1 : n1 ≤ 1099511 := by have := p1.len; have := HNL.out; have := HN.out; omega
 have HP1 := hide p1
 have HS := hide (show TVarsRel W1 (norm L) 0 (.slice none 0 0) W1 from ⟨LRow.nil _ _ _ _, Below.refl _ _⟩)
 clear x0 hpl z0 z1 b1 p1 hp
 go_wp2_with fail
 go_loopw [3, 10] (fun sv i wr => ∃ q : Nat, q ≤ n1 ∧ i = .int .i64 q ∧ Hid (TVarsRel W1 (norm L) q sv wr)) (fun _ i _ => n1 - (intOf i).toNat)
 case atStart => exact ⟨0, Nat.zero_le _, rfl, HS⟩
 case round =>
  obtain ⟨q, hq, rfl, HR⟩ := hrel
  obtain ⟨lr, hB⟩ := HR.out
  have hsz := hB.size
  by_cases hqn : q < n1
  · obtain ⟨bb, o, p, rfl, hlt, hLp, c0, c1x, c2, -⟩ := (HP1.out.below hB).at_ hqn
    have y1 := bl_alloc wr (.cells #[.int .i64 p.v, .bool p.s, .slice p.B p.m p.d] 60)
    have HL1 := hide (lr.below y1)
    have HB1 := hide (hB.trans (y1.mono hsz))
    have hsz1 := HB1.out.size
    have HE := hide (fst_take_succ (norm L) q _ _ hLp)
    have hle : (((norm L).take q).map Prod.fst).length ≤ 1099511627 := by rw [List.length_map]; have := List.length_take_le q (norm L); omega
    generalize ((norm L).take q).map Prod.fst = os at *
    clear hLp lr hB HR y1
    go_wp2_with (at_builtin; refine wpList_append_int rfl _ _ rfl W1.heap.size _ os rfl (HL1.out.below (bl_alloc _ _)) _ p.v rfl (cellI2 _ _ _ _) hle (Nat.le_trans hsz1 (bl_alloc _ _).size) ?_; intro v' w1 l1 g1)
    have HE1 := hide (show TVarsRel W1 (norm L) (q + 1) v' w1 from ⟨by rw [HE.out]; exact l1, (HL1.out.below (bl_alloc _ _)).old (HB1.out.trans ((bl_alloc _ _).mono hsz1)) g1 (Nat.le_refl _) (Nat.le_refl _)⟩)
    clear l1 g1 c0 c1x c2
    go_wp2_with fail
    go_roundw
    case rel => exact ⟨q + 1, by omega, by go_num, HE1⟩
    case measure => simp [intOf] <;> omega
  · obtain rfl : q = n1 := by omega
    have hV : ((norm L).take q).map Prod.fst = vars L := by rw [List.take_of_length_le (by rw [HP1.out.len]; exact Nat.le_refl _)]; rfl
    rw [hV] at lr
    obtain ⟨A9, c9, hv9, h91, h92, -⟩ := lr.len
    subst hv9
    have HL := hide lr
    have HB := hide hB
    clear lr hB HR hV
    go_wp2_with fail
    go_ret
    exact ⟨A9, c9, rfl, HL.out.ints_in, h91, h92, HT1.out.trans (HB.out.mono HT1.out.size)⟩
end Go.Proofs.YtdeakieenppmiaaGreatDoor
