/- Texts of one seat, put together: RWithout RVar SameInts. -/
import Derived.Test.YtakcgkohnomgjaaGreatDoorC28
import Derived.Test.YtakcgkohnomgjaaGreatDoorC42
import Derived.Test.YtakcgkohnomgjaaGreatDoorC26
set_option linter.unusedVariables false
set_option linter.unusedSimpArgs false
/- plumblineref03.Without. -/
namespace Go.Proofs.YtakcgkohnomgjaaGreatDoor
open Go.RowKit
open Tm

theorem without_length (L : List (Int × Int)) (x : Int) : (without L x).length ≤ L.length := List.length_filter_le _ _
theorem without_take (L : List (Int × Int)) (x : Int) (q : Nat) (u c : Int) (h : L[q]? = some (u, c)) : without (L.take (q + 1)) x = without (L.take q) x ++ (if u = x then [] else [(u, c)]) := by
  unfold without
  rw [List.take_add_one, h, List.filter_append]
  by_cases hx : u = x <;> simp [hx]
/-- How far the loop has come; it began in W2, the list's variable is box g. -/
def WoRel (W2 : World) (g : Nat) (L : List (Int × Int)) (x K : Int) (k q : Nat) (wr : World) : Prop :=
  ∃ (rs : List PV) (A : Option Addr) (r c : Nat) (s : Bool) (B : Option Addr) (m d : Nat), Box 28 wr g #[.slice A r c, .bool s, .slice B m d] ∧ LRow 55 3 wr W2.heap.size (.slice A r c) r (flat rs) ∧ rs.length = r ∧ r ≤ q ∧
    lin rs = without (L.take q) x ∧ (∀ p ∈ rs, ZIn wr p.num p.Z k) ∧ ZIn wr (.agg #[.bool s, .slice B m d]) K k ∧ Only g W2 wr ∧ Kp W2 wr
theorem WoRel.step {W2 W6 w : World} {g r q c4 m4 d4 c2 k : Nat} {A4 B4 A2 : Option Addr} {s4 : Bool} {L : List (Int × Int)} {x K : Int} {rs : List PV} {p : PV}
    (xg : Box 28 W6 g #[.slice A4 r c4, .bool s4, .slice B4 m4 d4]) (lr : LRow 55 3 W6 W2.heap.size (.slice A4 r c4) r (flat rs)) (hrl : rs.length = r) (hrq : r ≤ q) (hlin : lin rs = without (L.take q) x)
    (hrz : ∀ p ∈ rs, ZIn W6 p.num p.Z k) (zK : ZIn W6 (.agg #[.bool s4, .slice B4 m4 d4]) K k) (oW : Only g W2 W6) (kW : Kp W2 W6) (hL : L[q]? = some (p.v, p.Z)) (hx : p.v ≠ x)
    (l2 : LRow 55 3 w W2.heap.size (.slice A2 (r + 1) c2) (rs ++ [p]).length (flat (rs ++ [p]))) (z2 : ZIn W6 p.num p.Z k) (tg : Tg (Value.slice A4 r c4).ownBlock W6 w) :
    WoRel W2 g L x K k (q + 1) (w.setCell ⟨g, 0, none⟩ (.slice A2 (r + 1) c2)) := by
  have hne : some g ≠ (Value.slice A4 r c4).ownBlock := fun e => lr.offTerm xg e.symm
  have x9 := xg.grown tg.1 hne
  have o9 := only_set1 w g 0 (.slice A2 (r + 1) c2)
  have hk := x9.kp (nlT _ _ _ _ _ _ _) o9
  have hlen : (rs ++ [p]).length = r + 1 := by simp [hrl]
  rw [hlen] at l2
  have oW9 : Only g W2 w := ⟨tg.1.os.trans oW.os, tg.1.tape.trans oW.tape, tg.1.output.trans oW.output, Nat.le_trans oW.size tg.1.size, fun b hb hbn =>
    (tg.1.block b (Nat.lt_of_lt_of_le hb oW.size) (fun e => by have := (lr.lt b e.symm).1; omega)).trans (oW.block b hb hbn)⟩
  refine ⟨rs ++ [p], A2, r + 1, c2, s4, B4, m4, d4, x9.set_0 _, l2.onlyTerm x9 o9, hlen, by omega, ?_, fun y hy => ?_, (zK.kp tg.2).kp hk, oW9.trans o9, (kW.trans tg.2).trans hk⟩
  · rw [lin_append, hlin, without_take L x q _ _ hL, if_neg hx]
    rfl
  · rcases List.mem_append.1 hy with hy | hy
    · exact ((hrz y hy).kp tg.2).kp hk
    · simp at hy; subst hy; exact (z2.kp tg.2).kp hk
theorem WoRel.skip {W2 W6 : World} {g q k : Nat} {L : List (Int × Int)} {x K c : Int} (h : WoRel W2 g L x K k q W6) (hL : L[q]? = some (x, c)) : WoRel W2 g L x K k (q + 1) W6 := by
  obtain ⟨rs, A4, r, c4, s4, B4, m4, d4, xg, lr, hrl, hrq, hlin, hrz, zK, oW, kW⟩ := h
  refine ⟨rs, A4, r, c4, s4, B4, m4, d4, xg, lr, hrl, by omega, ?_, hrz, zK, oW, kW⟩
  rw [hlin, without_take L x q _ _ hL, if_pos rfl, List.append_nil]
set_option maxRecDepth 100000 in
set_option maxHeartbeats 4000000 in
theorem rwithout_any (v : Value) (L : List (Int × Int)) (K x : Int) (k : Nat) (w0 : World) (hv : TIn w0 v L K k) (hl : L.length ≤ 1099511) (hk : k ≤ 109951162) : Calls Tryz.prog 18 #[v, .int .i64 x] w0 (TPost (norm (without L x)) K (k + L.length) w0) := by
  obtain ⟨A, n, c, s, B, m, d, rfl, hp, hc1, hc2, hK⟩ := hv
  have hln : L.length = n := hp.len
  obtain ⟨z0, z1, z2, z3, z4⟩ := bstart3 28 28 28 w0 #[.slice A n c, .bool s, .slice B m d] #[.slice none 0 0, .bool false, .slice none 0 0] #[.slice none 0 0, .bool s, .slice B m d]
  have y1 := (Box.new 28 w0 #[.slice A n c, .bool s, .slice B m d]).alloc (.cells #[.slice none 0 0, .bool false, .slice none 0 0] 28)
  have x1 := y1.c1
  have x2 := y1.c2
  have HR1 := hide (hK.below z3)
  have XB := hide z2
  have XP := hide z0
  have XR := hide z1
  have HW1 := hide z3
  have HPP := hide hp
  have HLN := hide hln
  go_enter Tryz.func18, Tryz.ntmps18
  go_wp2_with fail
  have HG8 := hide z4
  clear x1 x2 y1 z0 z1 z2 z3 z4 hp hK hln
  generalize hW1 : ((w0.alloc (.cells #[.slice A n c, .bool s, .slice B m d] 28)).alloc (.cells #[.slice none 0 0, .bool false, .slice none 0 0] 28)).alloc (.cells #[.slice none 0 0, .bool s, .slice B m d] 28) = W1 at *
  clear hW1
  have HE := hide (show WoRel W1 (w0.heap.size + 1 + 1) L x K k 0 W1 from
    ⟨[], none, 0, 0, s, B, m, d, XB.out, LRow.nil _ _ _ _, rfl, Nat.le_refl _, rfl, fun p hp => by simp at hp, HR1.out, Only.refl _ _, Kp.refl _⟩)
  go_loopw [6] (fun i wr => ∃ q : Nat, q ≤ n ∧ i = .int .i64 q ∧ Hid (WoRel W1 (w0.heap.size + 1 + 1) L x K k q wr)) (fun i _ => n - (intOf i).toNat)
  case atStart => exact ⟨0, Nat.zero_le _, rfl, HE⟩
  case round =>
    obtain ⟨q, hq, rfl, HR⟩ := hrel
    obtain ⟨rs, A4, r, c4, s4, B4, m4, d4, xg, lr, hrl, hrq, hlin, hrz, zK, oW, kW⟩ := HR.out
    have hT : Below w0.heap.size w0 wr := HW1.out.trans (oW.below HW1.out.size (by omega))
    have zt := XP.out.other oW (by omega)
    have za := zt.c0
    have hn1 : n ≤ 1099511 := by have := HLN.out; omega
    by_cases hqn : q < n
    · obtain ⟨bb, o, p, rfl, hlt, hLp, c0, c1, c2, hz⟩ := (HPP.out.below hT).at_ hqn
      have HLp := hide hLp
      by_cases hpx : p.v = x
      · have HE2 := hide (WoRel.skip HR.out (by rw [HLp.out, hpx]))
        clear xg lr hrl hlin hrz zK oW kW hT hLp c1 c2 hz zt HR hrq
        rw [hpx] at c0
        go_wp2_with fail
        go_roundw
        case rel => exact ⟨q + 1, by omega, by go_num, HE2⟩
        case measure => simp [intOf] <;> omega
      have HXG := hide xg
      have HL := hide lr
      have HRL := hide hrl
      have HLI := hide hlin
      have HRZ := hide hrz
      have HZK := hide zK
      have HOW := hide oW
      have HKW := hide kW
      have HWS := hide oW.size
      have HTT := hide hT
      have HZP := hide hz
      have HPX := hide hpx
      have hpb : (p.v != x) = true := by simpa using hpx
      have HRW := hide (show ∀ gs, (Value.slice A4 r c4).ownBlock = some gs → gs < wr.heap.size from fun gs e => (lr.lt gs e).2)
      have SOF := hide (show ∀ W, Below wr.heap.size wr W → (W.cell? ⟨w0.heap.size + 1 + 1, 0, none⟩ = some (.slice A4 r c4) ∧ W.cell? ⟨bb, o + q * 3, none⟩ = some (.int .i64 p.v) ∧ W.cell? ⟨bb, o + q * 3 + 1, none⟩ = some (.bool p.s) ∧ W.cell? ⟨bb, o + q * 3 + 2, none⟩ = some (.slice p.B p.m p.d) ∧ W.cell? ⟨w0.heap.size, 0, none⟩ = some (.slice (some ⟨bb, o, none⟩) n c)) from fun W h => ⟨(HXG.out.next h).c0, (h.cell (p := ⟨bb, o + q * 3, none⟩) hlt).trans c0, (h.cell (p := ⟨bb, o + q * 3 + 1, none⟩) hlt).trans c1, (h.cell (p := ⟨bb, o + q * 3 + 2, none⟩) hlt).trans c2, (zt.next h).c0⟩)
      have HQR := hide hrq
      clear xg lr hrl hlin hrz zK oW kW hT hLp c1 c2 hz zt HR hpx
      go_wp2_with fail
      clear za c0
      refine wp_drawnL (by kernel_rfl) (by kernel_rfl) (by kernel_rfl) (by kernel_rfl) (Tg (Value.slice A4 r c4).ownBlock) (fun j v w => match j with | 0 => v = .pointer (some ⟨w0.heap.size + 1 + 1, 0, none⟩) | 1 => v = .slice A4 r c4 | 2 => v = .pointer (some ⟨w0.heap.size, 0, none⟩) | 3 => v = .slice (some ⟨bb, o, none⟩) n c | 4 => v = .int .i64 (q : Int) | 5 => v = .pointer (some ⟨bb, o + q * 3, none⟩) | 6 => v = .agg #[.int .i64 p.v, .bool p.s, .slice p.B p.m p.d] | 7 => ∃ gs, v = .slice (some ⟨gs, 0, none⟩) 1 1 ∧ wr.heap.size ≤ gs ∧ Box 55 w gs #[.int .i64 p.v, .bool p.s, .slice p.B p.m p.d] | 8 => True | 9 => v = .pointer (some ⟨w0.heap.size + 1 + 1, 0, none⟩) | _ => True) (GA 8 wr (fun v w => LRow 55 3 w W1.heap.size v (rs ++ [p]).length (flat (rs ++ [p])) ∧ Tg (Value.slice A4 r c4).ownBlock wr w)) ?_ (fun _ => GA.start _ (bl_drewN wr 1)) ?_ ?_
      · intro j v w w' hT h
        match j, h with
        | 0, h => exact h
        | 1, h => exact h
        | 2, h => exact h
        | 3, h => exact h
        | 4, h => exact h
        | 5, h => exact h
        | 6, h => exact h
        | 7, h => exact (by obtain ⟨gs, e, h1, h2⟩ := h; exact ⟨gs, e, h1, h2.grown hT.1 (fun e => by have := HRW.out gs e.symm; omega)⟩)
        | 8, h => exact trivial
        | 9, h => exact h
        | j + 10, h => trivial
      · refine ⟨?_, ?_, ?_, ?_, ?_, ?_, ?_, ?_, ?_, ?_, trivial⟩
        · intro listed σ w a hin hout hl hla hs hc hp hG hF
          refine Guarded.none rfl ?_
          have e5 : a.tmps.getD 5 undef = .pointer (some ⟨w0.heap.size + 1 + 1, 0, none⟩) := hout 5 (outB_spec (by kernel_rfl))
          refine Does.val (.pointer (some ⟨w0.heap.size + 1 + 1, 0, none⟩)) (w' := w) ?_ ⟨Tg.refl _ _, rfl, hG.same (by decide)⟩
          simp only [Array.getD_eq_getD_getElem?] at e5
          go_simp
        · intro listed σ w a hin hout hl hla hs hc hp hG hF
          refine Guarded.none rfl ?_
          have e25 : a.tmps.getD 25 undef = .pointer (some ⟨w0.heap.size + 1 + 1, 0, none⟩) := (hin 0 25 rfl (hp ⟨0, .data⟩ (by simp) rfl)).trans (hF 0 (hp ⟨0, .data⟩ (by simp) rfl))
          have CC := SOF.out w (hG.1 (un_next (k := 8) hc hl (by kernel_rfl))); obtain ⟨C0, E0, E1, E2, F0⟩ := CC
          refine Does.val (.slice A4 r c4) (w' := w) ?_ ⟨Tg.refl _ _, rfl, hG.same (by decide)⟩
          go_simp
        · intro listed σ w a hin hout hl hla hs hc hp hG hF
          refine Guarded.none rfl ?_
          have e2 : a.tmps.getD 2 undef = .pointer (some ⟨w0.heap.size, 0, none⟩) := hout 2 (outB_spec (by kernel_rfl))
          refine Does.val (.pointer (some ⟨w0.heap.size, 0, none⟩)) (w' := w) ?_ ⟨Tg.refl _ _, rfl, hG.same (by decide)⟩
          simp only [Array.getD_eq_getD_getElem?] at e2
          go_simp
        · intro listed σ w a hin hout hl hla hs hc hp hG hF
          refine Guarded.none rfl ?_
          have e27 : a.tmps.getD 27 undef = .pointer (some ⟨w0.heap.size, 0, none⟩) := (hin 2 27 rfl (hp ⟨2, .data⟩ (by simp) rfl)).trans (hF 2 (hp ⟨2, .data⟩ (by simp) rfl))
          have CC := SOF.out w (hG.1 (un_next (k := 8) hc (un_next (k := 7) hc (un_next (k := 6) hc (un_next (k := 5) hc hl (by kernel_rfl)) (by kernel_rfl)) (by kernel_rfl)) (by kernel_rfl))); obtain ⟨C0, E0, E1, E2, F0⟩ := CC
          refine Does.val (.slice (some ⟨bb, o, none⟩) n c) (w' := w) ?_ ⟨Tg.refl _ _, rfl, hG.same (by decide)⟩
          go_simp
        · intro listed σ w a hin hout hl hla hs hc hp hG hF
          refine Guarded.none rfl ?_
          have e6 : a.tmps.getD 6 undef = .int .i64 (q : Int) := hout 6 (outB_spec (by kernel_rfl))
          refine Does.val (.int .i64 (q : Int)) (w' := w) ?_ ⟨Tg.refl _ _, rfl, hG.same (by decide)⟩
          simp only [Array.getD_eq_getD_getElem?] at e6
          go_simp
        · intro listed σ w a hin hout hl hla hs hc hp hG hF
          refine Guarded.none rfl ?_
          have e28 : a.tmps.getD 28 undef = .slice (some ⟨bb, o, none⟩) n c := (hin 3 28 rfl (hp ⟨3, .data⟩ (by simp) rfl)).trans (hF 3 (hp ⟨3, .data⟩ (by simp) rfl))
          have e29 : a.tmps.getD 29 undef = .int .i64 (q : Int) := (hin 4 29 rfl (hp ⟨4, .data⟩ (by simp) rfl)).trans (hF 4 (hp ⟨4, .data⟩ (by simp) rfl))
          refine Does.val (.pointer (some ⟨bb, o + q * 3, none⟩)) (w' := w) ?_ ⟨Tg.refl _ _, rfl, hG.same (by decide)⟩
          simp only [Array.getD_eq_getD_getElem?] at e28 e29
          go_simp
          (try (intro hh; exfalso; omega))
        · intro listed σ w a hin hout hl hla hs hc hp hG hF
          refine Guarded.none rfl ?_
          have e30 : a.tmps.getD 30 undef = .pointer (some ⟨bb, o + q * 3, none⟩) := (hin 5 30 rfl (hp ⟨5, .data⟩ (by simp) rfl)).trans (hF 5 (hp ⟨5, .data⟩ (by simp) rfl))
          have CC := SOF.out w (hG.1 (un_next (k := 8) hc (un_next (k := 7) hc hl (by kernel_rfl)) (by kernel_rfl))); obtain ⟨C0, E0, E1, E2, F0⟩ := CC
          refine Does.val (.agg #[.int .i64 p.v, .bool p.s, .slice p.B p.m p.d]) (w' := w) ?_ ⟨Tg.refl _ _, rfl, hG.same (by decide)⟩
          go_simp
        · intro listed σ w a hin hout hl hla hs hc hp hG hF
          refine Guarded.none rfl ?_
          have e31 : a.tmps.getD 31 undef = .agg #[.int .i64 p.v, .bool p.s, .slice p.B p.m p.d] := (hin 6 31 rfl (hp ⟨6, .data⟩ (by simp) rfl)).trans (hF 6 (hp ⟨6, .data⟩ (by simp) rfl))
          refine Does.val (.slice (some ⟨w.heap.size, 0, none⟩) 1 1) (w' := w.alloc (.cells #[.int .i64 p.v, .bool p.s, .slice p.B p.m p.d] 55)) ?_ ⟨Tg.of_below (bl_alloc w _), ⟨w.heap.size, rfl, (hG.1 (un_next (k := 8) hc hl (by kernel_rfl))).size, Box.new _ _ _⟩, hG.call (by decide) (un_next (k := 8) hc hl (by kernel_rfl)) (bl_alloc w _)⟩
          simp only [Array.getD_eq_getD_getElem?] at e31
          go_simp
        · intro listed σ w a hin hout hl hla hs hc hp hG hF
          refine Guarded.none rfl ?_
          have e26 : a.tmps.getD 26 undef = .slice A4 r c4 := (hin 1 26 rfl (hp ⟨1, .data⟩ (by simp) rfl)).trans (hF 1 (hp ⟨1, .data⟩ (by simp) rfl))
          have e32 := hin 7 32 rfl (hp ⟨7, .data⟩ (by simp) rfl)
          obtain ⟨g7, ev7, hg7, x7⟩ := hF 7 (hp ⟨7, .data⟩ (by simp) rfl)
          rw [ev7] at e32
          have hl0 := hl
          have hB := hG.1 hl
          have hl := HL.out.below hB
          obtain ⟨i0, hi0, hz0, hz1, hz2⟩ := info_parts part_info
          obtain ⟨v', w', hr, h2, h3⟩ := run_append_lrow (P := Tryz.prog) w W1.heap.size 22 22 55 i0 _ 3 40 Tryz.underlying22 hi0 hz0 hz1 hz2 rfl (by decide) part_zero_nls (.slice A4 r c4) r (flat rs) hl ⟨g7, 0, none⟩ 1 1 (flat [p]) rfl (fun jj u hu => by rw [addr_add, Nat.zero_add]; exact x7.cell jj u (by simpa [flat, PV.cells] using hu)) (flat_one _) (flat_nls _) (by unfold maxLen; omega) (by omega) (Nat.le_trans HWS.out hB.size)
          have hk := hl.kp h3
          refine Does.val v' (w' := w') ?_ ⟨⟨h3, hk⟩, trivial, GA.on_ hl0 (by rw [hs]; decide) ⟨?_, ⟨World.grownBy.trans2 hB h3, (Kp.of_below hB).trans hk⟩⟩⟩
          · exact exec_append rfl e26 e32 hr
          · rw [flat_append, List.length_append, HRL.out]; exact h2
        · intro listed σ w a hin hout hl hla hs hc hp hG hF
          refine Guarded.none rfl ?_
          have e5 : a.tmps.getD 5 undef = .pointer (some ⟨w0.heap.size + 1 + 1, 0, none⟩) := hout 5 (outB_spec (by kernel_rfl))
          refine Does.val (.pointer (some ⟨w0.heap.size + 1 + 1, 0, none⟩)) (w' := w) ?_ ⟨Tg.refl _ _, rfl, hG.same (by decide)⟩
          simp only [Array.getD_eq_getD_getElem?] at e5
          go_simp
      · intro o ho
        injection ho with ho; subst ho
        intro listed σ w a hall hin hout hG hF
        refine Guarded.none rfl ?_
        have e34 : a.tmps.getD 34 undef = .pointer (some ⟨w0.heap.size + 1 + 1, 0, none⟩) := (hin 9 34 rfl (by decide)).trans (hF 9 (by decide))
        have e33 := hin 8 33 rfl (by decide)
        have z8 := hF 8 (by decide)
        obtain ⟨l2, tg⟩ := hG.2 (hall 8 (by decide))
        have hlr := HL.out
        have x9 := HXG.out.grown tg.1 (fun e => hlr.offTerm HXG.out e.symm)
        obtain ⟨A2, c2, hv2, -, -, -⟩ := l2.len
        have hlen2 : (rs ++ [p]).length = r + 1 := by simp [HRL.out]
        rw [hlen2] at hv2
        rw [hv2] at e33 l2
        have u0 := x9.c0
        have u1 := x9.fr 0
        refine Does.skip (w' := w.setCell ⟨w0.heap.size + 1 + 1, 0, none⟩ (.slice A2 (r + 1) c2)) (by go_simp) ?_
        have HE2 := hide (WoRel.step HXG.out hlr HRL.out HQR.out HLI.out HRZ.out HZK.out HOW.out HKW.out HLp.out HPX.out l2 HZP.out tg)
        rw [show fin _ σ undef _ = (Act.put (Act.put (Act.put (Act.put (Act.put (Act.put (Act.put (Act.put (Act.put (Act.put (Act.put _ (some 25) (σ 0)) (some 26) (σ 1)) (some 27) (σ 2)) (some 28) (σ 3)) (some 29) (σ 4)) (some 30) (σ 5)) (some 31) (σ 6)) (some 32) (σ 7)) (some 33) (σ 8)) (some 34) (σ 9)) none undef) from (fin_all hall).trans rfl]
        simp only [Act.put, List.setIfInBounds_toArray, List.set_cons_zero, List.set_cons_succ]
        generalize σ 0 = tt0; generalize σ 1 = tt1; generalize σ 2 = tt2; generalize σ 3 = tt3; generalize σ 4 = tt4; generalize σ 5 = tt5; generalize σ 6 = tt6; generalize σ 7 = tt7; generalize σ 8 = tt8 at *; generalize σ 9 = tt9
        clear hF hG hall hin hout SOF HRW l2 tg x9 u0 u1 hlen2
        generalize w.setCell ⟨w0.heap.size + 1 + 1, 0, none⟩ (.slice A2 (r + 1) c2) = w8 at *
        go_wp2_with fail
        go_roundw
        case rel => exact ⟨q + 1, by omega, by go_num, HE2⟩
        case measure => simp [intOf] <;> omega
    · obtain rfl : q = n := by omega
      have hL2 := hide (show lin rs = without L x by rw [hlin, List.take_of_length_le (by have := HLN.out; omega)])
      have hR := XR.out.other oW (by omega)
      obtain ⟨A', c', hv', hc1', hc2', -⟩ := lr.len
      injection hv' with e1' e2' e3'
      subst e1' e3'
      have HT := hide (show TIn wr (.agg #[.slice A4 r c4, .bool s4, .slice B4 m4 d4]) (without L x) K k from ⟨A4, r, c4, s4, B4, m4, d4, rfl, by rw [← hL2.out]; exact ⟨rs, lr.parts hrl hrz, rfl⟩, hc1', hc2', zK⟩)
      have hwl := without_length L x
      have hpl := rplain_any _ _ _ _ _ HT.out (by omega) (by omega)
      have HB := hide hT
      have x0 := xg.c0
      have x1 := xg.c1
      have x2 := xg.c2
      clear lr hrl hlin hrz zK oW kW HR xg hT zt
      go_wp2_with fail
      refine hpl.mono ?_
      rintro e w5 ⟨v5, rfl, r5, b5⟩
      obtain ⟨A5, n5, c5, s5, B5, m5, d5, rfl⟩ := r5.form
      have hR5 := hR.next b5
      go_wp2_with (with_reducible refine wpList_store_t rfl _ _ rfl (w0.heap.size + 1) _ _ _ _ _ _ _ rfl rfl _ _ _ hR5 ?_; intro w7 k7 ho7)
      refine bodyPost_t rfl rfl k7 rfl ?_
      exact TPost.mono ⟨_, rfl, r5.only hR5 ho7, zback (HB.out.next b5) (by omega) ho7⟩ (by omega)
end Go.Proofs.YtakcgkohnomgjaaGreatDoor
/- plumblineref03.Var, plumblineref01.SameInts. -/
namespace Go.Proofs.YtakcgkohnomgjaaGreatDoor
open Go.RowKit
open Tm

set_option maxRecDepth 100000 in
set_option maxHeartbeats 1000000 in
theorem rvar_any (x : Int) (w : World) : Calls Tryz.prog 27 #[.int .i64 x] w (TPost (norm [(x, 1)]) 0 3 w) := by
  obtain ⟨z0, z1, z2⟩ := bstart1 28 w #[.slice none 0 0, .bool false, .slice none 0 0]
  go_enter Tryz.func27, Tryz.ntmps27
  go_wp2_with fail
  refine (rof_z 1 _ (by omega) (by omega)).mono ?_
  rintro e w1 ⟨v1, rfl, r1, b1⟩
  obtain ⟨s1, A1, n1, c1, rfl⟩ := r1.form
  have t1 := z1.next b1
  have k1 := z0.next b1
  obtain ⟨y0, y1, -⟩ := bstart1 55 w1 #[.int .i64 x, .bool s1, .slice A1 n1 c1]
  have HT := hide (show TIn (w1.alloc (.cells #[.int .i64 x, .bool s1, .slice A1 n1 c1] 55)) (.agg #[.slice (some ⟨w1.heap.size, 0, none⟩) 1 1, .bool false, .slice none 0 0]) [(x, 1)] 0 2 from
    ⟨_, 1, 1, false, none, 0, 0, rfl, ⟨[⟨x, s1, A1, n1, c1, 1⟩], ⟨rfl, fun _ => ⟨w1.heap.size, 0, rfl, cells_newS w1 ⟨x, s1, A1, n1, c1, 1⟩ _ rfl⟩, fun p hp => by simp at hp; subst hp; exact (r1.in_).below y1⟩, rfl⟩, Nat.le_refl _, by omega, (ZRes.zero _ 2).in_⟩)
  have hpl := rplain_any _ [(x, 1)] 0 2 _ HT.out (by simp) (by omega)
  have k2 := k1.next y1
  have t2 := t1.next y1
  clear r1 y0 y1
  go_wp2_with fail
  refine hpl.mono ?_
  rintro e w2 ⟨v2, rfl, r2, b2⟩
  obtain ⟨A2, n2, c2, s2, B2, m2, d2, rfl⟩ := r2.form
  have k3 := k2.next b2
  go_wp2_with (with_reducible refine wpList_store_t rfl _ _ rfl w.heap.size _ _ _ _ _ _ _ rfl rfl _ _ _ k3 ?_; intro w3 k4 ho3)
  refine bodyPost_t rfl rfl k4 rfl ?_
  exact ⟨_, rfl, r2.only k3 ho3, zback (t2.next b2) (Nat.le_refl _) ho3⟩
end Go.Proofs.YtakcgkohnomgjaaGreatDoor
/- plumblineref01.SameInts. -/
namespace Go.Proofs.YtakcgkohnomgjaaGreatDoor
open Go.RowKit

set_option maxRecDepth 100000 in
set_option maxHeartbeats 2000000 in
theorem sameInts_yes (A B : Option Addr) (n c d : Nat) (xs : List Int) (w0 : World) (ha : IIn w0 A n xs) (hb : IIn w0 B n xs) (hn : n ≤ 1099511627) : Calls Tryz.prog 19 #[.slice A n c, .slice B n d] w0 (YesPost w0) := by
  have HA := hide ha
  have HB := hide hb
  have HS := hide (Below.refl w0.heap.size w0)
  clear ha hb
  go_enter Tryz.func19, Tryz.ntmps19
  go_wp2_with fail
  go_loopw [5] (fun i wr => ∃ q : Nat, q ≤ n ∧ i = .int .i64 q ∧ Hid (Below w0.heap.size w0 wr)) (fun i _ => n - (intOf i).toNat)
  case atStart => exact ⟨0, Nat.zero_le _, rfl, HS⟩
  case round =>
    obtain ⟨q, hq, rfl, HR⟩ := hrel
    by_cases hqn : q < n
    · obtain ⟨ba, oa, x, rfl, hlt, hx, c0⟩ := (HA.out.below HR.out).at_ hqn
      obtain ⟨bb, ob, y, rfl, hlt2, hy, d0⟩ := (HB.out.below HR.out).at_ hqn
      obtain rfl : x = y := by rw [hx] at hy; injection hy
      have SOF := hide (show ∀ W, Below wr.heap.size wr W → (W.cell? ⟨ba, oa + q, none⟩ = some (.int .i64 x) ∧ W.cell? ⟨bb, ob + q, none⟩ = some (.int .i64 x)) from fun W h => ⟨(h.cell (p := ⟨ba, oa + q, none⟩) hlt).trans c0, (h.cell (p := ⟨bb, ob + q, none⟩) hlt2).trans d0⟩)
      clear hx hy c0 d0
      go_wp2_with fail
      refine wp_drawn (by kernel_rfl) (by kernel_rfl) (by kernel_rfl) (fun w w' => Below w.heap.size w w') (fun j v w => match j with | 0 => v = .slice (some ⟨ba, oa, none⟩) n c | 1 => v = .int .i64 (q : Int) | 2 => v = .pointer (some ⟨ba, oa + q, none⟩) | 3 => v = .int .i64 x | 4 => v = .slice (some ⟨bb, ob, none⟩) n d | 5 => v = .int .i64 (q : Int) | 6 => v = .pointer (some ⟨bb, ob + q, none⟩) | 7 => v = .int .i64 x | 8 => v = .bool false | _ => True) (fun _ _ w => Below wr.heap.size wr w) ?_ (fun _ => bl_drewN wr 1) ?_ ?_
      · intro j v w w' hT h
        match j, h with
        | 0, h => exact h
        | 1, h => exact h
        | 2, h => exact h
        | 3, h => exact h
        | 4, h => exact h
        | 5, h => exact h
        | 6, h => exact h
        | 7, h => exact h
        | 8, h => exact h
        | j + 9, h => trivial
      · refine ⟨?_, ?_, ?_, ?_, ?_, ?_, ?_, ?_, ?_, trivial⟩
        · intro listed σ w a hin hout hl hc hp hG hF
          refine Guarded.none rfl ?_
          have e0 : a.tmps.getD 0 undef = .slice (some ⟨ba, oa, none⟩) n c := hout 0 (outB_spec (by kernel_rfl))
          refine Does.val (.slice (some ⟨ba, oa, none⟩) n c) (w' := w) ?_ ⟨Below.refl _ _, rfl, hG⟩
          simp only [Array.getD_eq_getD_getElem?] at e0
          go_simp
        · intro listed σ w a hin hout hl hc hp hG hF
          refine Guarded.none rfl ?_
          have e5 : a.tmps.getD 5 undef = .int .i64 (q : Int) := hout 5 (outB_spec (by kernel_rfl))
          refine Does.val (.int .i64 (q : Int)) (w' := w) ?_ ⟨Below.refl _ _, rfl, hG⟩
          simp only [Array.getD_eq_getD_getElem?] at e5
          go_simp
        · intro listed σ w a hin hout hl hc hp hG hF
          refine Guarded.none rfl ?_
          have e17 : a.tmps.getD 17 undef = .slice (some ⟨ba, oa, none⟩) n c := (hin 0 17 rfl (hp ⟨0, .data⟩ (by simp) rfl)).trans (hF 0 (hp ⟨0, .data⟩ (by simp) rfl))
          have e18 : a.tmps.getD 18 undef = .int .i64 (q : Int) := (hin 1 18 rfl (hp ⟨1, .data⟩ (by simp) rfl)).trans (hF 1 (hp ⟨1, .data⟩ (by simp) rfl))
          refine Does.val (.pointer (some ⟨ba, oa + q, none⟩)) (w' := w) ?_ ⟨Below.refl _ _, rfl, hG⟩
          simp only [Array.getD_eq_getD_getElem?] at e17 e18
          go_simp
          (try (intro hh; exfalso; omega))
        · intro listed σ w a hin hout hl hc hp hG hF
          refine Guarded.none rfl ?_
          have e19 : a.tmps.getD 19 undef = .pointer (some ⟨ba, oa + q, none⟩) := (hin 2 19 rfl (hp ⟨2, .data⟩ (by simp) rfl)).trans (hF 2 (hp ⟨2, .data⟩ (by simp) rfl))
          have CC := SOF.out w hG; obtain ⟨C0, D0⟩ := CC
          refine Does.val (.int .i64 x) (w' := w) ?_ ⟨Below.refl _ _, rfl, hG⟩
          go_simp
        · intro listed σ w a hin hout hl hc hp hG hF
          refine Guarded.none rfl ?_
          have e1 : a.tmps.getD 1 undef = .slice (some ⟨bb, ob, none⟩) n d := hout 1 (outB_spec (by kernel_rfl))
          refine Does.val (.slice (some ⟨bb, ob, none⟩) n d) (w' := w) ?_ ⟨Below.refl _ _, rfl, hG⟩
          simp only [Array.getD_eq_getD_getElem?] at e1
          go_simp
        · intro listed σ w a hin hout hl hc hp hG hF
          refine Guarded.none rfl ?_
          have e5 : a.tmps.getD 5 undef = .int .i64 (q : Int) := hout 5 (outB_spec (by kernel_rfl))
          refine Does.val (.int .i64 (q : Int)) (w' := w) ?_ ⟨Below.refl _ _, rfl, hG⟩
          simp only [Array.getD_eq_getD_getElem?] at e5
          go_simp
        · intro listed σ w a hin hout hl hc hp hG hF
          refine Guarded.none rfl ?_
          have e21 : a.tmps.getD 21 undef = .slice (some ⟨bb, ob, none⟩) n d := (hin 4 21 rfl (hp ⟨4, .data⟩ (by simp) rfl)).trans (hF 4 (hp ⟨4, .data⟩ (by simp) rfl))
          have e22 : a.tmps.getD 22 undef = .int .i64 (q : Int) := (hin 5 22 rfl (hp ⟨5, .data⟩ (by simp) rfl)).trans (hF 5 (hp ⟨5, .data⟩ (by simp) rfl))
          refine Does.val (.pointer (some ⟨bb, ob + q, none⟩)) (w' := w) ?_ ⟨Below.refl _ _, rfl, hG⟩
          simp only [Array.getD_eq_getD_getElem?] at e21 e22
          go_simp
          (try (intro hh; exfalso; omega))
        · intro listed σ w a hin hout hl hc hp hG hF
          refine Guarded.none rfl ?_
          have e23 : a.tmps.getD 23 undef = .pointer (some ⟨bb, ob + q, none⟩) := (hin 6 23 rfl (hp ⟨6, .data⟩ (by simp) rfl)).trans (hF 6 (hp ⟨6, .data⟩ (by simp) rfl))
          have CC := SOF.out w hG; obtain ⟨C0, D0⟩ := CC
          refine Does.val (.int .i64 x) (w' := w) ?_ ⟨Below.refl _ _, rfl, hG⟩
          go_simp
        · intro listed σ w a hin hout hl hc hp hG hF
          refine Guarded.none rfl ?_
          have e20 : a.tmps.getD 20 undef = .int .i64 x := (hin 3 20 rfl (hp ⟨3, .data⟩ (by simp) rfl)).trans (hF 3 (hp ⟨3, .data⟩ (by simp) rfl))
          have e24 : a.tmps.getD 24 undef = .int .i64 x := (hin 7 24 rfl (hp ⟨7, .data⟩ (by simp) rfl)).trans (hF 7 (hp ⟨7, .data⟩ (by simp) rfl))
          refine Does.val (.bool false) (w' := w) ?_ ⟨Below.refl _ _, rfl, hG⟩
          simp only [Array.getD_eq_getD_getElem?] at e20 e24
          go_simp
      · intro listed σ W9 hall hG hF
        rw [show mid _ σ listed _ = (Act.put (Act.put (Act.put (Act.put (Act.put (Act.put (Act.put (Act.put (Act.put _ (some 17) (σ 0)) (some 18) (σ 1)) (some 19) (σ 2)) (some 20) (σ 3)) (some 21) (σ 4)) (some 22) (σ 5)) (some 23) (σ 6)) (some 24) (σ 7)) (some 25) (σ 8)) from (mid_all hall).trans rfl]
        generalize σ 0 = tt0
        generalize σ 1 = tt1
        generalize σ 2 = tt2
        generalize σ 3 = tt3
        generalize σ 4 = tt4
        generalize σ 5 = tt5
        generalize σ 6 = tt6
        generalize σ 7 = tt7
        rw [show σ 8 = .bool false from hF 8 (by decide)]
        simp only [Act.put, List.setIfInBounds_toArray, List.set_cons_zero, List.set_cons_succ]
        have TG := hG
        clear hF hG hall
        clear σ
        have HE := hide (HR.out.next TG)
        clear TG SOF
        go_wp2_with fail
        go_roundw
        case rel => exact ⟨q + 1, by omega, by go_num, HE⟩
        case measure => simp [intOf] <;> omega
    · obtain rfl : q = n := by omega
      go_wp2_with fail
      go_ret
      exact ⟨rfl, HR.out⟩
end Go.Proofs.YtakcgkohnomgjaaGreatDoor
