/- Texts of one seat, put together: TCmp. -/
import Derived.Test.YtdeakieenppmiaaGreatDoorC22
import Derived.Test.YtdeakieenppmiaaGreatDoorC11
import Derived.Test.YtdeakieenppmiaaGreatDoorC31
set_option linter.unusedVariables false
set_option linter.unusedSimpArgs false
set_option maxRecDepth 100000
set_option maxHeartbeats 16000000
/- cmp.Or over int, slices.CompareFunc over parts, term.Cmp, Same. -/
namespace Go.Proofs.YtdeakieenppmiaaGreatDoor
open Go.RowKit
open Tm

def orL : List Int → Int
 | [] => 0
 | x :: xs => if x ≠ 0 then x else orL xs
theorem orL_zero {x : Int} {xs : List Int} (h : x = 0) : orL (x :: xs) = orL xs := by rw [orL, if_neg (by simp [h])]
theorem orL_ne {x : Int} {xs : List Int} (h : x ≠ 0) : orL (x :: xs) = x := by rw [orL, if_pos h]
theorem orL_two (x y : Int) : orL [x, y] = orZ x y := by
 unfold orL orL orL orZ
 by_cases h : x = 0
 · by_cases h2 : y = 0
   · simp [h, h2]
   · simp [h, h2]
 · simp [h]
theorem IIn.two {w : World} {g : Nat} {x y : Int} (h : Box 3 w g #[.int .i64 x, .int .i64 y]) : IIn w (some ⟨g, 0, Option.none⟩) 2 [x, y] :=
 ⟨rfl, fun _ => ⟨g, 0, rfl, fun j u hu => by rw [Nat.zero_add]; exact h.cell j u (by simpa [ints] using hu)⟩⟩
theorem or_any (A : Option Addr) (n c : Nat) (xs : List Int) (w : World) (hx : IIn w A n xs) (hn : n ≤ 9223372036854775807) : Calls Tryz.prog 53 #[.slice A n c] w (fun e w' => e = .returned (.int .i64 (orL xs)) ∧ w' = w) := by
 have HL := hide hx.1
 go_enter Tryz.func53, Tryz.ntmps53
 go_wp2_with fail
 have HS := hide (show orL (xs.drop 0) = orL xs from rfl)
 go_loop [8] (fun i => ∃ q : Nat, q ≤ n ∧ i = .int .i64 q ∧ Hid (orL (xs.drop q) = orL xs)) (fun i => n - (intOf i).toNat)
 case atStart => exact ⟨0, Nat.zero_le _, rfl, HS⟩
 case round =>
  obtain ⟨q, hq, rfl, HR⟩ := hrel
  by_cases hqn : q < n
  · obtain ⟨bb, o, x, rfl, hlt, hxq, c0⟩ := hx.at_ hqn
    have HD := hide (drop_cons hxq)
    clear hxq
    by_cases h0 : x = 0
    · have hb : (x != 0) = false := by simp [h0]
      have HE := hide (show orL (xs.drop (q + 1)) = orL xs by rw [← HR.out, HD.out, orL_zero h0])
      clear h0
      go_wp2_with fail
      go_round
      case rel => exact ⟨q + 1, by omega, by go_num, HE⟩
      case measure => simp [intOf] <;> omega
    · have hb : (x != 0) = true := by simp [h0]
      have HE := hide (show orL xs = x by rw [← HR.out, HD.out, orL_ne h0])
      clear h0
      go_wp2_with fail
      go_ret
      exact ⟨by rw [HE.out]; rfl, rfl⟩
  · have HE := hide (show orL xs = 0 by rw [← HR.out, List.drop_of_length_le (by rw [HL.out]; omega)]; rfl)
    go_wp2_with fail
    go_ret
    exact ⟨by rw [HE.out]; rfl, rfl⟩
theorem cmp1_any (x y : PV) (k : Nat) (w0 : World) (hx : ZIn w0 x.num x.Z k) (hy : ZIn w0 y.num y.Z k) (hk : k ≤ 1099511627776) : Calls Tryz.prog 94 #[x.agg, y.agg] w0 (fun e w' => e = .returned (.int .i64 (orZ (cmpZ x.v y.v) (cmpZ x.Z y.Z))) ∧ Below w0.heap.size w0 w') := by
 obtain ⟨xv, xs, xB, xm, xd, xZ⟩ := x
 obtain ⟨yv, ys, yB, ym, yd, yZ⟩ := y
 obtain ⟨z0, z1, z2, -⟩ := bstart2 60 60 w0 #[.int .i64 xv, .bool xs, .slice xB xm xd] #[.int .i64 yv, .bool ys, .slice yB ym yd]
 show Calls _ _ #[.agg #[.int .i64 xv, .bool xs, .slice xB xm xd], .agg #[.int .i64 yv, .bool ys, .slice yB ym yd]] _ _
 dsimp only
 have hx : ZIn w0 (.agg #[.bool xs, .slice xB xm xd]) xZ k := hx
 have hy : ZIn w0 (.agg #[.bool ys, .slice yB ym yd]) yZ k := hy
 go_enter Tryz.func94, Tryz.ntmps94
 go_wp2_with fail
 generalize hW0 : ((w0.alloc (.cells #[.int .i64 xv, .bool xs, .slice xB xm xd] 60)).alloc (.cells #[.int .i64 yv, .bool ys, .slice yB ym yd] 60)) = W0 at *
 clear hW0
 have HX := hide (hx.below z2)
 have HY := hide (hy.below z2)
 have T0 := hide z2
 have SOF := hide (show ∀ W, Below W0.heap.size W0 W → (W.cell? ⟨w0.heap.size, 0, none⟩ = some (.int .i64 xv) ∧ W.cell? ⟨w0.heap.size, 1, none⟩ = some (.bool xs) ∧ W.cell? ⟨w0.heap.size, 2, none⟩ = some (.slice xB xm xd) ∧ W.cell? ⟨w0.heap.size + 1, 0, none⟩ = some (.int .i64 yv) ∧ W.cell? ⟨w0.heap.size + 1, 1, none⟩ = some (.bool ys) ∧ W.cell? ⟨w0.heap.size + 1, 2, none⟩ = some (.slice yB ym yd)) from fun W h => ⟨(z0.next h).c0, (z0.next h).c1, (z0.next h).c2, (z1.next h).c0, (z1.next h).c1, (z1.next h).c2⟩)
 clear z0 z1 z2 hx hy
 refine wp_drawn (by kernel_rfl) (by kernel_rfl) (by kernel_rfl) (fun w w' => Below w.heap.size w w') (fun j v w => match j with | 0 => v = .pointer (some ⟨w0.heap.size, 0, none⟩) | 1 => v = .int .i64 xv | 2 => v = .pointer (some ⟨w0.heap.size + 1, 0, none⟩) | 3 => v = .int .i64 yv | 4 => v = .int .i64 (cmpZ xv yv) | 5 => v = .pointer (some ⟨w0.heap.size, 1, none⟩) | 6 => v = .agg #[.bool xs, .slice xB xm xd] | 7 => v = .pointer (some ⟨w0.heap.size + 1, 1, none⟩) | 8 => v = .agg #[.bool ys, .slice yB ym yd] | 9 => v = .int .i64 (cmpZ xZ yZ) | 10 => ∃ g, v = .slice (some ⟨g, 0, none⟩) 2 2 ∧ Box 3 w g #[.int .i64 (cmpZ xv yv), .int .i64 (cmpZ xZ yZ)] | 11 => v = .int .i64 (orL [cmpZ xv yv, cmpZ xZ yZ]) | 12 => v = .int .i64 (orL [cmpZ xv yv, cmpZ xZ yZ]) | _ => True) (fun _ _ w => Below W0.heap.size W0 w) ?_ (fun _ => bl_drewN W0 1) ?_ ?_
 · intro j v w w' hT h
   match j, h with
   | 0, h => exact h
   | 1, h => exact h
   | 2, h => exact h
   | 3, h => exact h
   | 4, h => exact h
   | 5, h => exact h
   | 6, h => exact h
   | 7, h => exact h
   | 8, h => exact h
   | 9, h => exact h
   | 10, h => exact (by obtain ⟨g, e, h1⟩ := h; exact ⟨g, e, h1.next hT⟩)
   | 11, h => exact h
   | 12, h => exact h
   | j + 13, h => trivial
 · refine ⟨?_, ?_, ?_, ?_, ?_, ?_, ?_, ?_, ?_, ?_, ?_, ?_, ?_, trivial⟩
   · intro listed σ w a hin hout hl hc hp hG hF
     refine Guarded.none rfl ?_
     have e2 : a.tmps.getD 2 undef = .pointer (some ⟨w0.heap.size, 0, none⟩) := hout 2 (outB_spec (by kernel_rfl))
     refine Does.val (.pointer (some ⟨w0.heap.size, 0, none⟩)) (w' := w) ?_ ⟨Below.refl _ _, rfl, hG⟩
     simp only [Array.getD_eq_getD_getElem?] at e2
     go_simp
   · intro listed σ w a hin hout hl hc hp hG hF
     refine Guarded.none rfl ?_
     have e5 : a.tmps.getD 5 undef = .pointer (some ⟨w0.heap.size, 0, none⟩) := (hin 0 5 rfl (hp ⟨0, .data⟩ (by simp) rfl)).trans (hF 0 (hp ⟨0, .data⟩ (by simp) rfl))
     have CC := SOF.out w hG; obtain ⟨C0, C1, C2, D0, D1, D2⟩ := CC
     refine Does.val (.int .i64 xv) (w' := w) ?_ ⟨Below.refl _ _, rfl, hG⟩
     go_simp
   · intro listed σ w a hin hout hl hc hp hG hF
     refine Guarded.none rfl ?_
     have e3 : a.tmps.getD 3 undef = .pointer (some ⟨w0.heap.size + 1, 0, none⟩) := hout 3 (outB_spec (by kernel_rfl))
     refine Does.val (.pointer (some ⟨w0.heap.size + 1, 0, none⟩)) (w' := w) ?_ ⟨Below.refl _ _, rfl, hG⟩
     simp only [Array.getD_eq_getD_getElem?] at e3
     go_simp
   · intro listed σ w a hin hout hl hc hp hG hF
     refine Guarded.none rfl ?_
     have e7 : a.tmps.getD 7 undef = .pointer (some ⟨w0.heap.size + 1, 0, none⟩) := (hin 2 7 rfl (hp ⟨2, .data⟩ (by simp) rfl)).trans (hF 2 (hp ⟨2, .data⟩ (by simp) rfl))
     have CC := SOF.out w hG; obtain ⟨C0, C1, C2, D0, D1, D2⟩ := CC
     refine Does.val (.int .i64 yv) (w' := w) ?_ ⟨Below.refl _ _, rfl, hG⟩
     go_simp
   · intro listed σ w a hin hout hl hc hp hG hF
     refine Guarded.none rfl ?_
     have e6 : a.tmps.getD 6 undef = .int .i64 xv := (hin 1 6 rfl (hp ⟨1, .data⟩ (by simp) rfl)).trans (hF 1 (hp ⟨1, .data⟩ (by simp) rfl))
     have e8 : a.tmps.getD 8 undef = .int .i64 yv := (hin 3 8 rfl (hp ⟨3, .data⟩ (by simp) rfl)).trans (hF 3 (hp ⟨3, .data⟩ (by simp) rfl))
     refine Does.call ?_ (compare_any xv yv w) ?_
     · go_simp
     · rintro e w' ⟨rfl, rfl⟩
       exact ⟨_, rfl, Below.refl _ _, rfl, hG⟩
   · intro listed σ w a hin hout hl hc hp hG hF
     refine Guarded.none rfl ?_
     have e2 : a.tmps.getD 2 undef = .pointer (some ⟨w0.heap.size, 0, none⟩) := hout 2 (outB_spec (by kernel_rfl))
     refine Does.val (.pointer (some ⟨w0.heap.size, 1, none⟩)) (w' := w) ?_ ⟨Below.refl _ _, rfl, hG⟩
     simp only [Array.getD_eq_getD_getElem?] at e2
     go_simp
   · intro listed σ w a hin hout hl hc hp hG hF
     refine Guarded.none rfl ?_
     have e10 : a.tmps.getD 10 undef = .pointer (some ⟨w0.heap.size, 1, none⟩) := (hin 5 10 rfl (hp ⟨5, .data⟩ (by simp) rfl)).trans (hF 5 (hp ⟨5, .data⟩ (by simp) rfl))
     have CC := SOF.out w hG; obtain ⟨C0, C1, C2, D0, D1, D2⟩ := CC
     refine Does.val (.agg #[.bool xs, .slice xB xm xd]) (w' := w) ?_ ⟨Below.refl _ _, rfl, hG⟩
     go_simp
   · intro listed σ w a hin hout hl hc hp hG hF
     refine Guarded.none rfl ?_
     have e3 : a.tmps.getD 3 undef = .pointer (some ⟨w0.heap.size + 1, 0, none⟩) := hout 3 (outB_spec (by kernel_rfl))
     refine Does.val (.pointer (some ⟨w0.heap.size + 1, 1, none⟩)) (w' := w) ?_ ⟨Below.refl _ _, rfl, hG⟩
     simp only [Array.getD_eq_getD_getElem?] at e3
     go_simp
   · intro listed σ w a hin hout hl hc hp hG hF
     refine Guarded.none rfl ?_
     have e12 : a.tmps.getD 12 undef = .pointer (some ⟨w0.heap.size + 1, 1, none⟩) := (hin 7 12 rfl (hp ⟨7, .data⟩ (by simp) rfl)).trans (hF 7 (hp ⟨7, .data⟩ (by simp) rfl))
     have CC := SOF.out w hG; obtain ⟨C0, C1, C2, D0, D1, D2⟩ := CC
     refine Does.val (.agg #[.bool ys, .slice yB ym yd]) (w' := w) ?_ ⟨Below.refl _ _, rfl, hG⟩
     go_simp
   · intro listed σ w a hin hout hl hc hp hG hF
     refine Guarded.none rfl ?_
     have e11 : a.tmps.getD 11 undef = .agg #[.bool xs, .slice xB xm xd] := (hin 6 11 rfl (hp ⟨6, .data⟩ (by simp) rfl)).trans (hF 6 (hp ⟨6, .data⟩ (by simp) rfl))
     have e13 : a.tmps.getD 13 undef = .agg #[.bool ys, .slice yB ym yd] := (hin 8 13 rfl (hp ⟨8, .data⟩ (by simp) rfl)).trans (hF 8 (hp ⟨8, .data⟩ (by simp) rfl))
     refine Does.call ?_ ((show Calls Tryz.prog 96 #[.agg #[.bool xs, .slice xB xm xd], .agg #[.bool ys, .slice yB ym yd]] w (CmpZPost xZ yZ w) from cmp_z _ _ xZ yZ k w (HX.out.below hG) (HY.out.below hG) (by omega))) ?_
     · go_simp
     · rintro e w' ⟨rfl, hb⟩
       exact ⟨_, rfl, hb, rfl, hG.next hb⟩
   · intro listed σ w a hin hout hl hc hp hG hF
     refine Guarded.none rfl ?_
     have e9 : a.tmps.getD 9 undef = .int .i64 (cmpZ xv yv) := (hin 4 9 rfl (hp ⟨4, .data⟩ (by simp) rfl)).trans (hF 4 (hp ⟨4, .data⟩ (by simp) rfl))
     have e14 : a.tmps.getD 14 undef = .int .i64 (cmpZ xZ yZ) := (hin 9 14 rfl (hp ⟨9, .data⟩ (by simp) rfl)).trans (hF 9 (hp ⟨9, .data⟩ (by simp) rfl))
     refine Does.val (.slice (some ⟨w.heap.size, 0, none⟩) 2 2) (w' := w.alloc (.cells #[.int .i64 (cmpZ xv yv), .int .i64 (cmpZ xZ yZ)] 3)) ?_ ⟨bl_alloc w _, ⟨w.heap.size, rfl, Box.new _ _ _⟩, hG.next (bl_alloc w _)⟩
     simp only [Array.getD_eq_getD_getElem?] at e9 e14
     go_simp
   · intro listed σ w a hin hout hl hc hp hG hF
     refine Guarded.none rfl ?_
     have e15 := hin 10 15 rfl (hp ⟨10, .data⟩ (by simp) rfl)
     obtain ⟨g10, ev10, x10⟩ := hF 10 (hp ⟨10, .data⟩ (by simp) rfl)
     rw [ev10] at e15
     refine Does.call ?_ (or_any (some ⟨g10, 0, none⟩) 2 2 [cmpZ xv yv, cmpZ xZ yZ] w (IIn.two x10) (by omega)) ?_
     · go_simp
     · rintro e w' ⟨rfl, rfl⟩
       exact ⟨_, rfl, Below.refl _ _, rfl, hG⟩
   · intro listed σ w a hin hout hl hc hp hG hF
     refine Guarded.none rfl ?_
     have e16 : a.tmps.getD 16 undef = .int .i64 (orL [cmpZ xv yv, cmpZ xZ yZ]) := (hin 11 16 rfl (hp ⟨11, .data⟩ (by simp) rfl)).trans (hF 11 (hp ⟨11, .data⟩ (by simp) rfl))
     refine Does.val (.int .i64 (orL [cmpZ xv yv, cmpZ xZ yZ])) (w' := w) ?_ ⟨Below.refl _ _, rfl, hG⟩
     simp only [Array.getD_eq_getD_getElem?] at e16
     go_simp
 · intro listed σ W9 hall hG hF
   rw [show mid _ σ listed _ = (Act.put (Act.put (Act.put (Act.put (Act.put (Act.put (Act.put (Act.put (Act.put (Act.put (Act.put (Act.put (Act.put _ (some 5) (σ 0)) (some 6) (σ 1)) (some 7) (σ 2)) (some 8) (σ 3)) (some 9) (σ 4)) (some 10) (σ 5)) (some 11) (σ 6)) (some 12) (σ 7)) (some 13) (σ 8)) (some 14) (σ 9)) (some 15) (σ 10)) (some 16) (σ 11)) (some 4) (σ 12)) from (mid_all hall).trans rfl]
   generalize σ 0 = tt0
   generalize σ 1 = tt1
   generalize σ 2 = tt2
   generalize σ 3 = tt3
   generalize σ 4 = tt4
   generalize σ 5 = tt5
   generalize σ 6 = tt6
   generalize σ 7 = tt7
   generalize σ 8 = tt8
   generalize σ 9 = tt9
   generalize σ 10 = tt10
   generalize σ 11 = tt11
   rw [show σ 12 = .int .i64 (orL [cmpZ xv yv, cmpZ xZ yZ]) from hF 12 (by decide)]
   simp only [Act.put, List.setIfInBounds_toArray, List.set_cons_zero, List.set_cons_succ]
   have TG := hG
   clear hF hG hall
   clear σ
   have HT := hide (T0.out.next TG)
   clear TG SOF HX HY
   rw [orL_two]
   generalize hr : orZ (cmpZ xv yv) (cmpZ xZ yZ) = r at *
   have HRR := hide hr
   clear hr
   go_wp2_with fail
   go_ret
   exact ⟨by rw [HRR.out]; rfl, HT.out⟩
theorem enters_cmp1 : ∀ args w, (callFunc 94 args).run Tryz.prog w = .ok (.enter 94 args) w := enters_of Tryz.func94 (by kernel_rfl) rfl
theorem cmpL_go {L M : List (Int × Int)} {q : Nat} {u c v d : Int} (h : L[q]? = some (u, c)) (h' : M[q]? = some (v, d)) : cmpL (L.drop q) (M.drop q) = if orZ (cmpZ u v) (cmpZ c d) ≠ 0 then orZ (cmpZ u v) (cmpZ c d) else cmpL (L.drop (q + 1)) (M.drop (q + 1)) := by
 rw [drop_cons h, drop_cons h', cmpL]
 unfold orZ
 by_cases h1 : cmpZ u v = 0
 · simp [h1]
 · simp [h1]
theorem compareFunc_any (A : Option Addr) (n c : Nat) (B : Option Addr) (m d : Nat) (L M : List (Int × Int)) (k : Nat) (w0 : World) (hx : PIn w0 A n L k) (hy : PIn w0 B m M k) (hn : n ≤ 9223372036854775807) (hm : m ≤ 9223372036854775807) (hk : k ≤ 1099511627776) :
  Calls Tryz.prog 92 #[.slice A n c, .slice B m d, .func (.func 94) #[] #[]] w0 (fun e w' => e = .returned (.int .i64 (cmpL L M)) ∧ Below w0.heap.size w0 w') := by
 have HL := hide hx.len
 have HM := hide hy.len
 have HX := hide hx
 have HY := hide hy
 have eg := enters_cmp1
 clear hx hy
 go_enter Tryz.func92, Tryz.ntmps92
 go_wp2_with fail
 have HB0 := hide (Below.refl w0.heap.size w0)
 go_loopw [13] (fun i wr => ∃ q : Nat, q ≤ n ∧ i = .int .i64 q ∧ q ≤ m ∧ Hid (cmpL (L.drop q) (M.drop q) = cmpL L M) ∧ Hid (Below w0.heap.size w0 wr)) (fun i _ => n - (intOf i).toNat)
 case atStart => exact ⟨0, Nat.zero_le _, rfl, Nat.zero_le _, Lib.hid rfl, HB0⟩
 case round =>
  obtain ⟨q, hq, rfl, hqm, HR, HB⟩ := hrel
  by_cases hqn : q < n
  · obtain ⟨bb, o, p, rfl, hlt, hLp, c0, c1, c2, hz⟩ := (HX.out.below HB.out).at_ hqn
    have y1 := bl_alloc wr (.cells #[.int .i64 p.v, .bool p.s, .slice p.B p.m p.d] 60)
    by_cases hqm' : q < m
    · obtain ⟨bc, o', r, rfl, hlt', hMp, d0, d1, d2, hz'⟩ := (HY.out.below HB.out).at_ hqm'
      have HG := hide (cmpL_go hLp hMp)
      have y2 := bl_alloc (wr.alloc (.cells #[.int .i64 p.v, .bool p.s, .slice p.B p.m p.d] 60)) (.cells #[.int .i64 r.v, .bool r.s, .slice r.B r.m r.d] 60)
      have hcl := cmp1_any p r k _ ((hz.below y1).below y2) ((hz'.below y1).below y2) hk
      have HB2 := hide ((HB.out.next y1).next y2)
      unfold PV.agg at hcl
      by_cases h0 : orZ (cmpZ p.v r.v) (cmpZ p.Z r.Z) = 0
      · have HE := hide (show cmpL (L.drop (q + 1)) (M.drop (q + 1)) = cmpL L M by rw [← HR.out, HG.out, if_neg (by simp [h0])])
        rw [h0] at hcl
        clear h0 hLp hMp hz hz' y1 y2 HG
        go_wp2_with fail
        refine hcl.mono ?_
        rintro e w2 ⟨rfl, b2⟩
        have HB3 := hide (HB2.out.next b2)
        go_wp2_with fail
        go_roundw
        case rel => exact ⟨q + 1, by omega, by go_num, by omega, HE, HB3⟩
        case measure => simp [intOf] <;> omega
      · have HE := hide (show cmpL L M = orZ (cmpZ p.v r.v) (cmpZ p.Z r.Z) by rw [← HR.out, HG.out, if_pos h0])
        generalize orZ (cmpZ p.v r.v) (cmpZ p.Z r.Z) = z at *
        have hb : (z != 0) = true := by simp [h0]
        clear h0 hLp hMp hz hz' y1 y2 HG
        go_wp2_with fail
        refine hcl.mono ?_
        rintro e w2 ⟨rfl, b2⟩
        go_wp2_with fail
        go_ret
        exact ⟨by rw [HE.out]; rfl, HB2.out.next b2⟩
    · have HE := hide (show cmpL L M = 1 by rw [← HR.out, drop_cons hLp, List.drop_of_length_le (show M.length ≤ q by rw [HM.out]; omega)]; rfl)
      have HB2 := hide (HB.out.next y1)
      clear hLp hz y1
      go_wp2_with fail
      go_ret
      exact ⟨by rw [HE.out]; rfl, HB2.out⟩
  · obtain rfl : q = n := by omega
    by_cases hqm' : q < m
    · have HE := hide (show cmpL L M = -1 by
        rw [← HR.out, List.drop_of_length_le (show L.length ≤ q by rw [HL.out]; exact Nat.le_refl _)]
        obtain ⟨x, hx⟩ : ∃ x, M[q]? = some x := ⟨M[q]'(by rw [HM.out]; exact hqm'), List.getElem?_eq_getElem _⟩
        rw [drop_cons hx]; rfl)
      go_wp2_with fail
      go_ret
      exact ⟨by rw [HE.out]; rfl, HB.out⟩
    · have HE := hide (show cmpL L M = 0 by rw [← HR.out, List.drop_of_length_le (show L.length ≤ q by rw [HL.out]; exact Nat.le_refl _), List.drop_of_length_le (show M.length ≤ q by rw [HM.out]; omega)]; rfl)
      go_wp2_with fail
      go_ret
      exact ⟨by rw [HE.out]; rfl, HB.out⟩
theorem tcmp_any (v u : Value) (L M : List (Int × Int)) (K KM : Int) (k : Nat) (w0 : World) (hv : TIn w0 v L K k) (hu : TIn w0 u M KM k) (hl : L.length ≤ 1099511) (hm : M.length ≤ 1099511) (hk : k ≤ 1099511627) :
   Calls Tryz.prog 54 #[v, u] w0 (fun e w' => e = .returned (.int .i64 (cmpT L M K KM)) ∧ Below w0.heap.size w0 w') := by
 obtain ⟨A, n, c, s, B, m, d, rfl, hp, hc1, hc2, hK⟩ := hv
 obtain ⟨A2, n2, c2, s2, B2, m2, d2, rfl, hp2, hd1, hd2, hK2⟩ := hu
 have hn := hp.len
 have hn2 := hp2.len
 have HN1 := hide (norm_length L)
 have HN2 := hide (norm_length M)
 rw [hn] at hl
 rw [hn2] at hm
 obtain ⟨z0, z1, z2, -⟩ := bstart2 28 28 w0 #[.slice A n c, .bool s, .slice B m d] #[.slice A2 n2 c2, .bool s2, .slice B2 m2 d2]
 go_enter Tryz.func54, Tryz.ntmps54
 go_wp2_with fail
 generalize hW0 : ((w0.alloc (.cells #[.slice A n c, .bool s, .slice B m d] 28)).alloc (.cells #[.slice A2 n2 c2, .bool s2, .slice B2 m2 d2] 28)) = W0 at *
 clear hW0
 obtain ⟨kk, hkk0⟩ : ∃ kk, kk = k + n + n2 := ⟨_, rfl⟩
 have hkk : kk ≤ 1099511627776 := by omega
 have HPA := hide (fun W (h : Below W0.heap.size W0 W) => (plain_any A n c L k W (hp.below (z2.next h)) hc1 hc2 (by omega) hk).mono (fun e w' (q : PlainPost _ _ _ _ _) => show PlainPost L kk W e w' from by obtain ⟨A', n', c', e1, e2, e3⟩ := q; exact ⟨A', n', c', e1, e2.mono (by omega), e3⟩))
 have HPB := hide (fun W (h : Below W0.heap.size W0 W) => (plain_any A2 n2 c2 M k W (hp2.below (z2.next h)) hd1 hd2 (by omega) hk).mono (fun e w' (q : PlainPost _ _ _ _ _) => show PlainPost M kk W e w' from by obtain ⟨A', n', c', e1, e2, e3⟩ := q; exact ⟨A', n', c', e1, e2.mono (by omega), e3⟩))
 unfold PlainPost at HPA HPB
 have HKA := hide (hK.below z2)
 have HKB := hide (hK2.below z2)
 have T0 := hide z2
 have Z0 := hide z0
 have Z1 := hide z1
 have SOF := hide (show ∀ W, Below W0.heap.size W0 W → (W.cell? ⟨w0.heap.size, 0, none⟩ = some (.slice A n c) ∧ W.cell? ⟨w0.heap.size, 1, none⟩ = some (.bool s) ∧ W.cell? ⟨w0.heap.size, 2, none⟩ = some (.slice B m d) ∧ W.cell? ⟨w0.heap.size + 1, 0, none⟩ = some (.slice A2 n2 c2) ∧ W.cell? ⟨w0.heap.size + 1, 1, none⟩ = some (.bool s2) ∧ W.cell? ⟨w0.heap.size + 1, 2, none⟩ = some (.slice B2 m2 d2)) from fun W h => ⟨(z0.next h).c0, (z0.next h).c1, (z0.next h).c2, (z1.next h).c0, (z1.next h).c1, (z1.next h).c2⟩)
 have HH := hide hkk0
 clear z0 z1 z2 hp hp2 hK hK2 hkk0 hn hn2
 refine wp_drawn (by kernel_rfl) (by kernel_rfl) (by kernel_rfl) (fun w w' => Below w.heap.size w w') (fun j v w => match j with | 0 => v = .pointer (some ⟨w0.heap.size, 0, none⟩) | 1 => v = .slice A n c | 2 => ∃ A n c, v = .slice A n c ∧ PIn w A n (norm L) kk ∧ n ≤ c ∧ c ≤ 9223372036854775807 | 3 => v = .pointer (some ⟨w0.heap.size + 1, 0, none⟩) | 4 => v = .slice A2 n2 c2 | 5 => ∃ A n c, v = .slice A n c ∧ PIn w A n (norm M) kk ∧ n ≤ c ∧ c ≤ 9223372036854775807 | 6 => v = .int .i64 (cmpL (norm L) (norm M)) | 7 => v = .int .i64 (cmpL (norm L) (norm M)) | _ => True) (fun _ _ w => Below W0.heap.size W0 w) ?_ (fun _ => bl_drewN W0 1) ?_ ?_
 · intro j v w w' hT h
   match j, h with
   | 0, h => exact h
   | 1, h => exact h
   | 2, h => exact (by obtain ⟨A, n, c, e, h1, h2, h3⟩ := h; exact ⟨A, n, c, e, h1.below hT, h2, h3⟩)
   | 3, h => exact h
   | 4, h => exact h
   | 5, h => exact (by obtain ⟨A, n, c, e, h1, h2, h3⟩ := h; exact ⟨A, n, c, e, h1.below hT, h2, h3⟩)
   | 6, h => exact h
   | 7, h => exact h
   | j + 8, h => trivial
 · refine ⟨?_, ?_, ?_, ?_, ?_, ?_, ?_, ?_, trivial⟩
   · intro listed σ w a hin hout hl hc hp hG hF
     refine Guarded.none rfl ?_
     have e2 : a.tmps.getD 2 undef = .pointer (some ⟨w0.heap.size, 0, none⟩) := hout 2 (outB_spec (by kernel_rfl))
     refine Does.val (.pointer (some ⟨w0.heap.size, 0, none⟩)) (w' := w) ?_ ⟨Below.refl _ _, rfl, hG⟩
     simp only [Array.getD_eq_getD_getElem?] at e2
     go_simp
   · intro listed σ w a hin hout hl hc hp hG hF
     refine Guarded.none rfl ?_
     have e6 : a.tmps.getD 6 undef = .pointer (some ⟨w0.heap.size, 0, none⟩) := (hin 0 6 rfl (hp ⟨0, .data⟩ (by simp) rfl)).trans (hF 0 (hp ⟨0, .data⟩ (by simp) rfl))
     have CC := SOF.out w hG; obtain ⟨C0, C1, C2, D0, D1, D2⟩ := CC
     refine Does.val (.slice A n c) (w' := w) ?_ ⟨Below.refl _ _, rfl, hG⟩
     go_simp
   · intro listed σ w a hin hout hl hc hp hG hF
     refine Guarded.none rfl ?_
     have e7 : a.tmps.getD 7 undef = .slice A n c := (hin 1 7 rfl (hp ⟨1, .data⟩ (by simp) rfl)).trans (hF 1 (hp ⟨1, .data⟩ (by simp) rfl))
     refine Does.call ?_ (HPA.out w hG) ?_
     · go_simp
     · rintro e w' ⟨A, n, c, rfl, hp, h1, h2, hb⟩
       exact ⟨_, rfl, hb, ⟨A, n, c, rfl, hp, h1, h2⟩, hG.next hb⟩
   · intro listed σ w a hin hout hl hc hp hG hF
     refine Guarded.none rfl ?_
     have e3 : a.tmps.getD 3 undef = .pointer (some ⟨w0.heap.size + 1, 0, none⟩) := hout 3 (outB_spec (by kernel_rfl))
     refine Does.val (.pointer (some ⟨w0.heap.size + 1, 0, none⟩)) (w' := w) ?_ ⟨Below.refl _ _, rfl, hG⟩
     simp only [Array.getD_eq_getD_getElem?] at e3
     go_simp
   · intro listed σ w a hin hout hl hc hp hG hF
     refine Guarded.none rfl ?_
     have e9 : a.tmps.getD 9 undef = .pointer (some ⟨w0.heap.size + 1, 0, none⟩) := (hin 3 9 rfl (hp ⟨3, .data⟩ (by simp) rfl)).trans (hF 3 (hp ⟨3, .data⟩ (by simp) rfl))
     have CC := SOF.out w hG; obtain ⟨C0, C1, C2, D0, D1, D2⟩ := CC
     refine Does.val (.slice A2 n2 c2) (w' := w) ?_ ⟨Below.refl _ _, rfl, hG⟩
     go_simp
   · intro listed σ w a hin hout hl hc hp hG hF
     refine Guarded.none rfl ?_
     have e10 : a.tmps.getD 10 undef = .slice A2 n2 c2 := (hin 4 10 rfl (hp ⟨4, .data⟩ (by simp) rfl)).trans (hF 4 (hp ⟨4, .data⟩ (by simp) rfl))
     refine Does.call ?_ (HPB.out w hG) ?_
     · go_simp
     · rintro e w' ⟨A, n, c, rfl, hp, h1, h2, hb⟩
       exact ⟨_, rfl, hb, ⟨A, n, c, rfl, hp, h1, h2⟩, hG.next hb⟩
   · intro listed σ w a hin hout hl hc hp hG hF
     refine Guarded.none rfl ?_
     have e8 := hin 2 8 rfl (hp ⟨2, .data⟩ (by simp) rfl)
     obtain ⟨Aa, na, ca, ev2, p2, h21, h22⟩ := hF 2 (hp ⟨2, .data⟩ (by simp) rfl)
     rw [ev2] at e8
     have e11 := hin 5 11 rfl (hp ⟨5, .data⟩ (by simp) rfl)
     obtain ⟨Ab, nb, cb, ev5, p5, h51, h52⟩ := hF 5 (hp ⟨5, .data⟩ (by simp) rfl)
     rw [ev5] at e11
     refine Does.call ?_ (compareFunc_any Aa na ca Ab nb cb (norm L) (norm M) kk w p2 p5 (by omega) (by omega) hkk) ?_
     · go_simp
     · rintro e w' ⟨rfl, hb⟩
       exact ⟨_, rfl, hb, rfl, hG.next hb⟩
   · intro listed σ w a hin hout hl hc hp hG hF
     refine Guarded.none rfl ?_
     have e12 : a.tmps.getD 12 undef = .int .i64 (cmpL (norm L) (norm M)) := (hin 6 12 rfl (hp ⟨6, .data⟩ (by simp) rfl)).trans (hF 6 (hp ⟨6, .data⟩ (by simp) rfl))
     refine Does.val (.int .i64 (cmpL (norm L) (norm M))) (w' := w) ?_ ⟨Below.refl _ _, rfl, hG⟩
     simp only [Array.getD_eq_getD_getElem?] at e12
     go_simp
 · intro listed σ W9 hall hG hF
   rw [show mid _ σ listed _ = (Act.put (Act.put (Act.put (Act.put (Act.put (Act.put (Act.put (Act.put _ (some 6) (σ 0)) (some 7) (σ 1)) (some 8) (σ 2)) (some 9) (σ 3)) (some 10) (σ 4)) (some 11) (σ 5)) (some 12) (σ 6)) (some 5) (σ 7)) from (mid_all hall).trans rfl]
   generalize σ 0 = tt0
   generalize σ 1 = tt1
   generalize σ 2 = tt2
   generalize σ 3 = tt3
   generalize σ 4 = tt4
   generalize σ 5 = tt5
   generalize σ 6 = tt6
   rw [show σ 7 = .int .i64 (cmpL (norm L) (norm M)) from hF 7 (by decide)]
   simp only [Act.put, List.setIfInBounds_toArray, List.set_cons_zero, List.set_cons_succ]
   have TG := hG
   clear hF hG hall
   clear σ
   have C := SOF.out W9 TG
   obtain ⟨C0, C1, C2, D0, D1, D2⟩ := C
   have hcz := (show Calls Tryz.prog 96 #[.agg #[.bool s, .slice B m d], .agg #[.bool s2, .slice B2 m2 d2]] W9 (fun e w' => e = .returned (.int .i64 (cmpZ K KM)) ∧ Below W9.heap.size W9 w') from cmp_z _ _ K KM k W9 (HKA.out.below TG) (HKB.out.below TG) (by omega))
   have HT := hide (T0.out.next TG)
   have HD := hide (show cmpT L M K KM = orL [cmpL (norm L) (norm M), cmpZ K KM] by rw [orL_two]; rfl)
   generalize cmpL (norm L) (norm M) = z1 at *
   generalize cmpZ K KM = z2 at *
   clear TG SOF HKA HKB HPA HPB
   go_wp2_with fail
   refine hcz.mono ?_
   rintro e w2 ⟨rfl, b2⟩
   have HT2 := hide (HT.out.next b2)
   have y1 := bl_alloc w2 (.cells #[.int .i64 z1, .int .i64 z2] 3)
   have ho := or_any (some ⟨w2.heap.size, 0, none⟩) 2 2 [z1, z2] _ (IIn.two (Box.new 3 w2 #[.int .i64 z1, .int .i64 z2])) (by omega)
   have HT3 := hide (HT2.out.next y1)
   clear hcz C0 C1 C2 D0 D1 D2 y1
   go_wp2_with fail
   refine ho.mono ?_
   rintro e w3 ⟨rfl, rfl⟩
   go_wp2_with fail
   go_ret
   exact ⟨by rw [HD.out]; rfl, HT3.out⟩
end Go.Proofs.YtdeakieenppmiaaGreatDoor
