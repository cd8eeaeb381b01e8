/- Texts of one seat, put together: WordLs. -/
import Derived.Test.YtljocjjdfgpbaaaB22
set_option linter.unusedVariables false
/- plumblineref15.Letters. -/
namespace Go.Proofs.Ytljocjjdfgpbaaa
open Go.RowKit
open Wo

theorem run_append_l1 {w : World} {base q gs : Nat} {v : Value} {vs : List Value} {A : Option Addr} {n c : Nat} (ty : TypeId) (h : LRow 47 1 w base v q vs) (hb : Box 47 w gs #[.slice A n c]) (hq : q ≤ 1000) (hbase : base ≤ w.heap.size) :
    ∃ v' w', (Builtin.append_ #[25, 25] ty #[v, .slice (some ⟨gs, 0, none⟩) 1 1]).run Try.prog w = .ok v' w' ∧ LRow 47 1 w' base v' (q + 1) (vs ++ [.slice A n c]) ∧ w.grownBy w' v.ownBlock := by
  obtain ⟨i0, hi0, hz0, hz1, hz2⟩ := info_parts ls_info
  obtain ⟨v', w', hr, hl, hg, -⟩ := run_append_lrow2 (P := Try.prog) (w := w) base 25 ty 47 i0 _ 1 24 Try.underlying25 hi0 hz0 hz1 hz2 rfl (by decide) (fun u hu => by simp [Value.cells] at hu; rw [hu]; exact NL.slice _ _ _) v q vs h ⟨gs, 0, none⟩ 1 1 [.slice A n c] rfl
      (fun j u hu => by
        match j with
        | 0 => simp at hu; subst hu; exact hb.cell 0 _ rfl
        | j + 1 => simp at hu) (fun u hu => by simp at hu; subst hu; rfl) (fun u hu => by simp at hu; subst hu; exact NL.slice _ _ _) (by unfold maxLen; omega) (by omega) hbase
  exact ⟨v', w', hr, hl, hg⟩
theorem append_l1v {w : World} {ops : Array Oper} {rest : List Oper} {o : Oper} {a : Act} {Q : Exit → Act → World → Prop} (hgd : o.guard = none) (s x : Operand)
    (ho : o.op = .call { callee := .builtin .append, args := #[s, x], argTypes := #[25, 25] }) (base : Nat) (v : Value) (q : Nat) (vs : List Value) (hs : a.eval s = v) (hrow : LRow 47 1 w base v q vs)
    (gs : Nat) (A2 : Option Addr) (n2 c2 : Nat) (hx : a.eval x = .slice (some ⟨gs, 0, none⟩) 1 1) (hb : Box 47 w gs #[.slice A2 n2 c2]) (hn : q ≤ 1000) (hbase : base ≤ w.heap.size)
    (h : ∀ v' w', LRow 47 1 w' base v' (q + 1) (vs ++ [.slice A2 n2 c2]) → w.grownBy w' v.ownBlock → wpList Try.prog ops Q rest (a.put o.dst v') w') : wpList Try.prog ops Q (o :: rest) a w := by
  obtain ⟨v', w', hr, h2, h3⟩ := run_append_l1 o.type hrow hb hn hbase
  refine wpList_plain hgd fun K hK => ?_
  unfold Oper.wp
  rw [exec_append ho hs hx hr]
  exact hK _ _ (h v' w' h2 h3)
/-- The letters from a position on. -/
def lettersOf (L1 L2 : List (List Bool)) (x n : Nat) : List (List Bool) := (List.range n).map fun i => WL L1 L2 (x + i)
theorem lettersOf_len (L1 L2 : List (List Bool)) (x n : Nat) : (lettersOf L1 L2 x n).length = n := by simp [lettersOf]
theorem lettersOf_succ (L1 L2 : List (List Bool)) (x n : Nat) : lettersOf L1 L2 x (n + 1) = lettersOf L1 L2 x n ++ [WL L1 L2 (x + n)] := by simp [lettersOf, List.range_succ]
def LettersPost (S : Nat → Prop) (L : List (List Bool)) (w : World) (e : Ending) (w' : World) : Prop := ∃ A c, e = .returned (.slice A L.length c) ∧ LsIn (Up S w.heap.size) w' A L.length L ∧ Below w.heap.size w w'
theorem LRep.single {S : Nat → Prop} {w : World} {l : List Bool} {A : Option Addr} {c : Nat} (h1 : l.length ≤ c) (h2 : c ≤ 9223372036854775807) (h : BIn S w A l.length l) : LRep S w [l] [.slice A l.length c] :=
  ⟨rfl, (fun u hu => by simp at hu; subst hu; exact ⟨_, _, _, rfl⟩), fun j m hj => by
    match j with
    | 0 => simp at hj; subst hj; exact ⟨A, c, rfl, h1, h2, h⟩
    | j + 1 => simp at hj⟩
/-- How far the loop has come. -/
def LsRel (S : Nat → Prop) (W1 : World) (v : Value) (q : Nat) (L : List (List Bool)) (wr : World) : Prop := ∃ vs, LRow 47 1 wr W1.heap.size v q vs ∧ LRep S wr L vs ∧ Below W1.heap.size W1 wr
set_option maxRecDepth 100000 in
set_option maxHeartbeats 16000000 in
theorem letters_any (S : Nat → Prop) (A1 : Option Addr) (c1 : Nat) (A2 : Option Addr) (c2 : Nat) (L1 L2 : List (List Bool)) (fr cnt : Nat) (w0 : World) (h1 : LsIn S w0 A1 L1.length L1) (h2 : LsIn S w0 A2 L2.length L2) (h0 : 0 < L2.length) (h9 : L1.length + L2.length ≤ 500000) (hf : fr ≤ 2000000) (hc9 : cnt ≤ 100) :
    Calls Try.prog 14 #[.agg #[.slice A1 L1.length c1, .slice A2 L2.length c2], .int .i64 (fr : Int), .int .i64 (cnt : Int)] w0 (LettersPost S (lettersOf L1 L2 fr cnt) w0) := by
  obtain ⟨x3, hb, hbz⟩ := bstart1 34 w0 #[.slice A1 L1.length c1, .slice A2 L2.length c2]
  have X3 := hide x3
  have HB := hide hb
  have HZ := hide hbz
  have H1 := hide ((h1.sub (fun b hlt hs => (⟨hs, hlt⟩ : UpN S w0.heap.size b))).keep (Keep.of_below hb))
  have H2 := hide ((h2.sub (fun b hlt hs => (⟨hs, hlt⟩ : UpN S w0.heap.size b))).keep (Keep.of_below hb))
  clear hb hbz h1 h2 x3
  go_enter Try.func14, Try.ntmps14
  go_wp2_with fail
  generalize hW : w0.alloc (.cells #[.slice A1 L1.length c1, .slice A2 L2.length c2] 34) = W1 at *
  clear hW
  have HSZ := hide HZ.out
  have HROW := hide (LRow.lit (T := 47) (sz := 1) (w := W1) (base := W1.heap.size) #[] 0 (Nat.le_refl _) (by unfold maxLen; omega) rfl (fun u hu => by simp at hu))
  have HB1 := hide (bl_alloc W1 (.cells #[] 47))
  have HS0 := hide (show LsRel (UpN S w0.heap.size) W1 (.slice (some ⟨W1.heap.size, 0, none⟩) 0 0) 0 (lettersOf L1 L2 fr 0) (W1.alloc (.cells #[] 47)) from ⟨[], HROW.out, LRep.nil _ _, HB1.out⟩)
  clear HROW HB1
  go_loopw [7, 8] (fun v i wr => ∃ q : Nat, q ≤ cnt ∧ i = .int .i64 ((fr + q : Nat) : Int) ∧ Hid (LsRel (UpN S w0.heap.size) W1 v q (lettersOf L1 L2 fr q) wr)) (fun _ i _ => fr + cnt - (intOf i).toNat)
  case atStart => exact ⟨0, Nat.zero_le _, rfl, (by rw [show w0.heap.size + 1 = W1.heap.size from HSZ.out.symm]; exact HS0)⟩
  case round =>
    obtain ⟨q, hq, hi, HR⟩ := hrel
    obtain ⟨x, hx⟩ : ∃ x, x = fr + q := ⟨_, rfl⟩
    rw [← hx] at hi
    subst hi
    have HXQ := hide hx
    have hx2 : x ≤ 2000100 := by omega
    obtain ⟨vs, hrow, hrep, hbr⟩ := HR.out
    obtain ⟨A7, c7, rfl, hc71, hc72, -⟩ := hrow.len
    have HSTEP := hide (show ∀ (w9 : World) (v' : Value) (Al : Option Addr) (cl : Nat) (l : List Bool), l = WL L1 L2 (fr + q) → l.length ≤ cl → cl ≤ 9223372036854775807 → BIn (UpN S w0.heap.size) wr Al l.length l → LRow 47 1 w9 W1.heap.size v' (q + 1) (vs ++ [.slice Al l.length cl]) → wr.grownBy w9 (Value.slice A7 q c7).ownBlock → LsRel (UpN S w0.heap.size) W1 v' (q + 1) (lettersOf L1 L2 fr (q + 1)) w9 from by
      intro w9 v' Al cl l hl k1 k2 k3 k4 hg
      have hb9 := hrow.old hbr hg (Nat.le_refl _) (Nat.le_refl _)
      have hk : Keep (UpN S w0.heap.size) wr w9 := Keep.upN (HB.out.next hbr) (HB.out.next hb9) hg.size
      exact ⟨_, k4, (by rw [lettersOf_succ, ← hl]; exact (hrep.app (LRep.single k1 k2 k3)).keep hk), hb9⟩)
    have HROW := hide hrow
    have HBR := hide hbr
    have HRW := hide (fun gs (e : (Value.slice A7 q c7).ownBlock = some gs) => (hrow.lt gs e).2)
    have X3r := hide (X3.out.next hbr)
    have HA := hide (H1.out.keep (Keep.of_below hbr))
    have HBB := hide (H2.out.keep (Keep.of_below hbr))
    have hwsz := hbr.size
    have HEND := hide HR.out
    clear HR hrow hrep hbr
    by_cases hqc : q < cnt
    · have g1 : (x : Int) < (fr : Int) + (cnt : Int) := by omega
      have g12 : (fr : Int) + (cnt : Int) ≤ 2000100 := by omega
      clear hx
      by_cases hxl : x < L1.length
      · have g2 : (x : Int) < (L1.length : Int) := by omega
        obtain ⟨be, oe, Al, cl, l, hA, hlt, hl, d0, hc1, hc2, hbl⟩ := HA.out.at_ hxl
        have hlw : l = WL L1 L2 (fr + q) := by rw [← HXQ.out, WL_stem hxl, List.getD_eq_getElem?_getD, hl]; rfl
        have HST := hide (fun w9 v' => HSTEP.out w9 v' Al cl l hlw hc1 hc2 hbl)
        subst hA
        have cc0 := X3r.out.cell 0 _ rfl
        have hb3 := bl_alloc wr (.cells #[.slice Al l.length cl] 47)
        have ROW := hide (HROW.out.below hb3)
        have HX8 := hide (Box.new 47 wr #[.slice Al l.length cl])
        have HB3 := hide hb3
        have hsz : W1.heap.size ≤ (wr.alloc (.cells #[.slice Al l.length cl] 47)).heap.size := Nat.le_trans hwsz hb3.size
        clear hb3 hl hbl hlw HSTEP hlt
        go_wp2_with (at_builtin; refine append_l1v rfl _ _ rfl W1.heap.size (.slice A7 q c7) q vs rfl ROW.out wr.heap.size Al l.length cl rfl HX8.out (by omega) hsz ?_; intro v' w9 r1 g9)
        have HR9 := hide (HST.out w9 v' r1 (grown_trans HB3.out g9))
        clear r1 g9 ROW HB3 HX8 hsz cc0 d0
        go_wp2_with fail
        go_roundw
        case rel => exact ⟨q + 1, by omega, by have := HXQ.out; simp only [Value.int.injEq, true_and]; omega, HR9⟩
        case measure => have := HXQ.out; simp [intOf]; omega
      · have g2 : ¬ (x : Int) < (L1.length : Int) := by omega
        obtain ⟨y, hy⟩ : ∃ y, y = (x - L1.length) % L2.length := ⟨_, rfl⟩
        have hyl : y < L2.length := by rw [hy]; exact Nat.mod_lt _ h0
        obtain ⟨be, oe, Al, cl, l, hA, hlt, hl, d0, hc1, hc2, hbl⟩ := HBB.out.at_ hyl
        have hlw : l = WL L1 L2 (fr + q) := by rw [← HXQ.out, WL_cycle (by omega), List.getD_eq_getElem?_getD, ← hy, hl]; rfl
        have HST := hide (fun w9 v' => HSTEP.out w9 v' Al cl l hlw hc1 hc2 hbl)
        subst hA
        have HLT := hide hlt
        have G11 := hide (show ((x : Int) - (L1.length : Int)).tmod (L2.length : Int) = (y : Int) from by rw [hy, Int.tmod_eq_emod_of_nonneg (by omega), show (x : Int) - (L1.length : Int) = ((x - L1.length : Nat) : Int) by omega]; rfl)
        have HNE := hide (show ¬ L2 = [] from fun e => by rw [e] at h0; exact absurd h0 (by decide))
        have D0 := hide d0
        have SOF := hide (fun w (h : Below wr.heap.size wr w) => (⟨(X3r.out.next h).cell 0 _ rfl, (X3r.out.next h).cell 1 _ rfl, (below_cell h HLT.out).trans D0.out⟩ : _ ∧ _ ∧ _))
        have cc0 := X3r.out.cell 0 _ rfl
        clear hl hbl hlw HSTEP hlt hy d0
        go_upto_region 7 with fail
        refine wp_drawnL (by kernel_rfl) (by kernel_rfl) (by kernel_rfl) (by kernel_rfl) (Tg (Value.slice A7 q c7).ownBlock) (fun j v w => match j with | 0 => v = .slice A7 q c7 | 1 => v = .pointer (some ⟨w0.heap.size, 1, none⟩) | 2 => v = .slice (some ⟨be, oe, none⟩) L2.length c2 | 3 => v = .int .i64 (x : Int) | 4 => v = .pointer (some ⟨w0.heap.size, 0, none⟩) | 5 => v = .slice A1 L1.length c1 | 6 => v = .int .i64 (L1.length : Int) | 7 => v = .int .i64 ((x : Int) - (L1.length : Int)) | 8 => v = .pointer (some ⟨w0.heap.size, 1, none⟩) | 9 => v = .slice (some ⟨be, oe, none⟩) L2.length c2 | 10 => v = .int .i64 (L2.length : Int) | 11 => v = .int .i64 (y : Int) | 12 => v = .pointer (some ⟨be, oe + y, none⟩) | 13 => v = .slice Al l.length cl | 14 => ∃ gs, v = .slice (some ⟨gs, 0, none⟩) 1 1 ∧ wr.heap.size ≤ gs ∧ Box 47 w gs #[.slice Al l.length cl] | 15 => True | _ => True) (GA 15 wr (fun v w => LRow 47 1 w W1.heap.size v (q + 1) (vs ++ [.slice Al l.length cl]) ∧ wr.grownBy w (Value.slice A7 q c7).ownBlock)) ?_ (fun _ => GA.start _ (bl_drewN wr 1)) ?_ ?_
        · intro j v w w' hT h
          match j, h with
          | 0, h => exact h
          | 1, h => exact h
          | 2, h => exact h
          | 3, h => exact h
          | 4, h => exact h
          | 5, h => exact h
          | 6, h => exact h
          | 7, h => exact h
          | 8, h => exact h
          | 9, h => exact h
          | 10, h => exact h
          | 11, h => exact h
          | 12, h => exact h
          | 13, h => exact h
          | 14, h => exact (by obtain ⟨gs, e, hg, hx⟩ := h; exact ⟨gs, e, hg, hx.grown hT.1 (fun e => by have := HRW.out gs e.symm; omega)⟩)
          | 15, h => exact trivial
          | j + 16, h => trivial
        · refine ⟨?_, ?_, ?_, ?_, ?_, ?_, ?_, ?_, ?_, ?_, ?_, ?_, ?_, ?_, ?_, ?_, trivial⟩
          · intro listed σ w a hin hout hl hla hs hc hp hG hF
            refine Guarded.none rfl ?_
            have e7 : a.tmps.getD 7 undef = .slice A7 q c7 := hout 7 (soleW_spec (j := 16) (by kernel_rfl) hla)
            refine Does.val (.slice A7 q c7) (w' := w) ?_ ⟨Tg.refl _ _, rfl, hG.same (by decide)⟩
            simp only [Array.getD_eq_getD_getElem?] at e7
            go_simp
          · intro listed σ w a hin hout hl hla hs hc hp hG hF
            refine Guarded.none rfl ?_
            have e3 : a.tmps.getD 3 undef = .pointer (some ⟨w0.heap.size, 0, none⟩) := hout 3 (outB_spec (by kernel_rfl))
            refine Does.val (.pointer (some ⟨w0.heap.size, 1, none⟩)) (w' := w) ?_ ⟨Tg.refl _ _, rfl, hG.same (by decide)⟩
            simp only [Array.getD_eq_getD_getElem?] at e3
            go_simp
          · intro listed σ w a hin hout hl hla hs hc hp hG hF
            refine Guarded.none rfl ?_
            have e32 : a.tmps.getD 32 undef = .pointer (some ⟨w0.heap.size, 1, none⟩) := (hin 1 32 rfl (hp ⟨1, .data⟩ (by simp) rfl)).trans (hF 1 (hp ⟨1, .data⟩ (by simp) rfl))
            have CC := SOF.out w (hG.1 (un_next (k := 15) hc (un_next (k := 14) hc (un_next (k := 13) hc (un_next (k := 12) hc hl (by kernel_rfl)) (by kernel_rfl)) (by kernel_rfl)) (by kernel_rfl))); obtain ⟨C0, C1, C2⟩ := CC
            refine Does.val (.slice (some ⟨be, oe, none⟩) L2.length c2) (w' := w) ?_ ⟨Tg.refl _ _, rfl, hG.same (by decide)⟩
            go_simp
          · intro listed σ w a hin hout hl hla hs hc hp hG hF
            refine Guarded.none rfl ?_
            have e8 : a.tmps.getD 8 undef = .int .i64 (x : Int) := hout 8 (outB_spec (by kernel_rfl))
            refine Does.val (.int .i64 (x : Int)) (w' := w) ?_ ⟨Tg.refl _ _, rfl, hG.same (by decide)⟩
            simp only [Array.getD_eq_getD_getElem?] at e8
            go_simp
          · intro listed σ w a hin hout hl hla hs hc hp hG hF
            refine Guarded.none rfl ?_
            have e3 : a.tmps.getD 3 undef = .pointer (some ⟨w0.heap.size, 0, none⟩) := hout 3 (outB_spec (by kernel_rfl))
            refine Does.val (.pointer (some ⟨w0.heap.size, 0, none⟩)) (w' := w) ?_ ⟨Tg.refl _ _, rfl, hG.same (by decide)⟩
            simp only [Array.getD_eq_getD_getElem?] at e3
            go_simp
          · intro listed σ w a hin hout hl hla hs hc hp hG hF
            refine Guarded.none rfl ?_
            have e35 : a.tmps.getD 35 undef = .pointer (some ⟨w0.heap.size, 0, none⟩) := (hin 4 35 rfl (hp ⟨4, .data⟩ (by simp) rfl)).trans (hF 4 (hp ⟨4, .data⟩ (by simp) rfl))
            have CC := SOF.out w (hG.1 (un_next (k := 15) hc (un_next (k := 14) hc (un_next (k := 13) hc (un_next (k := 12) hc (un_next (k := 11) hc (un_next (k := 7) hc (un_next (k := 6) hc hl (by kernel_rfl)) (by kernel_rfl)) (by kernel_rfl)) (by kernel_rfl)) (by kernel_rfl)) (by kernel_rfl)) (by kernel_rfl))); obtain ⟨C0, C1, C2⟩ := CC
            refine Does.val (.slice A1 L1.length c1) (w' := w) ?_ ⟨Tg.refl _ _, rfl, hG.same (by decide)⟩
            go_simp
          · intro listed σ w a hin hout hl hla hs hc hp hG hF
            refine Guarded.none rfl ?_
            have e36 : a.tmps.getD 36 undef = .slice A1 L1.length c1 := (hin 5 36 rfl (hp ⟨5, .data⟩ (by simp) rfl)).trans (hF 5 (hp ⟨5, .data⟩ (by simp) rfl))
            refine Does.val (.int .i64 (L1.length : Int)) (w' := w) ?_ ⟨Tg.refl _ _, rfl, hG.same (by decide)⟩
            simp only [Array.getD_eq_getD_getElem?] at e36
            go_simp
          · intro listed σ w a hin hout hl hla hs hc hp hG hF
            refine Guarded.none rfl ?_
            have e34 : a.tmps.getD 34 undef = .int .i64 (x : Int) := (hin 3 34 rfl (hp ⟨3, .data⟩ (by simp) rfl)).trans (hF 3 (hp ⟨3, .data⟩ (by simp) rfl))
            have e37 : a.tmps.getD 37 undef = .int .i64 (L1.length : Int) := (hin 6 37 rfl (hp ⟨6, .data⟩ (by simp) rfl)).trans (hF 6 (hp ⟨6, .data⟩ (by simp) rfl))
            refine Does.val (.int .i64 ((x : Int) - (L1.length : Int))) (w' := w) ?_ ⟨Tg.refl _ _, rfl, hG.same (by decide)⟩
            simp only [Array.getD_eq_getD_getElem?] at e34 e37
            go_simp
            (try exact i64w (by omega) (by omega))
          · intro listed σ w a hin hout hl hla hs hc hp hG hF
            refine Guarded.none rfl ?_
            have e3 : a.tmps.getD 3 undef = .pointer (some ⟨w0.heap.size, 0, none⟩) := hout 3 (outB_spec (by kernel_rfl))
            refine Does.val (.pointer (some ⟨w0.heap.size, 1, none⟩)) (w' := w) ?_ ⟨Tg.refl _ _, rfl, hG.same (by decide)⟩
            simp only [Array.getD_eq_getD_getElem?] at e3
            go_simp
          · intro listed σ w a hin hout hl hla hs hc hp hG hF
            refine Guarded.none rfl ?_
            have e39 : a.tmps.getD 39 undef = .pointer (some ⟨w0.heap.size, 1, none⟩) := (hin 8 39 rfl (hp ⟨8, .data⟩ (by simp) rfl)).trans (hF 8 (hp ⟨8, .data⟩ (by simp) rfl))
            have CC := SOF.out w (hG.1 (un_next (k := 15) hc (un_next (k := 14) hc (un_next (k := 13) hc (un_next (k := 12) hc (un_next (k := 11) hc (un_next (k := 10) hc hl (by kernel_rfl)) (by kernel_rfl)) (by kernel_rfl)) (by kernel_rfl)) (by kernel_rfl)) (by kernel_rfl))); obtain ⟨C0, C1, C2⟩ := CC
            refine Does.val (.slice (some ⟨be, oe, none⟩) L2.length c2) (w' := w) ?_ ⟨Tg.refl _ _, rfl, hG.same (by decide)⟩
            go_simp
          · intro listed σ w a hin hout hl hla hs hc hp hG hF
            refine Guarded.none rfl ?_
            have e40 : a.tmps.getD 40 undef = .slice (some ⟨be, oe, none⟩) L2.length c2 := (hin 9 40 rfl (hp ⟨9, .data⟩ (by simp) rfl)).trans (hF 9 (hp ⟨9, .data⟩ (by simp) rfl))
            refine Does.val (.int .i64 (L2.length : Int)) (w' := w) ?_ ⟨Tg.refl _ _, rfl, hG.same (by decide)⟩
            simp only [Array.getD_eq_getD_getElem?] at e40
            go_simp
          · intro listed σ w a hin hout hl hla hs hc hp hG hF
            refine Guarded.none rfl ?_
            have e38 : a.tmps.getD 38 undef = .int .i64 ((x : Int) - (L1.length : Int)) := (hin 7 38 rfl (hp ⟨7, .data⟩ (by simp) rfl)).trans (hF 7 (hp ⟨7, .data⟩ (by simp) rfl))
            have e41 : a.tmps.getD 41 undef = .int .i64 (L2.length : Int) := (hin 10 41 rfl (hp ⟨10, .data⟩ (by simp) rfl)).trans (hF 10 (hp ⟨10, .data⟩ (by simp) rfl))
            refine Does.val (.int .i64 (y : Int)) (w' := w) ?_ ⟨Tg.refl _ _, rfl, hG.same (by decide)⟩
            simp only [Array.getD_eq_getD_getElem?] at e38 e41
            go_simp
            (try rw [if_neg HNE.out, G11.out])
          · intro listed σ w a hin hout hl hla hs hc hp hG hF
            refine Guarded.none rfl ?_
            have e33 : a.tmps.getD 33 undef = .slice (some ⟨be, oe, none⟩) L2.length c2 := (hin 2 33 rfl (hp ⟨2, .data⟩ (by simp) rfl)).trans (hF 2 (hp ⟨2, .data⟩ (by simp) rfl))
            have e42 : a.tmps.getD 42 undef = .int .i64 (y : Int) := (hin 11 42 rfl (hp ⟨11, .data⟩ (by simp) rfl)).trans (hF 11 (hp ⟨11, .data⟩ (by simp) rfl))
            refine Does.val (.pointer (some ⟨be, oe + y, none⟩)) (w' := w) ?_ ⟨Tg.refl _ _, rfl, hG.same (by decide)⟩
            simp only [Array.getD_eq_getD_getElem?] at e33 e42
            go_simp
            (try (intro hh; exfalso; omega))
          · intro listed σ w a hin hout hl hla hs hc hp hG hF
            refine Guarded.none rfl ?_
            have e43 : a.tmps.getD 43 undef = .pointer (some ⟨be, oe + y, none⟩) := (hin 12 43 rfl (hp ⟨12, .data⟩ (by simp) rfl)).trans (hF 12 (hp ⟨12, .data⟩ (by simp) rfl))
            have CC := SOF.out w (hG.1 (un_next (k := 15) hc (un_next (k := 14) hc hl (by kernel_rfl)) (by kernel_rfl))); obtain ⟨C0, C1, C2⟩ := CC
            refine Does.val (.slice Al l.length cl) (w' := w) ?_ ⟨Tg.refl _ _, rfl, hG.same (by decide)⟩
            go_simp
          · intro listed σ w a hin hout hl hla hs hc hp hG hF
            refine Guarded.none rfl ?_
            have e44 : a.tmps.getD 44 undef = .slice Al l.length cl := (hin 13 44 rfl (hp ⟨13, .data⟩ (by simp) rfl)).trans (hF 13 (hp ⟨13, .data⟩ (by simp) rfl))
            have hB := hG.1 (un_next (k := 15) hc hl (by kernel_rfl))
            refine Does.val (.slice (some ⟨w.heap.size, 0, none⟩) 1 1) (w' := w.alloc (.cells #[.slice Al l.length cl] 47)) ?_ ⟨Tg.of_below (bl_alloc w _), ⟨w.heap.size, rfl, hB.size, Box.new _ _ _⟩, hG.call (by decide) (un_next (k := 15) hc hl (by kernel_rfl)) (bl_alloc w _)⟩
            simp only [Array.getD_eq_getD_getElem?] at e44
            go_simp
          · intro listed σ w a hin hout hl hla hs hc hp hG hF
            refine Guarded.none rfl ?_
            have e31 : a.tmps.getD 31 undef = .slice A7 q c7 := (hin 0 31 rfl (hp ⟨0, .data⟩ (by simp) rfl)).trans (hF 0 (hp ⟨0, .data⟩ (by simp) rfl))
            have e45 := hin 14 45 rfl (hp ⟨14, .data⟩ (by simp) rfl)
            obtain ⟨g14, ev14, hg14, b14⟩ := hF 14 (hp ⟨14, .data⟩ (by simp) rfl)
            rw [ev14] at e45
            have hl0 := hl
            have hB := hG.1 hl
            have hr0 := HROW.out.below hB
            obtain ⟨v', w', hr, h2, h3⟩ := run_append_l1 _ hr0 b14 (by omega) (by have := hB.size; have := HSZ.out; omega)
            refine Does.val v' (w' := w') ?_ ⟨⟨h3, hr0.kp h3⟩, trivial, GA.on_ hl0 (by rw [hs]; decide) ⟨h2, grown_trans hB h3⟩⟩
            exact exec_append rfl e31 e45 hr
        · intro o ho
          injection ho with ho; subst ho
          intro listed σ w a hall hin hout hG hF
          refine Guarded.none rfl ?_
          have e46 := hin 15 46 rfl (by decide)
          have z15 := hF 15 (by decide)
          obtain ⟨r9, g9⟩ := hG.2 (hall 15 (by decide))
          refine Does.val (σ 15) (w' := w) (by simp only [Array.getD_eq_getD_getElem?] at e46; go_simp) ?_
          have HR9 := hide (HST.out w _ r9 g9)
          rw [show fin _ σ (σ 15) _ = (Act.put (Act.put (Act.put (Act.put (Act.put (Act.put (Act.put (Act.put (Act.put (Act.put (Act.put (Act.put (Act.put (Act.put (Act.put (Act.put (Act.put _ (some 31) (σ 0)) (some 32) (σ 1)) (some 33) (σ 2)) (some 34) (σ 3)) (some 35) (σ 4)) (some 36) (σ 5)) (some 37) (σ 6)) (some 38) (σ 7)) (some 39) (σ 8)) (some 40) (σ 9)) (some 41) (σ 10)) (some 42) (σ 11)) (some 43) (σ 12)) (some 44) (σ 13)) (some 45) (σ 14)) (some 46) (σ 15)) (some 7) (σ 15)) from (fin_all hall).trans rfl]
          simp only [Act.put, List.setIfInBounds_toArray, List.set_cons_zero, List.set_cons_succ]
          clear hF hG hall hin hout SOF e46 r9 g9
          generalize σ 0 = tt0 at *; generalize σ 1 = tt1 at *; generalize σ 2 = tt2 at *; generalize σ 3 = tt3 at *; generalize σ 4 = tt4 at *; generalize σ 5 = tt5 at *; generalize σ 6 = tt6 at *; generalize σ 7 = tt7 at *; generalize σ 8 = tt8 at *; generalize σ 9 = tt9 at *; generalize σ 10 = tt10 at *; generalize σ 11 = tt11 at *; generalize σ 12 = tt12 at *; generalize σ 13 = tt13 at *; generalize σ 14 = tt14 at *; generalize σ 15 = tt15 at *
          go_wp2_with fail
          go_roundw
          case rel => exact ⟨q + 1, by omega, by have := HXQ.out; simp only [Value.int.injEq, true_and]; omega, HR9⟩
          case measure => have := HXQ.out; simp [intOf]; omega
    · have g1 : ¬ (x : Int) < (fr : Int) + (cnt : Int) := by omega
      obtain rfl : q = cnt := by omega
      clear hx
      obtain ⟨vs2, hr2, hp2, hb2⟩ := HEND.out
      have hls := (hp2.lsIn hr2 (lettersOf_len L1 L2 fr q).symm).sub (S' := Up S w0.heap.size) (fun b _ h => by rcases h with h | h; exact .inl h.1; exact .inr (by have := HSZ.out; omega))
      have HPO := hide (show LettersPost S (lettersOf L1 L2 fr q) w0 (.returned (.slice A7 q c7)) wr from ⟨A7, c7, by rw [lettersOf_len], by rw [lettersOf_len]; exact hls, HB.out.next hb2⟩)
      clear hr2 hp2 hb2 hls
      go_wp2_with fail
      go_ret
      exact HPO.out
end Go.Proofs.Ytljocjjdfgpbaaa
