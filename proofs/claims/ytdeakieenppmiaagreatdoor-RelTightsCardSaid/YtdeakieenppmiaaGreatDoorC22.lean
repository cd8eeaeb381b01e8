/- Texts of one seat, put together: RCoef InsertP RVars. -/
import Derived.Test.YtdeakieenppmiaaGreatDoorC21
set_option linter.unusedVariables false
set_option linter.unusedSimpArgs false
set_option maxRecDepth 100000
set_option maxHeartbeats 16000000
/- plumblineref03.Coef. -/
namespace Go.Proofs.YtdeakieenppmiaaGreatDoor
open Go.RowKit
open Tm

theorem coef_take_succ (L : List (Int × Int)) (q : Nat) (u c x : Int) (h : L[q]? = some (u, c)) : coef (L.take (q + 1)) x = coef (L.take q) x + (if u = x ∧ 0 ≤ x then c else 0) := by
 rw [List.take_add_one, h, coef_append]
 simp [coef]
/-- How far the loop has come. -/
def CoefRel (w0 W1 : World) (L : List (Int × Int)) (x : Int) (k q : Nat) (wr : World) : Prop :=
 ∃ s A n c, Blk wr (w0.heap.size + 1 + 1) #[.bool s, .slice A n c] ∧ ZRes wr (.agg #[.bool s, .slice A n c]) (coef (L.take q) x) (k + q) ∧ Below (w0.heap.size + 1 + 1) W1 wr
theorem rcoef_any (v : Value) (L : List (Int × Int)) (K x : Int) (k : Nat) (w0 : World) (hv : TIn w0 v L K k) (hl : L.length ≤ 1099511) (hk : k ≤ 1099511627) : Calls Tryz.prog 46 #[v, .int .i64 x] w0 (ZPost (coef L x) (k + L.length) w0) := by
 obtain ⟨A, n, c, s, B, m, d, rfl, hp, hc1, hc2, -⟩ := hv
 have hn := hp.len
 obtain ⟨z0, z1, z2, z3, z4⟩ := bstart3 28 26 26 w0 #[.slice A n c, .bool s, .slice B m d] #[.bool false, .slice none 0 0] #[.bool false, .slice none 0 0]
 have x0 := z0.c0
 rw [hn] at hl
 have HN := hide hn
 clear hn
 go_enter Tryz.func46, Tryz.ntmps46
 go_wp2_with fail
 generalize hW1 : (((w0.alloc (.cells #[.slice A n c, .bool s, .slice B m d] 28)).alloc (.cells #[.bool false, .slice none 0 0] 26)).alloc (.cells #[.bool false, .slice none 0 0] 26)) = W1 at *
 clear hW1 x0
 have HS := hide (show CoefRel w0 W1 L x k 0 W1 from ⟨false, none, 0, 0, z2, ZRes.zero _ _, Below.refl _ _⟩)
 have R0 := hide z1
 have T0 := hide z3
 have HZ4 := hide z4
 have HP0 := hide hp
 have Z0 := hide z0
 clear z0 z1 z2 z3 z4 hp
 go_loopw [6] (fun i wr => ∃ q : Nat, q ≤ n ∧ i = .int .i64 q ∧ Hid (CoefRel w0 W1 L x k q wr)) (fun i _ => n - (intOf i).toNat)
 case atStart => exact ⟨0, Nat.zero_le _, rfl, HS⟩
 case round =>
  obtain ⟨q, hq, rfl, HR⟩ := hrel
  obtain ⟨s5, A5, n5, c5, b5, zz5, hB⟩ := HR.out
  have hBW : w0.heap.size + 1 + 1 ≤ W1.heap.size := by have := HZ4.out; omega
  have zt := Z0.out.below hB (by omega)
  have hT : Below w0.heap.size w0 wr := T0.out.trans (hB.mono (by omega))
  have x0 := zt.c0
  by_cases hqn : q < n
  · have hPw : PIn wr A n L k := by
      obtain ⟨ps, h1, h2⟩ := HP0.out
      exact ⟨ps, h1.below hT, h2⟩
    obtain ⟨bb, o, p, rfl, hlt, hLp, c0, c1, c2, hz⟩ := hPw.at_ hqn
    by_cases hpx : p.v = x
    · by_cases hx0 : 0 ≤ x
      · have HC := hide (show coef (L.take q) x + p.Z = coef (L.take (q + 1)) x by rw [coef_take_succ L q _ _ x hLp, if_pos ⟨hpx, hx0⟩])
        have hbb : (p.v == x) = true := by simpa using hpx
        have HZ := hide hz
        have HZ5 := hide zz5
        generalize hY : coef (L.take q) x = Y at *
        clear hY hz zz5 hLp hpx HR
        have HB5 := hide b5
        have HZT := hide zt
        have HBB := hide hB
        have HTT := hide hT
        have b50 := b5.c0
        have b51 := b5.c1
        go_wp2_with fail
        clear b50 b51 x0
        have HA := hide (fun W (h : Below wr.heap.size wr W) => rzadd_z (.agg #[.bool s5, .slice A5 n5 c5]) (.agg #[.bool p.s, .slice p.B p.m p.d]) Y p.Z (k + q) W ((HZ5.out.in_).below h) ((HZ.out.mono (by omega)).below h) (by omega))
        have SOF := hide (show ∀ W, Below wr.heap.size wr W → (W.cell? ⟨w0.heap.size + 1 + 1, 0, none⟩ = some (.bool s5) ∧ W.cell? ⟨w0.heap.size + 1 + 1, 1, none⟩ = some (.slice A5 n5 c5) ∧ W.cell? ⟨w0.heap.size, 0, none⟩ = some (.slice (some ⟨bb, o, none⟩) n c) ∧ W.cell? ⟨bb, o + q * 3 + 1, none⟩ = some (.bool p.s) ∧ W.cell? ⟨bb, o + q * 3 + 2, none⟩ = some (.slice p.B p.m p.d)) from fun W h => ⟨(HB5.out.next h).c0, (HB5.out.next h).c1, (HZT.out.next h).c0, (h.cell (p := ⟨bb, o + q * 3 + 1, none⟩) hlt).trans c1, (h.cell (p := ⟨bb, o + q * 3 + 2, none⟩) hlt).trans c2⟩)
        clear b5 zt c0 c1 c2 hB hT
        refine wp_drawnL (by kernel_rfl) (by kernel_rfl) (by kernel_rfl) (by kernel_rfl) (fun w w' => Below w.heap.size w w') (fun j v w => match j with | 0 => v = .agg #[.bool s5, .slice A5 n5 c5] | 1 => v = .pointer (some ⟨w0.heap.size, 0, none⟩) | 2 => v = .slice (some ⟨bb, o, none⟩) n c | 3 => v = .int .i64 (q : Int) | 4 => v = .pointer (some ⟨bb, o + q * 3, none⟩) | 5 => v = .pointer (some ⟨bb, o + q * 3 + 1, none⟩) | 6 => v = .agg #[.bool p.s, .slice p.B p.m p.d] | 7 => ZRes w v (Y + p.Z) (k + q + 1) | _ => True) (fun _ _ w => Below wr.heap.size wr w) ?_ (fun _ => bl_drewN wr 1) ?_ ?_
        · intro j v w w' hT h
          match j, h with
          | 0, h => exact h
          | 1, h => exact h
          | 2, h => exact h
          | 3, h => exact h
          | 4, h => exact h
          | 5, h => exact h
          | 6, h => exact h
          | 7, h => exact h.below hT
          | j + 8, h => trivial
        · refine ⟨?_, ?_, ?_, ?_, ?_, ?_, ?_, ?_, trivial⟩
          · intro listed σ w a hin hout hl hla hs hc hp hG hF
            refine Guarded.none rfl ?_
            have e5 : a.tmps.getD 5 undef = .pointer (some ⟨w0.heap.size + 1 + 1, 0, none⟩) := hout 5 (outB_spec (by kernel_rfl))
            have CC := SOF.out w hG; obtain ⟨C0, C1, C2, D0, D1⟩ := CC
            refine Does.val (.agg #[.bool s5, .slice A5 n5 c5]) (w' := w) ?_ ⟨Below.refl _ _, rfl, hG⟩
            go_simp
          · intro listed σ w a hin hout hl hla hs hc hp hG hF
            refine Guarded.none rfl ?_
            have e2 : a.tmps.getD 2 undef = .pointer (some ⟨w0.heap.size, 0, none⟩) := hout 2 (outB_spec (by kernel_rfl))
            refine Does.val (.pointer (some ⟨w0.heap.size, 0, none⟩)) (w' := w) ?_ ⟨Below.refl _ _, rfl, hG⟩
            simp only [Array.getD_eq_getD_getElem?] at e2
            go_simp
          · intro listed σ w a hin hout hl hla hs hc hp hG hF
            refine Guarded.none rfl ?_
            have e28 : a.tmps.getD 28 undef = .pointer (some ⟨w0.heap.size, 0, none⟩) := (hin 1 28 rfl (hp ⟨1, .data⟩ (by simp) rfl)).trans (hF 1 (hp ⟨1, .data⟩ (by simp) rfl))
            have CC := SOF.out w hG; obtain ⟨C0, C1, C2, D0, D1⟩ := CC
            refine Does.val (.slice (some ⟨bb, o, none⟩) n c) (w' := w) ?_ ⟨Below.refl _ _, rfl, hG⟩
            go_simp
          · intro listed σ w a hin hout hl hla hs hc hp hG hF
            refine Guarded.none rfl ?_
            have e6 : a.tmps.getD 6 undef = .int .i64 (q : Int) := hout 6 (outB_spec (by kernel_rfl))
            refine Does.val (.int .i64 (q : Int)) (w' := w) ?_ ⟨Below.refl _ _, rfl, hG⟩
            simp only [Array.getD_eq_getD_getElem?] at e6
            go_simp
          · intro listed σ w a hin hout hl hla hs hc hp hG hF
            refine Guarded.none rfl ?_
            have e29 : a.tmps.getD 29 undef = .slice (some ⟨bb, o, none⟩) n c := (hin 2 29 rfl (hp ⟨2, .data⟩ (by simp) rfl)).trans (hF 2 (hp ⟨2, .data⟩ (by simp) rfl))
            have e30 : a.tmps.getD 30 undef = .int .i64 (q : Int) := (hin 3 30 rfl (hp ⟨3, .data⟩ (by simp) rfl)).trans (hF 3 (hp ⟨3, .data⟩ (by simp) rfl))
            refine Does.val (.pointer (some ⟨bb, o + q * 3, none⟩)) (w' := w) ?_ ⟨Below.refl _ _, rfl, hG⟩
            simp only [Array.getD_eq_getD_getElem?] at e29 e30
            go_simp
            (try (intro hh; exfalso; omega))
          · intro listed σ w a hin hout hl hla hs hc hp hG hF
            refine Guarded.none rfl ?_
            have e31 : a.tmps.getD 31 undef = .pointer (some ⟨bb, o + q * 3, none⟩) := (hin 4 31 rfl (hp ⟨4, .data⟩ (by simp) rfl)).trans (hF 4 (hp ⟨4, .data⟩ (by simp) rfl))
            refine Does.val (.pointer (some ⟨bb, o + q * 3 + 1, none⟩)) (w' := w) ?_ ⟨Below.refl _ _, rfl, hG⟩
            simp only [Array.getD_eq_getD_getElem?] at e31
            go_simp
          · intro listed σ w a hin hout hl hla hs hc hp hG hF
            refine Guarded.none rfl ?_
            have e32 : a.tmps.getD 32 undef = .pointer (some ⟨bb, o + q * 3 + 1, none⟩) := (hin 5 32 rfl (hp ⟨5, .data⟩ (by simp) rfl)).trans (hF 5 (hp ⟨5, .data⟩ (by simp) rfl))
            have CC := SOF.out w hG; obtain ⟨C0, C1, C2, D0, D1⟩ := CC
            refine Does.val (.agg #[.bool p.s, .slice p.B p.m p.d]) (w' := w) ?_ ⟨Below.refl _ _, rfl, hG⟩
            go_simp
          · intro listed σ w a hin hout hl hla hs hc hp hG hF
            refine Guarded.none rfl ?_
            have e27 : a.tmps.getD 27 undef = .agg #[.bool s5, .slice A5 n5 c5] := (hin 0 27 rfl (hp ⟨0, .data⟩ (by simp) rfl)).trans (hF 0 (hp ⟨0, .data⟩ (by simp) rfl))
            have e33 : a.tmps.getD 33 undef = .agg #[.bool p.s, .slice p.B p.m p.d] := (hin 6 33 rfl (hp ⟨6, .data⟩ (by simp) rfl)).trans (hF 6 (hp ⟨6, .data⟩ (by simp) rfl))
            refine Does.call ?_ (HA.out w hG) ?_
            · go_simp
            · rintro e w' ⟨v, rfl, z, hb⟩
              exact ⟨_, rfl, hb, z, hG.next hb⟩
        · intro o ho
          injection ho with ho; subst ho
          intro listed σ w a hall hin hout hG hF
          refine Guarded.none rfl ?_
          have e5 : a.tmps.getD 5 undef = .pointer (some ⟨w0.heap.size + 1 + 1, 0, none⟩) := hout 5 (outL (by kernel_rfl))
          have e34 := hin 7 34 rfl (by decide)
          have z7 := hF 7 (by decide)
          have z7 := hF 7 (by decide)
          obtain ⟨s8, A8, n8, c8, ev8⟩ := ZRes.form z7
          rw [ev8] at e34 z7
          have HX := hide (HB5.out.next hG)
          refine Does.store_box (T := 26) (cells := #[.bool s8, .slice A8 n8 c8]) rfl e5 e34 (Blk.box HX.out) (by kernel_rfl) rfl (by simp [Value.oneCell']) (fun w2 x9 o9 => ?_)
          rw [show fin _ σ undef _ = (Act.put (Act.put (Act.put (Act.put (Act.put (Act.put (Act.put (Act.put (Act.put _ (some 27) (σ 0)) (some 28) (σ 1)) (some 29) (σ 2)) (some 30) (σ 3)) (some 31) (σ 4)) (some 32) (σ 5)) (some 33) (σ 6)) (some 34) (σ 7)) none undef) from (fin_all hall).trans rfl]
          simp only [Act.put, List.setIfInBounds_toArray, List.set_cons_zero, List.set_cons_succ]
          have HE := hide (show CoefRel w0 W1 L x k (q + 1) w2 from ⟨s8, A8, n8, c8, x9, by rw [← HC.out]; exact (z7.only HX.out o9).mono (by omega), (HBB.out.trans (hG.mono (Nat.le_trans hBW HBB.out.size))).trans (o9.below (Nat.le_trans hBW (Nat.le_trans HBB.out.size hG.size)) (Nat.le_refl _))⟩)
          generalize σ 0 = tt0 at *; generalize σ 1 = tt1 at *; generalize σ 2 = tt2 at *; generalize σ 3 = tt3 at *; generalize σ 4 = tt4 at *; generalize σ 5 = tt5 at *; generalize σ 6 = tt6 at *; generalize σ 7 = tt7 at *
          clear hF hG hall hin hout SOF HA z7 x9 o9 e5 e34 ev8
          go_wp2_with fail
          go_roundw
          case rel => exact ⟨q + 1, by omega, by go_num, HE⟩
          case measure => simp [intOf] <;> omega
      · have HE := hide (show CoefRel w0 W1 L x k (q + 1) wr from ⟨s5, A5, n5, c5, b5, by rw [coef_take_succ L q _ _ x hLp, if_neg (fun h => hx0 h.2), Int.add_zero]; exact zz5.mono (by omega), hB⟩)
        have hbb : (p.v == x) = true := by simpa using hpx
        clear zz5 hLp hpx HR hz b5
        go_wp2_with fail
        go_roundw
        case rel => exact ⟨q + 1, by omega, by go_num, HE⟩
        case measure => simp [intOf] <;> omega
    · have HE := hide (show CoefRel w0 W1 L x k (q + 1) wr from ⟨s5, A5, n5, c5, b5, by rw [coef_take_succ L q _ _ x hLp, if_neg (fun h => hpx h.1), Int.add_zero]; exact zz5.mono (by omega), hB⟩)
      have hbb : (p.v == x) = false := by simpa using hpx
      clear zz5 hLp hpx HR hz b5
      go_wp2_with fail
      go_roundw
      case rel => exact ⟨q + 1, by omega, by go_num, HE⟩
      case measure => simp [intOf] <;> omega
  · obtain rfl : q = n := by omega
    have HL := hide (show coef (L.take q) x = coef L x by rw [List.take_of_length_le (by rw [HN.out]; exact Nat.le_refl _)])
    have b50 := b5.c0
    have b51 := b5.c1
    have k1 : Blk wr (w0.heap.size + 1) #[.bool false, .slice none 0 0] := Box.below R0.out hB (by omega)
    have HZ5 := hide zz5
    have HT := hide hT
    clear zz5 b5 HR hT
    go_wp2_with (with_reducible refine wpList_store_z rfl _ _ rfl (w0.heap.size + 1) _ _ _ _ rfl rfl _ _ k1 ?_; intro w3 k3 ho3)
    refine bodyPost_z rfl rfl k3 rfl ?_
    refine ⟨_, rfl, ?_, zback HT.out (by omega) ho3⟩
    rw [HN.out, ← HL.out]
    exact HZ5.out.only k1 ho3
end Go.Proofs.YtdeakieenppmiaaGreatDoor
/- plumblineref03.Insert: a number into a rising list. -/
namespace Go.Proofs.YtdeakieenppmiaaGreatDoor
open Go.RowKit
open Tm

def ints (xs : List Int) : List Value := xs.map fun x => Value.int .i64 x
theorem ints_length (xs : List Int) : (ints xs).length = xs.length := by simp [ints]
theorem ints_append (xs ys : List Int) : ints (xs ++ ys) = ints xs ++ ints ys := by simp [ints]
theorem ints_get (xs : List Int) (i : Nat) (x : Int) (h : xs[i]? = some x) : (ints xs)[i]? = some (.int .i64 x) := by simp [ints, h]
/-- The slice (A, n) reads as these ints. -/
def IIn (w : World) (A : Option Addr) (n : Nat) (xs : List Int) : Prop := xs.length = n ∧ (0 < n → ∃ b o, A = some ⟨b, o, none⟩ ∧ ∀ j u, (ints xs)[j]? = some u → w.cell? ⟨b, o + j, none⟩ = some u)
theorem IIn.below {w w' : World} {A : Option Addr} {n : Nat} {xs : List Int} (h : IIn w A n xs) (hb : Below w.heap.size w w') : IIn w' A n xs := by
 refine ⟨h.1, fun hn => ?_⟩
 obtain ⟨b, o, e, hc⟩ := h.2 hn
 refine ⟨b, o, e, fun j u hu => ?_⟩
 have h1 := hc j u hu
 have hlt := World.block_lt_of_cell? w _ h1
 exact (World.cell?_of_block (w := w) (a := ⟨b, o + j, none⟩) (hb.block b hlt)).trans h1
theorem IIn.at_ {w : World} {A : Option Addr} {n i : Nat} {xs : List Int} (h : IIn w A n xs) (hi : i < n) : ∃ (b o : Nat) (x : Int), A = some ⟨b, o, none⟩ ∧ b < w.heap.size ∧ xs[i]? = some x ∧ w.cell? ⟨b, o + i, none⟩ = some (.int .i64 x) := by
 obtain ⟨b, o, e, hc⟩ := h.2 (by omega)
 have hx : xs[i]? = some (xs[i]'(by rw [h.1]; exact hi)) := List.getElem?_eq_getElem _
 have h1 := hc i _ (ints_get xs i _ hx)
 exact ⟨b, o, _, e, World.block_lt_of_cell? w _ h1, hx, h1⟩
theorem LRow.ints_in {w : World} {base n c : Nat} {A : Option Addr} {xs : List Int} (h : LRow 3 1 w base (.slice A n c) n (ints xs)) : IIn w A n xs := by
 have hl : xs.length = n := by have := h.1; rw [ints_length] at this; omega
 refine ⟨hl, fun hn => ?_⟩
 obtain ⟨g, rfl, -, -, hc⟩ := h.cell hn
 exact ⟨g, 0, rfl, fun j u hu => by rw [Nat.zero_add]; exact (hc j u hu).1⟩
theorem int_info : (Tryz.prog.info? 3).map (fun i => (i.zero, i.size, i.bytes)) = some (some (.int .i64 0), 1, 8) := by kernel_rfl
theorem cellI (w : World) (x : Int) (T : TypeId) : (w.alloc (.cells #[.int .i64 x] T)).cell? ⟨w.heap.size, 0, none⟩ = some (.int .i64 x) := by
 rw [cell_of_row _ _ 0 _ _ _ (heap_alloc_new _ _)]; rfl
theorem wpList_append_int {w : World} {ops : Array Oper} {rest : List Oper} {o : Oper} {a : Act} {Q : Exit → Act → World → Prop} (hgd : o.guard = none) (s x : Operand)
   (ho : o.op = .call { callee := .builtin .append, args := #[s, x], argTypes := #[55, 55] }) (base : Nat) (v : Value) (xs : List Int) (hs : a.eval s = v) (hown : LRow 3 1 w base v xs.length (ints xs))
   (g : Nat) (y : Int) (hx : a.eval x = .slice (some ⟨g, 0, none⟩) 1 1) (hc : w.cell? ⟨g, 0, none⟩ = some (.int .i64 y)) (hn : xs.length ≤ 1099511627) (hbase : base ≤ w.heap.size)
   (h : ∀ v' w', LRow 3 1 w' base v' (xs ++ [y]).length (ints (xs ++ [y])) → w.grownBy w' v.ownBlock → wpList Tryz.prog ops Q rest (a.put o.dst v') w') : wpList Tryz.prog ops Q (o :: rest) a w := by
 obtain ⟨i0, hi0, hz0, hz1, hz2⟩ := info_parts int_info
 refine wpList_append_lrow hgd s x 55 ho base 3 i0 _ 1 8 Tryz.underlying55 hi0 hz0 hz1 hz2 rfl (by decide) (fun u hu => by simp [Value.cells] at hu; subst hu; exact NL.i64 _) v xs.length (ints xs) hs hown ⟨g, 0, none⟩ 1 1 [.int .i64 y] hx rfl
   (fun j u hu => ?_) (fun u hu => by simp at hu; subst hu; rfl) (fun u hu => by simp at hu; subst hu; exact NL.i64 _) (by unfold maxLen; omega) (by omega) hbase ?_
 · cases j with
   | zero => simp at hu; subst hu; exact hc
   | succ j => simp at hu
 · intro v' w' h1 h2
   refine h v' w' ?_ h2
   rw [ints_append, List.length_append]
   exact h1
/-- What the loop makes of the rest of the list. -/
def insGo (v : Int) : Bool → List Int → List Int
 | dn, [] => if dn then [] else [v]
 | dn, u :: us => (if !dn && decide (v ≤ u) then [v] else []) ++ ((if u ≠ v then [u] else []) ++ insGo v (dn || decide (v ≤ u)) us)
theorem insGo_true (v : Int) (us : List Int) (h : ∀ u ∈ us, v < u) : insGo v true us = us := by
 induction us with
 | nil => rfl
 | cons u us ih =>
  have h1 := h u (List.mem_cons_self ..)
  unfold insGo
  rw [if_neg (by simp), if_pos (by omega)]
  simp [ih (fun x hx => h x (List.mem_cons_of_mem _ hx))]
theorem insGo_false (v : Int) (us : List Int) (b : Int) (h : Up b us) : insGo v false us = insV v us := by
 induction us generalizing b with
 | nil => rfl
 | cons u us ih =>
  unfold insGo insV
  rcases Int.lt_trichotomy v u with h1 | h1 | h1
  · rw [if_pos (by simp; omega), if_pos (by omega), if_pos h1]
    have hd : decide (v ≤ u) = true := by simp; omega
    rw [hd, Bool.or_true, insGo_true v us (fun x hx => by have := h.2.gt x hx; omega)]
    rfl
  · subst h1
    rw [if_pos (by simp), if_neg (by simp), if_neg (by omega), if_pos rfl]
    have hd : decide (v ≤ v) = true := by simp
    rw [hd, Bool.or_true, insGo_true v us (fun x hx => h.2.gt x hx)]
    rfl
  · rw [if_neg (by simp; omega), if_pos (by omega), if_neg (by omega), if_neg (by omega)]
    have hd : decide (v ≤ u) = false := by simp; omega
    rw [hd, Bool.or_false, ih u h.2]
    rfl
def IPost (xs : List Int) (w : World) (e : Ending) (w' : World) : Prop := ∃ A c, e = .returned (.slice A xs.length c) ∧ IIn w' A xs.length xs ∧ xs.length ≤ c ∧ c ≤ 9223372036854775807 ∧ Below w.heap.size w w'
def InsRel (w0 : World) (v : Int) (xs : List Int) (q : Nat) (dn : Bool) (sv : Value) (wr : World) : Prop :=
 ∃ os : List Int, LRow 3 1 wr w0.heap.size sv os.length (ints os) ∧ os ++ insGo v dn (xs.drop q) = insGo v false xs ∧ Below w0.heap.size w0 wr ∧ os.length ≤ 2 * q
theorem insert_any (A : Option Addr) (n c : Nat) (xs : List Int) (v b0 : Int) (w0 : World) (hx : IIn w0 A n xs) (hn : n ≤ 1099511) (hup : Up b0 xs) : Calls Tryz.prog 86 #[.slice A n c, .int .i64 v] w0 (IPost (insV v xs) w0) := by
 have HV := hide (insGo_false v xs b0 hup)
 have hlen := hide hx.1
 obtain ⟨y0, y1, -⟩ := bstart1 3 w0 #[]
 have HS := hide (show InsRel w0 v xs 0 false (.slice (some ⟨w0.heap.size, 0, none⟩) 0 0) (w0.alloc (.cells #[] 3)) from ⟨[], LRow.made #[] 0 (Nat.le_refl _) (by unfold maxLen; omega) rfl (fun u hu => by simp at hu), by simp, y1, by simp⟩)
 clear y0 y1 hup
 go_enter Tryz.func86, Tryz.ntmps86
 go_wp2_with fail
 go_loopw [5, 6, 7] (fun s t i wr => ∃ (q : Nat) (dn : Bool), q ≤ n ∧ i = .int .i64 q ∧ t = .bool dn ∧ Hid (InsRel w0 v xs q dn s wr)) (fun _ _ i _ => n - (intOf i).toNat)
 case atStart => exact ⟨0, false, Nat.zero_le _, rfl, rfl, HS⟩
 case round =>
  obtain ⟨q, dn, hq, rfl, rfl, HR⟩ := hrel
  obtain ⟨os, lr, hos, hB, hol⟩ := HR.out
  have HL := hide lr
  have HB := hide hB
  have hle : os.length ≤ 1099511627 := by omega
  have hsz := hB.size
  by_cases hqn : q < n
  · obtain ⟨bb, o, u, rfl, hlt, hu, c0⟩ := (hx.below hB).at_ hqn
    have hlt0 : bb < w0.heap.size := by
     obtain ⟨b', o', u', e', h', -, -⟩ := hx.at_ hqn
     injection e' with e'
     injection e' with e'
     omega
    have HC := hide (show ∀ w2, Below w0.heap.size w0 w2 → w2.cell? ⟨bb, o + q, none⟩ = some (.int .i64 u) from fun w2 h => by
     obtain ⟨b', o', u', e', -, hu', h'⟩ := (hx.below h).at_ hqn
     injection e' with e'
     injection e' with e1 e2
     rw [hu] at hu'
     injection hu' with hu'
     subst e1 e2 hu'
     exact h')
    rw [drop_cons hu, insGo] at hos
    have HO := hide hos
    clear hos hu HR lr hB
    cases dn with
    | true =>
     by_cases huv : u = v
     · have hne : (u != v) = false := by simp [huv]
       have HE := hide (show InsRel w0 v xs (q + 1) true _ wr from ⟨os, HL.out, by have := HO.out; rw [if_neg (by simp), if_neg (by simp [huv])] at this; simpa using this, HB.out, by omega⟩)
       clear huv
       go_wp2_with fail
       go_roundw
       case rel => exact ⟨q + 1, true, by omega, by go_num, rfl, HE⟩
       case measure => simp [intOf] <;> omega
     · have hne : (u != v) = true := by simp [huv]
       have HE := hide (show ∀ v' w', LRow 3 1 w' w0.heap.size v' (os ++ [u]).length (ints (os ++ [u])) → Below w0.heap.size w0 w' → InsRel w0 v xs (q + 1) true v' w' from fun v' w' h1 h2 => ⟨os ++ [u], h1, by have := HO.out; rw [if_neg (by simp), if_pos huv] at this; simpa using this, h2, by simp; omega⟩)
       clear huv
       go_wp2_with (at_builtin; refine wpList_append_int rfl _ _ rfl w0.heap.size _ os rfl (HL.out.below (bl_alloc _ _)) _ u rfl (cellI _ _ _) hle (by simp; omega) ?_; intro v' w1 l1 g1)
       have HE1 := hide (HE.out v' w1 (by simpa using l1) ((HL.out.below (bl_alloc wr (.cells #[.int .i64 u] 3))).old (HB.out.trans ((bl_alloc wr (.cells #[.int .i64 u] 3)).mono hsz)) g1 (Nat.le_refl _) (Nat.le_refl _)))
       clear l1 g1 c0
       go_wp2_with fail
       go_roundw
       case rel => exact ⟨q + 1, true, by omega, by go_num, rfl, HE1⟩
       case measure => simp [intOf] <;> omega
    | false =>
     by_cases hvu : v ≤ u
     · have hge : decide (v ≤ u) = true := by simpa using hvu
       by_cases huv : u = v
       · have hne : (u != v) = false := by simp [huv]
         have HE := hide (show ∀ v' w', LRow 3 1 w' w0.heap.size v' (os ++ [v]).length (ints (os ++ [v])) → Below w0.heap.size w0 w' → InsRel w0 v xs (q + 1) true v' w' from fun v' w' h1 h2 => ⟨os ++ [v], h1, by have := HO.out; rw [if_pos (by simpa using hvu), if_neg (by simp [huv])] at this; simpa [hvu] using this, h2, by simp; omega⟩)
         clear huv hvu
         go_wp2_with (at_builtin; refine wpList_append_int rfl _ _ rfl w0.heap.size _ os rfl (HL.out.below (bl_alloc _ _)) _ v rfl (cellI _ _ _) hle (by simp; omega) ?_; intro v' w1 l1 g1; have hb1 := (HL.out.below (bl_alloc wr (.cells #[.int .i64 v] 3))).old (HB.out.trans ((bl_alloc wr (.cells #[.int .i64 v] 3)).mono hsz)) g1 (Nat.le_refl _) (Nat.le_refl _); have c1 := HC.out w1 hb1)
         have HE1 := hide (HE.out v' w1 (by simpa using l1) hb1)
         clear l1 g1 c0 hb1
         go_wp2_with fail
         go_roundw
         case rel => exact ⟨q + 1, true, by omega, by go_num, rfl, HE1⟩
         case measure => simp [intOf] <;> omega
       · have hne : (u != v) = true := by simp [huv]
         have HE := hide (show ∀ v' w', LRow 3 1 w' w0.heap.size v' (os ++ [v] ++ [u]).length (ints (os ++ [v] ++ [u])) → Below w0.heap.size w0 w' → InsRel w0 v xs (q + 1) true v' w' from fun v' w' h1 h2 => ⟨os ++ [v] ++ [u], h1, by have := HO.out; rw [if_pos (by simpa using hvu), if_pos huv] at this; simpa [hvu] using this, h2, by simp; omega⟩)
         clear huv hvu
         have tok : True := trivial
         have hle1 : (os ++ [v]).length ≤ 1099511627 := by simp; omega
         go_wp2_with (first | (at_builtin; have _t := tok; refine wpList_append_int rfl _ _ rfl w0.heap.size _ os rfl (HL.out.below (bl_alloc _ _)) _ v rfl (cellI _ _ _) hle (by simp; omega) ?_; intro v' w1 l1 g1; have hb1 := (HL.out.below (bl_alloc wr (.cells #[.int .i64 v] 3))).old (HB.out.trans ((bl_alloc wr (.cells #[.int .i64 v] 3)).mono hsz)) g1 (Nat.le_refl _) (Nat.le_refl _); have c1 := HC.out w1 hb1; have hL1 := hide (show LRow 3 1 w1 w0.heap.size v' (os ++ [v]).length (ints (os ++ [v])) by simpa using l1); have hsz1 := hb1.size; have HB1 := hide hb1; clear l1 g1 hb1 tok) | (at_builtin; refine wpList_append_int rfl _ _ rfl w0.heap.size _ (os ++ [v]) rfl (hL1.out.below (bl_alloc _ _)) _ u rfl (cellI _ _ _) hle1 (by simp; omega) ?_; intro v2 w2 l2 g2))
         have HE1 := hide (HE.out v2 w2 (by simpa using l2) ((hL1.out.below (bl_alloc w1 (.cells #[.int .i64 u] 3))).old (HB1.out.trans ((bl_alloc w1 (.cells #[.int .i64 u] 3)).mono hsz1)) g2 (Nat.le_refl _) (Nat.le_refl _)))
         clear l2 g2 c1 c0
         go_wp2_with fail
         go_roundw
         case rel => exact ⟨q + 1, true, by omega, by go_num, rfl, HE1⟩
         case measure => simp [intOf] <;> omega
     · have hge : decide (v ≤ u) = false := by simpa using hvu
       have hne : (u != v) = true := by simp; omega
       have HE := hide (show ∀ v' w', LRow 3 1 w' w0.heap.size v' (os ++ [u]).length (ints (os ++ [u])) → Below w0.heap.size w0 w' → InsRel w0 v xs (q + 1) false v' w' from fun v' w' h1 h2 => ⟨os ++ [u], h1, by have := HO.out; rw [if_neg (by simpa using hvu), if_pos (by omega)] at this; simpa [hvu] using this, h2, by simp; omega⟩)
       clear hvu
       go_wp2_with (at_builtin; refine wpList_append_int rfl _ _ rfl w0.heap.size _ os rfl (HL.out.below (bl_alloc _ _)) _ u rfl (cellI _ _ _) hle (by simp; omega) ?_; intro v' w1 l1 g1)
       have HE1 := hide (HE.out v' w1 (by simpa using l1) ((HL.out.below (bl_alloc wr (.cells #[.int .i64 u] 3))).old (HB.out.trans ((bl_alloc wr (.cells #[.int .i64 u] 3)).mono hsz)) g1 (Nat.le_refl _) (Nat.le_refl _)))
       clear l1 g1 c0
       go_wp2_with fail
       go_roundw
       case rel => exact ⟨q + 1, false, by omega, by go_num, rfl, HE1⟩
       case measure => simp [intOf] <;> omega
  · obtain rfl : q = n := by omega
    rw [List.drop_of_length_le (by rw [hlen.out]; exact Nat.le_refl _)] at hos
    have HO := hide hos
    clear hos lr hB HR
    cases dn with
    | true =>
     have he : os = insV v xs := by rw [← HV.out, ← HO.out]; simp [insGo]
     obtain ⟨A9, c9, hv9, h91, h92, -⟩ := HL.out.len
     subst hv9
     have HE := hide he
     clear he
     go_wp2_with fail
     go_ret
     exact ⟨A9, c9, by rw [← HE.out]; rfl, by rw [← HE.out]; exact HL.out.ints_in, by rw [← HE.out]; exact h91, h92, HB.out⟩
    | false =>
     have he : os ++ [v] = insV v xs := by rw [← HV.out, ← HO.out]; simp [insGo]
     have HE := hide he
     clear he
     go_wp2_with (at_builtin; refine wpList_append_int rfl _ _ rfl w0.heap.size _ os rfl (HL.out.below (bl_alloc _ _)) _ v rfl (cellI _ _ _) hle (by simp; omega) ?_; intro v' w1 l1 g1)
     have l2 : LRow 3 1 w1 w0.heap.size v' (os ++ [v]).length (ints (os ++ [v])) := by simpa using l1
     have HB1 := hide ((HL.out.below (bl_alloc wr (.cells #[.int .i64 v] 3))).old (HB.out.trans ((bl_alloc wr (.cells #[.int .i64 v] 3)).mono hsz)) g1 (Nat.le_refl _) (Nat.le_refl _))
     rw [HE.out] at l2
     obtain ⟨A9, c9, hv9, h91, h92, -⟩ := l2.len
     subst hv9
     have HI := hide l2.ints_in
     clear l1 l2 g1
     go_wp2_with fail
     go_ret
     exact ⟨A9, c9, rfl, HI.out, h91, h92, HB1.out⟩
end Go.Proofs.YtdeakieenppmiaaGreatDoor
/- plumblineref03.Vars. -/
namespace Go.Proofs.YtdeakieenppmiaaGreatDoor
open Go.RowKit
open Tm

theorem insV_length (v : Int) (us : List Int) : (insV v us).length ≤ us.length + 1 := by
 induction us with
 | nil => simp [insV]
 | cons u us ih =>
  unfold insV
  split
  · simp
  · split
    · simp
    · simp; exact ih
theorem vgo_length (ps : List (Int × Int)) : ∀ (qs : List (Int × Int)) (acc : List Int), (vgo ps qs acc).length ≤ acc.length + qs.length
 | [], acc => by simp [vgo]
 | (u, c) :: qs, acc => by
  unfold vgo
  have h1 := vgo_length ps qs (if coef ps u = 0 then acc else insV u acc)
  have h2 := insV_length u acc
  split at h1
  · rename_i h; rw [if_pos h]; simp; omega
  · rename_i h; rw [if_neg h]; simp; omega
theorem vgo_succ (L : List (Int × Int)) (q : Nat) (u c : Int) (h : L[q]? = some (u, c)) : vgo L (L.take (q + 1)) [] = if coef L u = 0 then vgo L (L.take q) [] else insV u (vgo L (L.take q) []) := by
 rw [List.take_add_one, h, vgo_append]
 rfl
def VarsRel (w0 : World) (L : List (Int × Int)) (q : Nat) (A : Option Addr) (m c : Nat) (wr : World) : Prop := IIn wr A m (vgo L (L.take q) []) ∧ Below (w0.heap.size + 1) (w0.alloc (.cells #[] 3)) wr
theorem rvars_any (v : Value) (L : List (Int × Int)) (K : Int) (k : Nat) (w0 : World) (hv : TIn w0 v L K k) (hl : L.length ≤ 1099511) (hk : k ≤ 1099511627) : Calls Tryz.prog 45 #[v] w0 (IPost (vars L) w0) := by
 have hv0 := hv
 obtain ⟨A, n, c, s, B, m, d, rfl, hp, hc1, hc2, -⟩ := hv
 have hn := hp.len
 rw [hn] at hl
 have HN := hide hn
 clear hn
 obtain ⟨z0, z1, z3⟩ := bstart1 28 w0 #[.slice A n c, .bool s, .slice B m d]
 have y1 := bl_alloc (w0.alloc (.cells #[.slice A n c, .bool s, .slice B m d] 28)) (.cells #[] 3)
 have Z0 := hide (z0.next y1)
 have HB0 := hide (z1.next y1)
 clear z0 z1 z3 y1
 go_enter Tryz.func45, Tryz.ntmps45
 go_wp2_with fail
 generalize hW1 : ((w0.alloc (.cells #[.slice A n c, .bool s, .slice B m d] 28)).alloc (.cells #[] 3)) = W1 at *
 clear hW1
 go_loopw [3, 4] (fun sv i wr => ∃ (q : Nat) (A1 : Option Addr) (m1 c1 : Nat), q ≤ n ∧ i = .int .i64 q ∧ sv = .slice A1 m1 c1 ∧ m1 ≤ c1 ∧ c1 ≤ 9223372036854775807 ∧ Hid (IIn wr A1 m1 (vgo L (L.take q) [])) ∧ Hid (Below W1.heap.size W1 wr)) (fun _ i _ => n - (intOf i).toNat)
 case atStart => exact ⟨0, _, 0, 0, Nat.zero_le _, rfl, rfl, Nat.le_refl _, by omega, Lib.hid ⟨rfl, fun h => absurd h (by omega)⟩, Lib.hid (Below.refl _ _)⟩
 case round =>
  obtain ⟨q, A1, m1, c1, hq, rfl, rfl, h11, h12, HI, HB⟩ := hrel
  have zt := Z0.out.next HB.out
  have hT := hide (HB0.out.next HB.out)
  have x0 := zt.c0
  have x1 := zt.c1
  have x2 := zt.c2
  by_cases hqn : q < n
  · obtain ⟨bb, o, p, rfl, hlt, hLp, c0, -, -, hz⟩ := (hp.below hT.out).at_ hqn
    have HS := hide (vgo_succ L q p.v p.Z hLp)
    have hco := rcoef_any _ L K p.v k wr (hv0.below hT.out) (by rw [HN.out]; omega) hk
    have hml := hide (show m1 ≤ q from by
      rw [← HI.out.1]
      have := vgo_length L (L.take q) []
      simp at this
      omega)
    have hmm : m1 ≤ 1099511 := by have := hml.out; omega
    clear hLp hz zt
    go_wp2_with fail
    refine hco.mono ?_
    rintro e w1 ⟨v1, rfl, r1, b1⟩
    have hsg := rsign_z v1 _ _ w1 r1.in_ (by have := HN.out; omega)
    unfold RSignPost at hsg
    clear x0 x1 x2 c0
    go_wp2_with fail
    refine hsg.mono ?_
    rintro e w2 ⟨rfl, b2⟩
    have HB2 := hide ((HB.out.next b1).next b2)
    have HI2 := hide ((HI.out.below b1).below b2)
    by_cases h0 : coef L p.v = 0
    · rw [h0]
      rw [show Int.sign 0 = 0 from rfl]
      have HE := hide (show vgo L (L.take (q + 1)) [] = vgo L (L.take q) [] by rw [HS.out, if_pos h0])
      clear h0 hsg hco r1
      go_wp2_with fail
      go_roundw
      case rel => exact ⟨q + 1, A1, m1, c1, by omega, by go_num, rfl, h11, h12, Lib.hid (by rw [HE.out]; exact HI2.out), HB2⟩
      case measure => simp [intOf] <;> omega
    · have h1 : ((coef L p.v).sign != 0) = true := by simpa using h0
      have HE := hide (show vgo L (L.take (q + 1)) [] = insV p.v (vgo L (L.take q) []) by rw [HS.out, if_neg h0])
      have hin := insert_any A1 m1 c1 _ p.v (-1) w2 HI2.out hmm (vgo_up L (L.take q) [] trivial)
      generalize (coef L p.v).sign = sg at *
      clear h0 hsg hco r1
      go_wp2_with fail
      refine hin.mono ?_
      rintro e w3 ⟨A3, c3, rfl, i3, h31, h32, b3⟩
      have HI3 := hide i3
      have HB3 := hide (HB2.out.next b3)
      clear i3 hin b3
      go_wp2_with fail
      go_roundw
      case rel => exact ⟨q + 1, A3, _, c3, by omega, by go_num, rfl, h31, h32, Lib.hid (by rw [HE.out]; exact HI3.out), HB3⟩
      case measure => simp [intOf] <;> omega
  · obtain rfl : q = n := by omega
    have HV := hide (show vgo L (L.take q) [] = vars L by rw [List.take_of_length_le (by rw [HN.out]; exact Nat.le_refl _), vgo_vars])
    have hi := HI.out
    rw [HV.out] at hi
    have hl1 := hi.1
    subst hl1
    have HI2 := hide hi
    clear hi HI zt
    go_wp2_with fail
    go_ret
    exact ⟨A1, c1, rfl, HI2.out, h11, h12, hT.out⟩
end Go.Proofs.YtdeakieenppmiaaGreatDoor
