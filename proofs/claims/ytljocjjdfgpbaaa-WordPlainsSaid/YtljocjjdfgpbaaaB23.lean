/- Texts of one seat, put together: WordUn. -/
import Derived.Test.YtljocjjdfgpbaaaB22
set_option linter.unusedVariables false
/- word.Unroll; Shift and Unroll of what is no word. -/
namespace Go.Proofs.Ytljocjjdfgpbaaa
open Go.RowKit
open Wo

theorem lls_info : (Try.prog.info? 25).map (fun i => (i.zero, i.size, i.bytes)) = some (some (.slice none 0 0), 1, 24) := by kernel_rfl
/-- append of one list of letters to a list of the call's own. -/
theorem wpList_append_ll {w : World} {ops : Array Oper} {rest : List Oper} {o : Oper} {a : Act} {Q : Exit → Act → World → Prop} (hgd : o.guard = none) (s x : Operand)
    (ho : o.op = .call { callee := .builtin .append, args := #[s, x], argTypes := #[51, 51] }) (base : Nat) (v : Value) (q : Nat) (vs : List Value) (hs : a.eval s = v) (hrow : LRow 25 1 w base v q vs)
    (gs : Nat) (A2 : Option Addr) (n2 c2 : Nat) (hx : a.eval x = .slice (some ⟨gs, 0, none⟩) 1 1) (hb : Box 25 w gs #[.slice A2 n2 c2]) (hn : q ≤ 1000000) (hbase : base ≤ w.heap.size)
    (h : ∀ v' w', LRow 25 1 w' base v' (q + 1) (vs ++ [.slice A2 n2 c2]) → w.grownBy w' v.ownBlock → wpList Try.prog ops Q rest (a.put o.dst v') w') : wpList Try.prog ops Q (o :: rest) a w := by
  obtain ⟨i0, hi0, hz0, hz1, hz2⟩ := info_parts lls_info
  refine wpList_append_lrow2 hgd s x 51 ho base 25 i0 _ 1 24 Try.underlying51 hi0 hz0 hz1 hz2 rfl (by decide) (fun u hu => ?_) v q vs hs hrow ⟨gs, 0, none⟩ 1 1 [.slice A2 n2 c2] hx rfl
      (fun j u hu => ?_) (fun u hu => ?_) (fun u hu => ?_) (by unfold maxLen; omega) (by omega) hbase (fun v' w' h1 hg hoo => h v' w' h1 hg)
  · simp [Value.cells] at hu
    rw [hu]
    exact NL.slice _ _ _
  · match j with
    | 0 => simp at hu; subst hu; exact hb.cell 0 _ rfl
    | j + 1 => simp at hu
  · simp at hu; subst hu; rfl
  · simp at hu; subst hu; exact NL.slice _ _ _
set_option maxRecDepth 100000 in
set_option maxHeartbeats 16000000 in
theorem wunroll_any (S : Nat → Prop) (A1 : Option Addr) (c1 : Nat) (A2 : Option Addr) (c2 : Nat) (L1 L2 : List (List Bool)) (n : Int) (m : Nat) (w0 : World) (h1 : LsIn S w0 A1 L1.length L1) (h2 : LsIn S w0 A2 L2.length L2) (h0 : 0 < L2.length) (h9 : L1.length + 64 * L2.length ≤ 500000) (hl1 : ∀ l ∈ L1, l.length ≤ 1000000) (hl2 : ∀ l ∈ L2, l.length ≤ 1000000)
    (hn9 : n ≤ 9223372036854775807) (hm : m = min n.toNat 64) :
    Calls Try.prog 11 #[.agg #[.slice A1 L1.length c1, .slice A2 L2.length c2], .int .i64 n] w0 (WordPost (L1 ++ (List.replicate m L2).flatten) L2 w0) := by
  obtain ⟨x2, x4, hb, hbz⟩ := bstart2 27 27 w0 #[.slice A1 L1.length c1, .slice A2 L2.length c2] #[.slice none 0 0, .slice none 0 0]
  have cc0 := x2.cell 0 _ rfl
  have cc1 := x2.cell 1 _ rfl
  have g0 : ((L2.length : Int) == 0) = false := by rw [beq_eq_false_iff_ne]; omega
  obtain ⟨x, hx⟩ : ∃ x, x = n.toNat := ⟨_, rfl⟩
  rw [← hx] at hm
  have hmx : ∀ (w : World) (ts : Array TypeId) (t : TypeId) (k k' : IntKind), (Builtin.max_ ts t #[.int k n, .int k' 0]).run Try.prog w = .ok (.int k (x : Int)) w := fun w ts t k k' => by
    rw [run_max_int2]; congr 2; split <;> omega
  have hmn : ∀ (w : World) (ts : Array TypeId) (t : TypeId) (k k' : IntKind), (Builtin.min_ ts t #[.int k (x : Int), .int k' 64]).run Try.prog w = .ok (.int k (m : Int)) w := fun w ts t k k' => by
    rw [run_min_int2]; congr 2; split <;> omega
  have hm9 : m ≤ 64 := by omega
  have HFL := hide (show (L1 :: List.replicate m L2).flatten.length ≤ 500000 from by
    rw [List.flatten_cons, List.length_append, rep_len]
    have := Nat.mul_le_mul_right L2.length hm9
    omega)
  have HX2 := hide x2
  have HX4 := hide x4
  have HB := hide hb
  have HM := hide hbz
  have HA := hide (h1.keep (Keep.of_below hb))
  have HBB := hide (h2.keep (Keep.of_below hb))
  clear hb hbz x2 x4 h1 h2 hm hx
  go_enter Try.func11, Try.ntmps11
  go_wp2_with fail
  generalize hW : (w0.alloc (.cells #[.slice A1 L1.length c1, .slice A2 L2.length c2] 27)).alloc (.cells #[.slice none 0 0, .slice none 0 0] 27) = W1 at *
  clear hW cc0 cc1
  have HROW := hide (LRow.lit (T := 25) (sz := 1) (w := W1) (base := W1.heap.size) #[.slice A1 L1.length c1] 1 (Nat.le_refl _) (by unfold maxLen; omega) rfl (fun u hu => by simp at hu; subst hu; exact NL.slice _ _ _))
  have HB1 := hide (bl_alloc W1 (.cells #[.slice A1 L1.length c1] 25))
  go_loopw [17, 5] (fun i v wr => ∃ q : Nat, q ≤ m ∧ i = .int .i64 q ∧ Hid (LRow 25 1 wr W1.heap.size v (q + 1) (.slice A1 L1.length c1 :: List.replicate q (.slice A2 L2.length c2))) ∧ Hid (Below W1.heap.size W1 wr)) (fun i _ _ => m - (intOf i).toNat)
  case atStart => exact ⟨0, Nat.zero_le _, rfl, (by rw [show w0.heap.size + 1 + 1 = W1.heap.size from HM.out.symm]; exact HROW), HB1⟩
  case round =>
    obtain ⟨q, hq, rfl, HR, HBR⟩ := hrel
    have cc1 := (HX2.out.next HBR.out).cell 1 _ rfl
    by_cases hqm : q < m
    · have g1 : (q : Int) < (m : Int) := by omega
      have X8 := Box.new 25 wr #[.slice A2 L2.length c2]
      have hb3 := bl_alloc wr (.cells #[.slice A2 L2.length c2] 25)
      have ROW := hide (HR.out.below hb3)
      have HB3 := hide (HBR.out.next hb3)
      have HX8 := hide X8
      have hsz := HB3.out.size
      clear X8 hb3
      go_wp2_with (at_builtin; refine wpList_append_ll rfl _ _ rfl W1.heap.size u5 (q + 1) _ rfl ROW.out wr.heap.size A2 L2.length c2 rfl HX8.out (by omega) hsz ?_; intro v' w9 r1 g9)
      have HR9 := hide (show LRow 25 1 w9 W1.heap.size v' (q + 1 + 1) (.slice A1 L1.length c1 :: List.replicate (q + 1) (.slice A2 L2.length c2)) from by
        rw [List.replicate_succ']; exact r1)
      have HB9 := hide (ROW.out.old HB3.out g9 (Nat.le_refl _) (Nat.le_refl _))
      clear r1 g9 ROW HB3 HX8 hsz
      go_wp2_with fail
      go_roundw
      case rel => exact ⟨q + 1, by omega, by go_num, HR9, HB9⟩
      case measure => simp [intOf]; omega
    · obtain rfl : q = m := by omega
      obtain ⟨B8, d8, rfl, -, -, hg⟩ := HR.out.len
      obtain ⟨g8, rfl⟩ := hg (by omega)
      obtain ⟨g8', e8, hg1, hg2, hg3⟩ := HR.out.cell (by omega)
      injection e8 with e8
      injection e8 with e8
      subst e8
      have HG3 := hide hg3
      have HBS := hide (HB.out.next HBR.out)
      have HX2 := hide (HX2.out.next HBR.out)
      have HX4 := hide (HX4.out.next HBR.out)
      have HA := hide (HA.out.keep (Keep.of_below HBR.out))
      have HBB := hide (HBB.out.keep (Keep.of_below HBR.out))
      have HSZ := hide (show w0.heap.size + 2 ≤ wr.heap.size from by have := HBR.out.size; have := HM.out; omega)
      obtain ⟨P8, hP8⟩ : ∃ P8, P8 = L1 ++ (List.replicate q L2).flatten := ⟨_, rfl⟩
      have HCA := hide (show ∀ w, Below wr.heap.size wr w → Calls Try.prog 29 #[.slice (some ⟨g8, 0, none⟩) (q + 1) d8] w (CopyPost P8 w) from fun w hG => by
        rw [hP8]
        refine copies_any S g8 (q + 1) d8 (L1 :: List.replicate q L2) w (by simp) (by omega) (fun i L hL => ?_) (fun L hL l hl => ?_) HFL.out
        · match i with
          | 0 => simp at hL; subst hL; exact ⟨A1, c1, (below_cell hG hg2).trans (HG3.out 0 _ rfl).1, HA.out.keep (Keep.of_below hG)⟩
          | i + 1 =>
            have hi : i < q := by
              rcases Nat.lt_or_ge i q with h | h
              · exact h
              · rw [List.getElem?_cons_succ, List.getElem?_eq_none (by simpa using h)] at hL; cases hL
            rw [List.getElem?_cons_succ, List.getElem?_replicate, if_pos hi] at hL
            injection hL with hL
            subst hL
            exact ⟨A2, c2, (below_cell hG hg2).trans (HG3.out (i + 1) _ (by rw [List.getElem?_cons_succ, List.getElem?_replicate, if_pos hi])).1, HBB.out.keep (Keep.of_below hG)⟩
        · rcases List.mem_cons.1 hL with rfl | hL
          · exact hl1 l hl
          · rw [(List.mem_replicate.1 hL).2] at hl; exact hl2 l hl)
      have HCB := hide (show ∀ w gb, Below wr.heap.size wr w → Box 25 w gb #[.slice A2 L2.length c2] → Calls Try.prog 29 #[.slice (some ⟨gb, 0, none⟩) 1 1] w (CopyPost L2 w) from fun w gb hG hbx => by
        have := copies_any S gb 1 1 [L2] w rfl (by decide) (fun i L hL => by
          match i with
          | 0 => simp at hL; subst hL; exact ⟨_, _, hbx.cell 0 _ rfl, HBB.out.keep (Keep.of_below hG)⟩
          | i + 1 => simp at hL) (fun L hL l hl => by simp at hL; subst hL; exact hl2 l hl) (by simp; omega)
        simpa using this)
      have HPO := hide (show ∀ (w w2 : World) (L M : List (List Bool)) (B : Option Addr) (d : Nat) (vs : List Value) (B' : Option Addr) (d' : Nat) (us : List Value), Below wr.heap.size wr w → Only (w0.heap.size + 1) w w2 → LRep (FromB wr.heap.size) w L vs → LRow 47 1 w wr.heap.size (.slice B L.length d) L.length vs → LRep (FromB wr.heap.size) w M us → LRow 47 1 w wr.heap.size (.slice B' M.length d') M.length us → WordPost L M w0 (.returned (.agg #[.slice B L.length d, .slice B' M.length d'])) w2 from fun w w2 L M B d vs B' d' us hG ho r1 l1 r2 l2 => by
        have hs := HSZ.out
        have hk : Keep (FromB wr.heap.size) w w2 := Keep.of_only ho (fun h => by have : wr.heap.size ≤ w0.heap.size + 1 := h; omega)
        have hbw := HBS.out.next hG
        refine ⟨B, d, B', d', rfl, ?_, ?_, hbw.trans (ho.below hbw.size (by omega))⟩
        · exact ((r1.keep hk).lsIn (l1.other ho (.inl (by omega))) rfl).sub (fun b _ h => by rcases h with h | h <;> exact Nat.le_trans (by omega) h)
        · exact ((r2.keep hk).lsIn (l2.other ho (.inl (by omega))) rfl).sub (fun b _ h => by rcases h with h | h <;> exact Nat.le_trans (by omega) h))
      have SOF := hide (show ∀ W, Below wr.heap.size wr W → (W.cell? ⟨w0.heap.size, 0, none⟩ = some (.slice A1 L1.length c1) ∧ W.cell? ⟨w0.heap.size, 1, none⟩ = some (.slice A2 L2.length c2)) from fun W h => ⟨(HX2.out.next h).cell 0 _ rfl, (HX2.out.next h).cell 1 _ rfl⟩)
      have HP8 := hide hP8
      clear hl1 hl2 cc1 hP8 hg hg1 hg2 hg3 HR HROW
      have g9 : ¬ (q : Int) < (q : Int) := by omega
      go_upto_region 8 with fail
      refine wp_drawnL (by kernel_rfl) (by kernel_rfl) (by kernel_rfl) (by kernel_rfl) (fun w w' => Below w.heap.size w w') (fun j v w => match j with | 0 => v = .slice (some ⟨g8, 0, none⟩) (q + 1) d8 | 1 => ∃ B d, v = .slice B (P8).length d ∧ ∃ vs, LRep (FromB wr.heap.size) w P8 vs ∧ LRow 47 1 w wr.heap.size (.slice B (P8).length d) (P8).length vs | 2 => v = .pointer (some ⟨w0.heap.size, 1, none⟩) | 3 => v = .slice A2 L2.length c2 | 4 => ∃ gb, v = .slice (some ⟨gb, 0, none⟩) 1 1 ∧ Box 25 w gb #[.slice A2 L2.length c2] | 5 => ∃ B d, v = .slice B (L2).length d ∧ ∃ vs, LRep (FromB wr.heap.size) w L2 vs ∧ LRow 47 1 w wr.heap.size (.slice B (L2).length d) (L2).length vs | 6 => ∃ B d B7 d7, v = .agg #[.slice B P8.length d, .slice B7 L2.length d7] ∧ (∃ vs, LRep (FromB wr.heap.size) w P8 vs ∧ LRow 47 1 w wr.heap.size (.slice B (P8).length d) (P8).length vs) ∧ (∃ vs, LRep (FromB wr.heap.size) w L2 vs ∧ LRow 47 1 w wr.heap.size (.slice B7 (L2).length d7) (L2).length vs) | _ => True) (fun _ _ w => Below wr.heap.size wr w) ?_ (fun _ => bl_drewN wr 1) ?_ ?_
      · intro j v w w' hT h
        match j, h with
        | 0, h => exact h
        | 1, h => exact (by obtain ⟨B, d, e, vs, h1, h2⟩ := h; exact ⟨B, d, e, vs, h1.keep (Keep.of_below hT), h2.below hT⟩)
        | 2, h => exact h
        | 3, h => exact h
        | 4, h => exact (by obtain ⟨g, e, h1⟩ := h; exact ⟨g, e, h1.next hT⟩)
        | 5, h => exact (by obtain ⟨B, d, e, vs, h1, h2⟩ := h; exact ⟨B, d, e, vs, h1.keep (Keep.of_below hT), h2.below hT⟩)
        | 6, h => exact (by obtain ⟨B, d, B', d', e, ⟨vs, h1, h2⟩, ⟨us, h3, h4⟩⟩ := h; exact ⟨B, d, B', d', e, ⟨vs, h1.keep (Keep.of_below hT), h2.below hT⟩, ⟨us, h3.keep (Keep.of_below hT), h4.below hT⟩⟩)
        | j + 7, h => trivial
      · refine ⟨?_, ?_, ?_, ?_, ?_, ?_, ?_, trivial⟩
        · intro listed σ w a hin hout hl hla hs hc hp hG hF
          refine Guarded.none rfl ?_
          have e5 : a.tmps.getD 5 undef = .slice (some ⟨g8, 0, none⟩) (q + 1) d8 := hout 5 (outB_spec (by kernel_rfl))
          refine Does.val (.slice (some ⟨g8, 0, none⟩) (q + 1) d8) (w' := w) ?_ ⟨Below.refl _ _, rfl, hG⟩
          simp only [Array.getD_eq_getD_getElem?] at e5
          go_simp
        · intro listed σ w a hin hout hl hla hs hc hp hG hF
          refine Guarded.none rfl ?_
          have e25 : a.tmps.getD 25 undef = .slice (some ⟨g8, 0, none⟩) (q + 1) d8 := (hin 0 25 rfl (hp ⟨0, .data⟩ (by simp) rfl)).trans (hF 0 (hp ⟨0, .data⟩ (by simp) rfl))
          refine Does.call ?_ (HCA.out w hG) ?_
          · go_simp
          · rintro e w' ⟨B, d, vs, rfl, h1, h2, hb⟩
            exact ⟨_, rfl, hb, ⟨B, d, rfl, vs, h1.sub (fun b _ h => Nat.le_trans hG.size h), h2.rebase hG.size⟩, hG.next hb⟩
        · intro listed σ w a hin hout hl hla hs hc hp hG hF
          refine Guarded.none rfl ?_
          have e2 : a.tmps.getD 2 undef = .pointer (some ⟨w0.heap.size, 0, none⟩) := hout 2 (outB_spec (by kernel_rfl))
          refine Does.val (.pointer (some ⟨w0.heap.size, 1, none⟩)) (w' := w) ?_ ⟨Below.refl _ _, rfl, hG⟩
          simp only [Array.getD_eq_getD_getElem?] at e2
          go_simp
        · intro listed σ w a hin hout hl hla hs hc hp hG hF
          refine Guarded.none rfl ?_
          have e27 : a.tmps.getD 27 undef = .pointer (some ⟨w0.heap.size, 1, none⟩) := (hin 2 27 rfl (hp ⟨2, .data⟩ (by simp) rfl)).trans (hF 2 (hp ⟨2, .data⟩ (by simp) rfl))
          have CC := SOF.out w hG; obtain ⟨C0, C1⟩ := CC
          refine Does.val (.slice A2 L2.length c2) (w' := w) ?_ ⟨Below.refl _ _, rfl, hG⟩
          go_simp
        · intro listed σ w a hin hout hl hla hs hc hp hG hF
          refine Guarded.none rfl ?_
          have e28 : a.tmps.getD 28 undef = .slice A2 L2.length c2 := (hin 3 28 rfl (hp ⟨3, .data⟩ (by simp) rfl)).trans (hF 3 (hp ⟨3, .data⟩ (by simp) rfl))
          refine Does.val (.slice (some ⟨w.heap.size, 0, none⟩) 1 1) (w' := w.alloc (.cells #[.slice A2 L2.length c2] 25)) ?_ ⟨bl_alloc w _, ⟨w.heap.size, rfl, Box.new _ _ _⟩, hG.next (bl_alloc w _)⟩
          simp only [Array.getD_eq_getD_getElem?] at e28
          go_simp
        · intro listed σ w a hin hout hl hla hs hc hp hG hF
          refine Guarded.none rfl ?_
          have e29 := hin 4 29 rfl (hp ⟨4, .data⟩ (by simp) rfl)
          obtain ⟨gb4, ev4, xb4⟩ := hF 4 (hp ⟨4, .data⟩ (by simp) rfl)
          rw [ev4] at e29
          refine Does.call ?_ (HCB.out w gb4 hG xb4) ?_
          · go_simp
          · rintro e w' ⟨B, d, vs, rfl, h1, h2, hb⟩
            exact ⟨_, rfl, hb, ⟨B, d, rfl, vs, h1.sub (fun b _ h => Nat.le_trans hG.size h), h2.rebase hG.size⟩, hG.next hb⟩
        · intro listed σ w a hin hout hl hla hs hc hp hG hF
          refine Guarded.none rfl ?_
          have e26 := hin 1 26 rfl (hp ⟨1, .data⟩ (by simp) rfl)
          obtain ⟨B1, d1, ev1, vs1, hr1, hw1⟩ := hF 1 (hp ⟨1, .data⟩ (by simp) rfl)
          rw [ev1] at e26
          have e30 := hin 5 30 rfl (hp ⟨5, .data⟩ (by simp) rfl)
          obtain ⟨B5, d5, ev5, vs5, hr5, hw5⟩ := hF 5 (hp ⟨5, .data⟩ (by simp) rfl)
          rw [ev5] at e30
          refine Does.val (.agg #[.slice B1 P8.length d1, .slice B5 L2.length d5]) (w' := w) ?_ ⟨Below.refl _ _, ⟨B1, d1, B5, d5, rfl, ⟨vs1, hr1, hw1⟩, ⟨vs5, hr5, hw5⟩⟩, hG⟩
          simp only [Array.getD_eq_getD_getElem?] at e26 e30
          go_simp
      · intro o ho
        injection ho with ho; subst ho
        intro listed σ w a hall hin hout hG hF
        refine Guarded.none rfl ?_
        have e4 : a.tmps.getD 4 undef = .pointer (some ⟨w0.heap.size + 1, 0, none⟩) := hout 4 (outL (by kernel_rfl))
        have e31 := hin 6 31 rfl (by decide)
        obtain ⟨B10, d10, B11, d11, ev6, ⟨vs10, hr10, hw10⟩, ⟨vs11, hr11, hw11⟩⟩ := hF 6 (by decide)
        rw [ev6] at e31
        refine Does.store_box (T := 27) (cells := #[.slice B10 P8.length d10, .slice B11 L2.length d11]) rfl e4 e31 (HX4.out.next hG) (by kernel_rfl) rfl (by simp [Value.oneCell']) (fun w2 x9 o9 => ?_)
        have HP := hide (HPO.out w w2 P8 L2 B10 d10 vs10 B11 d11 vs11 hG o9 hr10 hw10 hr11 hw11)
        have HX9 := hide x9
        rw [show fin _ σ undef _ = (Act.put (Act.put (Act.put (Act.put (Act.put (Act.put (Act.put (Act.put _ (some 25) (σ 0)) (some 26) (σ 1)) (some 27) (σ 2)) (some 28) (σ 3)) (some 29) (σ 4)) (some 30) (σ 5)) (some 31) (σ 6)) none undef) from (fin_all hall).trans rfl]
        simp only [Act.put, List.setIfInBounds_toArray, List.set_cons_zero, List.set_cons_succ]
        generalize σ 0 = tt0 at *; generalize σ 1 = tt1 at *; generalize σ 2 = tt2 at *; generalize σ 3 = tt3 at *; generalize σ 4 = tt4 at *; generalize σ 5 = tt5 at *; generalize σ 6 = tt6 at *
        clear hF hG hall hin hout SOF o9 e4 e31 x9 hw10 hr10 hr11 hw11
        go_wp2_with fail
        refine bodyPost_ret (results_cell_row rfl _ _ _ _ #[.slice B10 P8.length d10, .slice B11 L2.length d11] _ _ rfl HX9.out Try.underlying27 rfl (by kernel_rfl)) rfl ?_
        rw [← HP8.out]
        exact HP.out
set_option maxHeartbeats 4000000 in
/-- What has no cycle is no word. -/
theorem wshift_none (A1 : Option Addr) (n1 c1 : Nat) (A2 : Option Addr) (c2 : Nat) (n : Int) (w0 : World) :
    Calls Try.prog 10 #[.agg #[.slice A1 n1 c1, .slice A2 0 c2], .int .i64 n] w0 (WordPost [] [] w0) := by
  obtain ⟨x2, x4, hb, hbz⟩ := bstart2 27 27 w0 #[.slice A1 n1 c1, .slice A2 0 c2] #[.slice none 0 0, .slice none 0 0]
  have cc1 := x2.cell 1 _ rfl
  have HB := hide hb
  clear hb x2
  go_enter Try.func10, Try.ntmps10
  go_wp2_with (with_reducible refine wpList_store_box rfl 27 _ _ rfl (w0.heap.size + 1) #[.slice none 0 0, .slice none 0 0] rfl rfl _ x4 (by kernel_rfl) rfl (by simp [Value.oneCell']) ?_; intro w9 k9 ho9)
  refine bodyPost_ret (results_cell_row rfl _ _ _ _ #[.slice none 0 0, .slice none 0 0] _ _ rfl k9 Try.underlying27 rfl (by kernel_rfl)) rfl ?_
  exact ⟨none, 0, none, 0, rfl, LsIn.nil _ _ _, LsIn.nil _ _ _, HB.out.trans (ho9.below HB.out.size (by omega))⟩
set_option maxHeartbeats 4000000 in
theorem wunroll_none (A1 : Option Addr) (n1 c1 : Nat) (A2 : Option Addr) (c2 : Nat) (n : Int) (w0 : World) :
    Calls Try.prog 11 #[.agg #[.slice A1 n1 c1, .slice A2 0 c2], .int .i64 n] w0 (WordPost [] [] w0) := by
  obtain ⟨x2, x4, hb, hbz⟩ := bstart2 27 27 w0 #[.slice A1 n1 c1, .slice A2 0 c2] #[.slice none 0 0, .slice none 0 0]
  have cc1 := x2.cell 1 _ rfl
  have HB := hide hb
  clear hb x2
  go_enter Try.func11, Try.ntmps11
  go_wp2_with (with_reducible refine wpList_store_box rfl 27 _ _ rfl (w0.heap.size + 1) #[.slice none 0 0, .slice none 0 0] rfl rfl _ x4 (by kernel_rfl) rfl (by simp [Value.oneCell']) ?_; intro w9 k9 ho9)
  refine bodyPost_ret (results_cell_row rfl _ _ _ _ #[.slice none 0 0, .slice none 0 0] _ _ rfl k9 Try.underlying27 rfl (by kernel_rfl)) rfl ?_
  exact ⟨none, 0, none, 0, rfl, LsIn.nil _ _ _, LsIn.nil _ _ _, HB.out.trans (ho9.below HB.out.size (by omega))⟩
end Go.Proofs.Ytljocjjdfgpbaaa
