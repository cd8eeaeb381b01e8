/- Texts of one seat, put together: WordT WordU. -/
import Derived.Test.YtljocjjdfgpbaaaB18
import Derived.Deep.CutBlock
set_option linter.unusedVariables false
/- word.Holds. -/
namespace Go.Proofs.Ytljocjjdfgpbaaa
open Go.RowKit
open Wo

theorem LRow.rebase {T : TypeId} {sz : Nat} {w : World} {base base' : Nat} {v : Value} {n : Nat} {xs : List Value} (h : LRow T sz w base v n xs) (hb : base' ≤ base) : LRow T sz w base' v n xs := by
  refine ⟨h.1, ?_⟩
  rcases h.2 with h1 | ⟨g, cap, cur, rfl, h2, rest⟩
  · exact .inl h1
  · exact .inr ⟨g, cap, cur, rfl, Nat.le_trans hb h2, rest⟩
theorem LRep.sub {S S' : Nat → Prop} {w : World} {L : List (List Bool)} {vs : List Value} (h : LRep S w L vs) (hs : ∀ b, b < w.heap.size → S b → S' b) : LRep S' w L vs :=
  ⟨h.1, h.2.1, fun j l hj => by obtain ⟨A1, c1, h1, h2, h3, h4⟩ := h.2.2 j l hj; exact ⟨A1, c1, h1, h2, h3, h4.sub hs⟩⟩
set_option maxRecDepth 100000 in
set_option maxHeartbeats 16000000 in
theorem wholds_any (S : Nat → Prop) (t : LT) (k p : Int) (A : Option Addr) (n c : Nat) (A1 : Option Addr) (c1 : Nat) (A2 : Option Addr) (c2 : Nat) (L1 L2 : List (List Bool)) (at_ : Int) (w0 : World) (hd : DIn S w0 t (c3 k p A n c)) (h1 : LsIn S w0 A1 L1.length L1) (h2 : LsIn S w0 A2 L2.length L2) (h0 : 0 < L2.length) (h9 : L1.length + L2.length ≤ 500000) (hx9 : at_ ≤ 9223372036854775807) :
    Calls Try.prog 12 #[.agg #[.int .i64 k, .int .i64 p, .slice A n c], .agg #[.slice A1 L1.length c1, .slice A2 L2.length c2], .int .i64 at_] w0 (fun e w' => e = .returned (.bool (H (L1 ++ L2).length (ltrOf (L1 ++ L2) L1.length) (norm t) at_.toNat)) ∧ Below w0.heap.size w0 w') := by
  obtain ⟨x3, x4, hb, hbz⟩ := bstart2 24 27 w0 #[.int .i64 k, .int .i64 p, .slice A n c] #[.slice A1 L1.length c1, .slice A2 L2.length c2]
  have hll : (L1 ++ L2).length = L1.length + L2.length := List.length_append
  have cc0 := x4.cell 0 _ rfl
  have cc1 := x4.cell 1 _ rfl
  have g0 : ((L2.length : Int) == 0) = false := by rw [beq_eq_false_iff_ne]; omega
  have HB := hide hb
  have HM := hide hbz
  have HX3 := hide x3
  have HX4 := hide x4
  have H1 := hide ((h1.sub (fun b hlt hs => (⟨hs, hlt⟩ : UpN S w0.heap.size b))).keep (Keep.of_below hb))
  have H2 := hide ((h2.sub (fun b hlt hs => (⟨hs, hlt⟩ : UpN S w0.heap.size b))).keep (Keep.of_below hb))
  have HD := hide ((hd.sub (fun b hlt hs => (⟨hs, hlt⟩ : UpN S w0.heap.size b))).keep (Keep.of_below hb))
  obtain ⟨y, hy⟩ : ∃ y, y = pos L1.length L2.length at_.toNat := ⟨_, rfl⟩
  have hyl : y < L1.length + L2.length := by rw [hy]; exact pos_lt h0
  obtain ⟨res, hres⟩ : ∃ res, res = H (L1 ++ L2).length (ltrOf (L1 ++ L2) L1.length) (norm t) at_.toNat := ⟨_, rfl⟩
  rw [← hres]
  have HROW := hide (show (row (L1 ++ L2) L1.length (norm t))[y]? = some res from by
    have hp := H_per (n := (L1 ++ L2).length) (ltrOf_per (L1 ++ L2) L1.length) (norm t)
    rw [show (L1 ++ L2).length - L1.length = L2.length by omega] at hp
    have hq := per_pos hp at_.toNat
    rw [hres, ← hq, ← hy]
    unfold row
    rw [List.getElem?_map, List.getElem?_range (by omega)]
    rfl)
  have HIX := hide (fun W => index_any A1 L1.length c1 A2 L2.length c2 at_ W h0 (by omega) hx9)
  rw [← hy] at HIX
  obtain ⟨SS, hSS⟩ : ∃ SS, SS = UpN S w0.heap.size := ⟨_, rfl⟩
  clear hy hres hb hbz hd h1 h2 x3
  go_enter Try.func12, Try.ntmps12
  go_upto_region 3 with fail
  generalize hW : (w0.alloc (.cells #[.int .i64 k, .int .i64 p, .slice A n c] 24)).alloc (.cells #[.slice A1 L1.length c1, .slice A2 L2.length c2] 27) = W1 at *
  have HSS := hide (show ∀ (w : World) (vs : List Value) (w' : World), Below W1.heap.size W1 w → LRep (UpN (UpN S w0.heap.size) w.heap.size) w' (L1 ++ L2) vs → LRep SS w' (L1 ++ L2) vs from fun w vs w' _ h => h.sub (fun b _ hs => by rw [hSS]; exact hs.1))
  have HSK := hide (show ∀ (w w2 : World) (vs : List Value) (M : List (List Bool)), Below W1.heap.size W1 w → Below W1.heap.size W1 w2 → w.heap.size ≤ w2.heap.size → LRep SS w M vs → LRep SS w2 M vs from fun w w2 vs M ha hb hs h => by
    subst hSS
    have hN : w0.heap.size ≤ W1.heap.size := by have := HM.out; omega
    have h1 : Below w0.heap.size w0 w := HB.out.next ha
    have h2 : Below w0.heap.size w0 w2 := HB.out.next hb
    exact h.keep ⟨hs, fun b hb _ => (h2.block b hb.2).trans (h1.block b hb.2).symm⟩)
  have SOF := hide (show ∀ W, Below W1.heap.size W1 W → (W.cell? ⟨w0.heap.size + 1, 0, none⟩ = some (.slice A1 L1.length c1) ∧ W.cell? ⟨w0.heap.size + 1, 1, none⟩ = some (.slice A2 L2.length c2)) from fun W h => ⟨(HX4.out.next h).cell 0 _ rfl, (HX4.out.next h).cell 1 _ rfl⟩)
  clear hW cc0 cc1 x4 hll
  refine wp_drawnL (by kernel_rfl) (by kernel_rfl) (by kernel_rfl) (by kernel_rfl) (fun w w' => Below w.heap.size w w') (fun j v w => match j with | 0 => v = .pointer (some ⟨w0.heap.size + 1, 0, none⟩) | 1 => v = .slice A1 L1.length c1 | 2 => v = .pointer (some ⟨w0.heap.size + 1, 1, none⟩) | 3 => v = .slice A2 L2.length c2 | 4 => ∃ gb, v = .slice (some ⟨gb, 0, none⟩) 2 2 ∧ Box 25 w gb #[.slice A1 L1.length c1, .slice A2 L2.length c2] | 5 => ∃ B d, v = .slice B (L1 ++ L2).length d ∧ ∃ vs, LRep SS w (L1 ++ L2) vs ∧ LRow 47 1 w W1.heap.size (.slice B (L1 ++ L2).length d) (L1 ++ L2).length vs | 6 => v = .pointer (some ⟨w0.heap.size + 1, 0, none⟩) | 7 => v = .slice A1 L1.length c1 | 8 => v = .int .i64 (L1.length) | 9 => ∃ B d, v = .agg #[.slice B (L1 ++ L2).length d, .int .i64 (L1.length : Int)] ∧ ∃ vs, LRep SS w (L1 ++ L2) vs ∧ LRow 47 1 w W1.heap.size (.slice B (L1 ++ L2).length d) (L1 ++ L2).length vs | 10 => ∃ g, v = .pointer (some ⟨g, 0, none⟩) ∧ W1.heap.size ≤ g ∧ Box 53 w g #[.slice none 0 0, .int .i64 0] | _ => True) (fun _ _ w => Below W1.heap.size W1 w) ?_ (fun _ => bl_drewN W1 1) ?_ ?_
  · intro j v w w' hT h
    match j, h with
    | 0, h => exact h
    | 1, h => exact h
    | 2, h => exact h
    | 3, h => exact h
    | 4, h => exact (by obtain ⟨g, e, h1⟩ := h; exact ⟨g, e, h1.next hT⟩)
    | 5, h => exact (by obtain ⟨B, d, e, vs, h1, h2⟩ := h; exact ⟨B, d, e, vs, h1.keep (Keep.of_below hT), h2.below hT⟩)
    | 6, h => exact h
    | 7, h => exact h
    | 8, h => exact h
    | 9, h => exact (by obtain ⟨B, d, e, vs, h1, h2⟩ := h; exact ⟨B, d, e, vs, h1.keep (Keep.of_below hT), h2.below hT⟩)
    | 10, h => exact (by obtain ⟨g, e, h1, h2⟩ := h; exact ⟨g, e, h1, h2.next hT⟩)
    | j + 11, h => trivial
  · refine ⟨?_, ?_, ?_, ?_, ?_, ?_, ?_, ?_, ?_, ?_, ?_, trivial⟩
    · intro listed σ w a hin hout hl hla hs hc hp hG hF
      refine Guarded.none rfl ?_
      have e4 : a.tmps.getD 4 undef = .pointer (some ⟨w0.heap.size + 1, 0, none⟩) := hout 4 (outB_spec (by kernel_rfl))
      refine Does.val (.pointer (some ⟨w0.heap.size + 1, 0, none⟩)) (w' := w) ?_ ⟨Below.refl _ _, rfl, hG⟩
      simp only [Array.getD_eq_getD_getElem?] at e4
      go_simp
    · intro listed σ w a hin hout hl hla hs hc hp hG hF
      refine Guarded.none rfl ?_
      have e12 : a.tmps.getD 12 undef = .pointer (some ⟨w0.heap.size + 1, 0, none⟩) := (hin 0 12 rfl (hp ⟨0, .data⟩ (by simp) rfl)).trans (hF 0 (hp ⟨0, .data⟩ (by simp) rfl))
      have CC := SOF.out w hG; obtain ⟨C0, C1⟩ := CC
      refine Does.val (.slice A1 L1.length c1) (w' := w) ?_ ⟨Below.refl _ _, rfl, hG⟩
      go_simp
    · intro listed σ w a hin hout hl hla hs hc hp hG hF
      refine Guarded.none rfl ?_
      have e4 : a.tmps.getD 4 undef = .pointer (some ⟨w0.heap.size + 1, 0, none⟩) := hout 4 (outB_spec (by kernel_rfl))
      refine Does.val (.pointer (some ⟨w0.heap.size + 1, 1, none⟩)) (w' := w) ?_ ⟨Below.refl _ _, rfl, hG⟩
      simp only [Array.getD_eq_getD_getElem?] at e4
      go_simp
    · intro listed σ w a hin hout hl hla hs hc hp hG hF
      refine Guarded.none rfl ?_
      have e14 : a.tmps.getD 14 undef = .pointer (some ⟨w0.heap.size + 1, 1, none⟩) := (hin 2 14 rfl (hp ⟨2, .data⟩ (by simp) rfl)).trans (hF 2 (hp ⟨2, .data⟩ (by simp) rfl))
      have CC := SOF.out w hG; obtain ⟨C0, C1⟩ := CC
      refine Does.val (.slice A2 L2.length c2) (w' := w) ?_ ⟨Below.refl _ _, rfl, hG⟩
      go_simp
    · intro listed σ w a hin hout hl hla hs hc hp hG hF
      refine Guarded.none rfl ?_
      have e13 : a.tmps.getD 13 undef = .slice A1 L1.length c1 := (hin 1 13 rfl (hp ⟨1, .data⟩ (by simp) rfl)).trans (hF 1 (hp ⟨1, .data⟩ (by simp) rfl))
      have e15 : a.tmps.getD 15 undef = .slice A2 L2.length c2 := (hin 3 15 rfl (hp ⟨3, .data⟩ (by simp) rfl)).trans (hF 3 (hp ⟨3, .data⟩ (by simp) rfl))
      refine Does.val (.slice (some ⟨w.heap.size, 0, none⟩) 2 2) (w' := w.alloc (.cells #[.slice A1 L1.length c1, .slice A2 L2.length c2] 25)) ?_ ⟨bl_alloc w _, ⟨w.heap.size, rfl, Box.new _ _ _⟩, hG.next (bl_alloc w _)⟩
      simp only [Array.getD_eq_getD_getElem?] at e13 e15
      go_simp
    · intro listed σ w a hin hout hl hla hs hc hp hG hF
      refine Guarded.none rfl ?_
      have e16 := hin 4 16 rfl (hp ⟨4, .data⟩ (by simp) rfl)
      obtain ⟨gb, ev4, xb⟩ := hF 4 (hp ⟨4, .data⟩ (by simp) rfl)
      rw [ev4] at e16
      refine Does.call ?_ (concatLs_any (UpN S w0.heap.size) gb 2 A1 A2 L1.length c1 L2.length c2 L1 L2 w (xb.cell 0 _ rfl) (xb.cell 1 _ rfl) (H1.out.keep (Keep.of_below hG)) (H2.out.keep (Keep.of_below hG)) (by omega) (by omega)) ?_
      · go_simp
      · rintro e w' ⟨B, d, vs, rfl, h1, h2, hb⟩
        exact ⟨_, rfl, hb, ⟨B, d, rfl, vs, HSS.out w vs w' hG h1, h2.rebase hG.size⟩, hG.next hb⟩
    · intro listed σ w a hin hout hl hla hs hc hp hG hF
      refine Guarded.none rfl ?_
      have e4 : a.tmps.getD 4 undef = .pointer (some ⟨w0.heap.size + 1, 0, none⟩) := hout 4 (outB_spec (by kernel_rfl))
      refine Does.val (.pointer (some ⟨w0.heap.size + 1, 0, none⟩)) (w' := w) ?_ ⟨Below.refl _ _, rfl, hG⟩
      simp only [Array.getD_eq_getD_getElem?] at e4
      go_simp
    · intro listed σ w a hin hout hl hla hs hc hp hG hF
      refine Guarded.none rfl ?_
      have e18 : a.tmps.getD 18 undef = .pointer (some ⟨w0.heap.size + 1, 0, none⟩) := (hin 6 18 rfl (hp ⟨6, .data⟩ (by simp) rfl)).trans (hF 6 (hp ⟨6, .data⟩ (by simp) rfl))
      have CC := SOF.out w hG; obtain ⟨C0, C1⟩ := CC
      refine Does.val (.slice A1 L1.length c1) (w' := w) ?_ ⟨Below.refl _ _, rfl, hG⟩
      go_simp
    · intro listed σ w a hin hout hl hla hs hc hp hG hF
      refine Guarded.none rfl ?_
      have e19 : a.tmps.getD 19 undef = .slice A1 L1.length c1 := (hin 7 19 rfl (hp ⟨7, .data⟩ (by simp) rfl)).trans (hF 7 (hp ⟨7, .data⟩ (by simp) rfl))
      refine Does.val (.int .i64 (L1.length)) (w' := w) ?_ ⟨Below.refl _ _, rfl, hG⟩
      simp only [Array.getD_eq_getD_getElem?] at e19
      go_simp
    · intro listed σ w a hin hout hl hla hs hc hp hG hF
      refine Guarded.none rfl ?_
      have e17 := hin 5 17 rfl (hp ⟨5, .data⟩ (by simp) rfl)
      obtain ⟨B5, d5, ev5, vs5, hr5, hw5⟩ := hF 5 (hp ⟨5, .data⟩ (by simp) rfl)
      rw [ev5] at e17
      have e20 : a.tmps.getD 20 undef = .int .i64 (L1.length) := (hin 8 20 rfl (hp ⟨8, .data⟩ (by simp) rfl)).trans (hF 8 (hp ⟨8, .data⟩ (by simp) rfl))
      refine Does.val (.agg #[.slice B5 (L1 ++ L2).length d5, .int .i64 (L1.length : Int)]) (w' := w) ?_ ⟨Below.refl _ _, ⟨B5, d5, rfl, vs5, hr5, hw5⟩, hG⟩
      simp only [Array.getD_eq_getD_getElem?] at e17 e20
      go_simp
    · intro listed σ w a hin hout hl hla hs hc hp hG hF
      refine Guarded.none rfl ?_
      refine Does.val (.pointer (some ⟨w.heap.size, 0, none⟩)) (w' := w.alloc (.cells #[.slice none 0 0, .int .i64 0] 53)) ?_ ⟨bl_alloc w _, ⟨w.heap.size, rfl, hG.size, Box.new _ _ _⟩, hG.next (bl_alloc w _)⟩
      go_simp
  · intro o ho
    injection ho with ho; subst ho
    intro listed σ w a hall hin hout hG hF
    refine Guarded.none rfl ?_
    have e7 := hin 10 7 rfl (by decide)
    obtain ⟨g10, ev10, hg10, x10⟩ := hF 10 (by decide)
    rw [ev10] at e7
    have e21 := hin 9 21 rfl (by decide)
    obtain ⟨B9, d9, ev9, vs9, hr9, hw9⟩ := hF 9 (by decide)
    rw [ev9] at e21
    refine Does.store_box (T := 53) (cells := #[.slice B9 (L1 ++ L2).length d9, .int .i64 (L1.length : Int)]) rfl e7 e21 x10 (by kernel_rfl) rfl (by simp [Value.oneCell']) (fun w2 x9 o9 => ?_)
    have hw8 := hw9.onlyT x10 (by decide) o9
    have hb8 := hG.trans (o9.below hG.size hg10)
    have hr8 := HSK.out w w2 vs9 (L1 ++ L2) hG hb8 o9.size hr9
    have HLS := hide (hr8.lsIn hw8 rfl)
    have HX9 := hide x9
    have HB8 := hide hb8
    rw [show fin _ σ undef _ = (Act.put (Act.put (Act.put (Act.put (Act.put (Act.put (Act.put (Act.put (Act.put (Act.put (Act.put (Act.put _ (some 12) (σ 0)) (some 13) (σ 1)) (some 14) (σ 2)) (some 15) (σ 3)) (some 16) (σ 4)) (some 17) (σ 5)) (some 18) (σ 6)) (some 19) (σ 7)) (some 20) (σ 8)) (some 21) (σ 9)) (some 7) (σ 10)) none undef) from (fin_all hall).trans rfl]
    simp only [Act.put, List.setIfInBounds_toArray, List.set_cons_zero, List.set_cons_succ]
    generalize σ 0 = tt0 at *; generalize σ 1 = tt1 at *; generalize σ 2 = tt2 at *; generalize σ 3 = tt3 at *; generalize σ 4 = tt4 at *; generalize σ 5 = tt5 at *; generalize σ 6 = tt6 at *; generalize σ 7 = tt7 at *; generalize σ 8 = tt8 at *; generalize σ 9 = tt9 at *; rw [ev10]
    clear hF hG hall hin hout SOF o9 e7 e21 x10 x9 hw8 hb8 hr8 hw9 hr9
    go_upto_region 4 with fail
    generalize w2 = W2 at *
    have HX3b := hide (HX3.out.next HB8.out)
    have HX4b := hide (HX4.out.next HB8.out)
    have SOF := hide (show ∀ W, Below W2.heap.size W2 W → (W.cell? ⟨g10, 0, none⟩ = some (.slice B9 (L1 ++ L2).length d9) ∧ W.cell? ⟨g10, 1, none⟩ = some (.int .i64 (L1.length : Int)) ∧ W.cell? ⟨w0.heap.size, 0, none⟩ = some (.int .i64 k) ∧ W.cell? ⟨w0.heap.size, 1, none⟩ = some (.int .i64 p) ∧ W.cell? ⟨w0.heap.size, 2, none⟩ = some (.slice A n c) ∧ W.cell? ⟨w0.heap.size + 1, 0, none⟩ = some (.slice A1 L1.length c1) ∧ W.cell? ⟨w0.heap.size + 1, 1, none⟩ = some (.slice A2 L2.length c2)) from
      fun W h => ⟨(HX9.out.next h).cell 0 _ rfl, (HX9.out.next h).cell 1 _ rfl, (HX3b.out.next h).cell 0 _ rfl, (HX3b.out.next h).cell 1 _ rfl, (HX3b.out.next h).cell 2 _ rfl, (HX4b.out.next h).cell 0 _ rfl, (HX4b.out.next h).cell 1 _ rfl⟩)
    have HTT := hide (fun W (h : Below W2.heap.size W2 W) => truths_any (L1 ++ L2) L1.length (by rw [List.length_append]; omega) (by rw [List.length_append]; omega) (norm t).size (Up SS W1.heap.size) t k p A n c B9 d9 W (Nat.le_refl _) ((HD.out.sub (fun b _ hs => (.inl (hSS ▸ hs) : Up SS W1.heap.size b))).keep (Keep.of_below (HB8.out.next h))) (HLS.out.keep (Keep.of_below h)))
    unfold TruthsPost at HTT
    have hyr : y < (L1 ++ L2).length := by rw [List.length_append]; exact hyl
    have HBQ := hide (HB.out.next HB8.out)
    clear HD HLS HX9 HX3b HX4b HX3 HX4 HSS HSK H1 H2 HB8 hSS
    refine wp_drawn (by kernel_rfl) (by kernel_rfl) (by kernel_rfl) (fun w w' => Below w.heap.size w w') (fun j v w => match j with | 0 => v = .agg #[.slice B9 (L1 ++ L2).length d9, .int .i64 (L1.length : Int)] | 1 => v = .agg #[.int .i64 k, .int .i64 p, .slice A n c] | 2 => ∃ g, v = .slice (some ⟨g, 0, none⟩) (L1 ++ L2).length (L1 ++ L2).length ∧ ABox w g (row (L1 ++ L2) L1.length (norm t)) | 3 => v = .agg #[.slice A1 L1.length c1, .slice A2 L2.length c2] | 4 => v = .int .i64 at_ | 5 => v = .int .i64 (y : Int) | 6 => ∃ g, v = .pointer (some ⟨g, y, none⟩) ∧ ABox w g (row (L1 ++ L2) L1.length (norm t)) | 7 => v = .bool res | 8 => v = .bool res | _ => True) (fun _ _ w => Below W2.heap.size W2 w) ?_ (fun _ => bl_drewN W2 1) ?_ ?_
    · intro j v w w' hT h
      match j, h with
      | 0, h => exact h
      | 1, h => exact h
      | 2, h => exact (by obtain ⟨g, e, h1⟩ := h; exact ⟨g, e, Box.next h1 hT⟩)
      | 3, h => exact h
      | 4, h => exact h
      | 5, h => exact h
      | 6, h => exact (by obtain ⟨g, e, h1⟩ := h; exact ⟨g, e, Box.next h1 hT⟩)
      | 7, h => exact h
      | 8, h => exact h
      | j + 9, h => trivial
    · refine ⟨?_, ?_, ?_, ?_, ?_, ?_, ?_, ?_, ?_, trivial⟩
      · intro listed σ w a hin hout hl hc hp hG hF
        refine Guarded.none rfl ?_
        have e7 : a.tmps.getD 7 undef = .pointer (some ⟨g10, 0, none⟩) := hout 7 (outB_spec (by kernel_rfl))
        have CC := SOF.out w hG; obtain ⟨C0, C1, C2, C3, C4, C5, C6⟩ := CC
        refine Does.val (.agg #[.slice B9 (L1 ++ L2).length d9, .int .i64 (L1.length : Int)]) (w' := w) ?_ ⟨Below.refl _ _, rfl, hG⟩
        go_simp
      · intro listed σ w a hin hout hl hc hp hG hF
        refine Guarded.none rfl ?_
        have e3 : a.tmps.getD 3 undef = .pointer (some ⟨w0.heap.size, 0, none⟩) := hout 3 (outB_spec (by kernel_rfl))
        have CC := SOF.out w hG; obtain ⟨C0, C1, C2, C3, C4, C5, C6⟩ := CC
        refine Does.val (.agg #[.int .i64 k, .int .i64 p, .slice A n c]) (w' := w) ?_ ⟨Below.refl _ _, rfl, hG⟩
        go_simp
      · intro listed σ w a hin hout hl hc hp hG hF
        refine Guarded.none rfl ?_
        have e22 : a.tmps.getD 22 undef = .agg #[.slice B9 (L1 ++ L2).length d9, .int .i64 (L1.length : Int)] := (hin 0 22 rfl (hp ⟨0, .data⟩ (by simp) rfl)).trans (hF 0 (hp ⟨0, .data⟩ (by simp) rfl))
        have e23 : a.tmps.getD 23 undef = .agg #[.int .i64 k, .int .i64 p, .slice A n c] := (hin 1 23 rfl (hp ⟨1, .data⟩ (by simp) rfl)).trans (hF 1 (hp ⟨1, .data⟩ (by simp) rfl))
        refine Does.call ?_ (HTT.out w hG) ?_
        · go_simp
        · rintro e w' ⟨g, rfl, h1, -, hb⟩
          exact ⟨_, rfl, hb, ⟨g, rfl, h1⟩, hG.next hb⟩
      · intro listed σ w a hin hout hl hc hp hG hF
        refine Guarded.none rfl ?_
        have e4 : a.tmps.getD 4 undef = .pointer (some ⟨w0.heap.size + 1, 0, none⟩) := hout 4 (outB_spec (by kernel_rfl))
        have CC := SOF.out w hG; obtain ⟨C0, C1, C2, C3, C4, C5, C6⟩ := CC
        refine Does.val (.agg #[.slice A1 L1.length c1, .slice A2 L2.length c2]) (w' := w) ?_ ⟨Below.refl _ _, rfl, hG⟩
        go_simp
      · intro listed σ w a hin hout hl hc hp hG hF
        refine Guarded.none rfl ?_
        have e2 : a.tmps.getD 2 undef = .int .i64 at_ := hout 2 (outB_spec (by kernel_rfl))
        refine Does.val (.int .i64 at_) (w' := w) ?_ ⟨Below.refl _ _, rfl, hG⟩
        simp only [Array.getD_eq_getD_getElem?] at e2
        go_simp
      · intro listed σ w a hin hout hl hc hp hG hF
        refine Guarded.none rfl ?_
        have e25 : a.tmps.getD 25 undef = .agg #[.slice A1 L1.length c1, .slice A2 L2.length c2] := (hin 3 25 rfl (hp ⟨3, .data⟩ (by simp) rfl)).trans (hF 3 (hp ⟨3, .data⟩ (by simp) rfl))
        have e26 : a.tmps.getD 26 undef = .int .i64 at_ := (hin 4 26 rfl (hp ⟨4, .data⟩ (by simp) rfl)).trans (hF 4 (hp ⟨4, .data⟩ (by simp) rfl))
        refine Does.call ?_ (HIX.out w) ?_
        · go_simp
        · rintro e w' ⟨rfl, hb⟩
          exact ⟨_, rfl, hb, rfl, hG.next hb⟩
      · intro listed σ w a hin hout hl hc hp hG hF
        refine Guarded.none rfl ?_
        have e24 := hin 2 24 rfl (hp ⟨2, .data⟩ (by simp) rfl)
        obtain ⟨g2, ev2, a2⟩ := hF 2 (hp ⟨2, .data⟩ (by simp) rfl)
        rw [ev2] at e24
        have e27 : a.tmps.getD 27 undef = .int .i64 (y : Int) := (hin 5 27 rfl (hp ⟨5, .data⟩ (by simp) rfl)).trans (hF 5 (hp ⟨5, .data⟩ (by simp) rfl))
        refine Does.val (.pointer (some ⟨g2, y, none⟩)) (w' := w) ?_ ⟨Below.refl _ _, ⟨g2, rfl, a2⟩, hG⟩
        simp only [Array.getD_eq_getD_getElem?] at e24 e27
        go_simp
        (try (intro hh; exfalso; omega))
      · intro listed σ w a hin hout hl hc hp hG hF
        refine Guarded.none rfl ?_
        have e28 := hin 6 28 rfl (hp ⟨6, .data⟩ (by simp) rfl)
        obtain ⟨g6, ev6, a6⟩ := hF 6 (hp ⟨6, .data⟩ (by simp) rfl)
        rw [ev6] at e28
        have CC := a6.cell HROW.out
        refine Does.val (.bool res) (w' := w) ?_ ⟨Below.refl _ _, rfl, hG⟩
        simp only [Array.getD_eq_getD_getElem?] at e28
        go_simp
      · intro listed σ w a hin hout hl hc hp hG hF
        refine Guarded.none rfl ?_
        have e29 : a.tmps.getD 29 undef = .bool res := (hin 7 29 rfl (hp ⟨7, .data⟩ (by simp) rfl)).trans (hF 7 (hp ⟨7, .data⟩ (by simp) rfl))
        refine Does.val (.bool res) (w' := w) ?_ ⟨Below.refl _ _, rfl, hG⟩
        simp only [Array.getD_eq_getD_getElem?] at e29
        go_simp
    · intro listed σ W9 hall hG hF
      rw [show mid _ σ listed _ = (Act.put (Act.put (Act.put (Act.put (Act.put (Act.put (Act.put (Act.put (Act.put _ (some 22) (σ 0)) (some 23) (σ 1)) (some 24) (σ 2)) (some 25) (σ 3)) (some 26) (σ 4)) (some 27) (σ 5)) (some 28) (σ 6)) (some 29) (σ 7)) (some 6) (σ 8)) from (mid_all hall).trans rfl]
      generalize σ 0 = tt0
      generalize σ 1 = tt1
      generalize σ 2 = tt2
      generalize σ 3 = tt3
      generalize σ 4 = tt4
      generalize σ 5 = tt5
      generalize σ 6 = tt6
      generalize σ 7 = tt7
      rw [show σ 8 = .bool res from hF 8 (by decide)]
      simp only [Act.put, List.setIfInBounds_toArray, List.set_cons_zero, List.set_cons_succ]
      have TG := hG
      clear hF hG hall
      clear σ
      have HQ := hide (HBQ.out.next TG)
      clear TG SOF
      go_wp2_with fail
      go_ret
      exact ⟨rfl, HQ.out⟩
set_option maxHeartbeats 4000000 in
theorem wholds_none (k p : Int) (A : Option Addr) (n c : Nat) (A1 : Option Addr) (n1 c1 : Nat) (A2 : Option Addr) (c2 : Nat) (at_ : Int) (w0 : World) :
    Calls Try.prog 12 #[.agg #[.int .i64 k, .int .i64 p, .slice A n c], .agg #[.slice A1 n1 c1, .slice A2 0 c2], .int .i64 at_] w0 (fun e w' => e = .returned (.bool false) ∧ Below w0.heap.size w0 w') := by
  obtain ⟨x3, x4, hb, hbz⟩ := bstart2 24 27 w0 #[.int .i64 k, .int .i64 p, .slice A n c] #[.slice A1 n1 c1, .slice A2 0 c2]
  have cc1 := x4.cell 1 _ rfl
  have HB := hide hb
  clear hb hbz x3
  go_enter Try.func12, Try.ntmps12
  go_wp2_with fail
  go_ret
  exact ⟨rfl, HB.out⟩
end Go.Proofs.Ytljocjjdfgpbaaa
/- word.Plain. -/
namespace Go.Proofs.Ytljocjjdfgpbaaa
open Go.RowKit
open Wo

/-- A property that is yet to be made plain, kid by kid: what comes out is p. -/
structure Ready (Z : Nat) (p : Pr) (d : Bool) (f : LT) (k : Nat) : Prop where
  kind : f.k = (k : Int)
  out : tree p = .mk (if d = true then (dualN k : Int) else (k : Int)) 0 (f.kids.map fun q => tree (plain (norm q) d))
  few : f.kids.length ≤ 2
  small : ∀ q ∈ f.kids, (norm q).size ≤ Z
theorem ready_leaf (Z : Nat) (t : LT) (d : Bool) (k : Nat) (hk : t.k = (k : Int)) (h : k = 0 ∨ k = 1) (hl : t.kids = []) : Ready Z (plain (norm t) d) d t k := by
  refine ⟨hk, ?_, by rw [hl]; decide, fun q hq => by rw [hl] at hq; cases hq⟩
  rw [hl, norm_eq t, hk]
  rcases h with rfl | rfl <;> cases d <;> simp [plain, tree, dualN, arity]
theorem kids_two {t : LT} (h : t.kids.length = 2) : t.kids = [t.kid 0, t.kid 1] := by
  obtain ⟨k, p, l⟩ := t
  match l, h with
  | [a, b], _ => rfl
theorem kids_one {t : LT} (h : t.kids.length = 1) : t.kids = [t.kid 0] := by
  obtain ⟨k, p, l⟩ := t
  match l, h with
  | [a], _ => rfl
theorem norm_one {t : LT} {k : Nat} (hk : t.k = (k : Int)) (ha : arity t.k = 1) : norm t = .una k (norm (t.kid 0)) := by
  rw [norm_eq t, if_neg (fun e => by rw [e] at ha; cases ha), if_neg (fun e => by rw [e] at ha; cases ha), if_pos ha, hk]; rfl
theorem norm_two {t : LT} {k : Nat} (hk : t.k = (k : Int)) (ha : arity t.k = 2) : norm t = .bin k (norm (t.kid 0)) (norm (t.kid 1)) := by
  rw [norm_eq t, if_neg (fun e => by rw [e] at ha; cases ha), if_neg (fun e => by rw [e] at ha; cases ha), if_neg (by omega), if_pos ha, hk]; rfl
theorem ready_next (Z : Nat) (t : LT) (d : Bool) (hk : t.k = 8) (hl : t.kids.length = 1) (hz : (norm t).size ≤ Z + 1) : Ready Z (plain (norm t) d) d t 8 := by
  have hn := norm_one (t := t) (k := 8) hk (by rw [hk]; decide)
  rw [hn, Pr.size] at hz
  refine ⟨hk, ?_, by omega, fun q hq => ?_⟩
  · rw [kids_one hl, hn]
    cases d <;> simp [plain, tree, dualN, dual]
  · rw [kids_one hl] at hq
    simp at hq
    subst hq
    omega
theorem ready_bin (Z : Nat) (t : LT) (d : Bool) (k : Nat) (hk : t.k = (k : Int)) (h : k = 4 ∨ k = 5 ∨ k = 11 ∨ k = 12) (hl : t.kids.length = 2) (hz : (norm t).size ≤ Z + 1) : Ready Z (plain (norm t) d) d t k := by
  have hn := norm_two (t := t) (k := k) hk (by rw [hk]; rcases h with rfl | rfl | rfl | rfl <;> decide)
  rw [hn, Pr.size] at hz
  refine ⟨hk, ?_, by omega, fun q hq => ?_⟩
  · rw [kids_two hl, hn]
    rcases h with rfl | rfl | rfl | rfl <;> cases d <;> simp [plain, tree, dualN, dual]
  · rw [kids_two hl] at hq
    simp at hq
    have h1 := (norm (t.kid 0)).size_pos
    have h2 := (norm (t.kid 1)).size_pos
    rcases hq with rfl | rfl <;> omega
theorem norm_mk3 (a : LT) : norm (.mk 3 0 [a]) = .una 3 (norm a) := norm_one (t := .mk 3 0 [a]) (k := 3) rfl (by show arity 3 = 1; decide)
theorem ready_imp (Z : Nat) (t : LT) (d : Bool) (hk : t.k = 7) (hl : t.kids.length = 2) (hz : (norm t).size ≤ Z + 1) : Ready Z (plain (norm t) d) d (.mk 5 0 [.mk 3 0 [t.kid 0], t.kid 1]) 5 := by
  have hn := norm_two (t := t) (k := 7) hk (by rw [hk]; decide)
  rw [hn, Pr.size] at hz
  have h1 := (norm (t.kid 0)).size_pos
  have h2 := (norm (t.kid 1)).size_pos
  refine ⟨rfl, ?_, Nat.le_refl _, fun q hq => ?_⟩
  · rw [hn]
    cases d <;> simp [plain, tree, dualN, dual, LT.kids, norm_mk3]
  · simp [LT.kids] at hq
    rcases hq with rfl | rfl
    · rw [norm_mk3, Pr.size]; omega
    · omega
theorem ready_all (Z : Nat) (t : LT) (d : Bool) (hk : t.k = 9) (hl : t.kids.length = 1) (hz : (norm t).size ≤ Z + 1) : Ready Z (plain (norm t) d) d (.mk 12 0 [.mk 1 0 [], t.kid 0]) 12 := by
  have hn := norm_one (t := t) (k := 9) hk (by rw [hk]; decide)
  rw [hn, Pr.size] at hz
  have h1 := (norm (t.kid 0)).size_pos
  have h0 : norm (.mk 1 0 []) = .ff := norm_lff
  refine ⟨rfl, ?_, Nat.le_refl _, fun q hq => ?_⟩
  · rw [hn]
    cases d <;> simp [plain, tree, dualN, dual, LT.kids, h0]
  · simp [LT.kids] at hq
    rcases hq with rfl | rfl
    · rw [h0, Pr.size]; omega
    · omega
theorem ready_some (Z : Nat) (t : LT) (d : Bool) (hk : t.k = 10) (hl : t.kids.length = 1) (hz : (norm t).size ≤ Z + 1) : Ready Z (plain (norm t) d) d (.mk 11 0 [.mk 0 0 [], t.kid 0]) 11 := by
  have hn := norm_one (t := t) (k := 10) hk (by rw [hk]; decide)
  rw [hn, Pr.size] at hz
  have h1 := (norm (t.kid 0)).size_pos
  have h0 : norm (.mk 0 0 []) = .tt := norm_k0 _ rfl
  refine ⟨rfl, ?_, Nat.le_refl _, fun q hq => ?_⟩
  · rw [hn]
    cases d <;> simp [plain, tree, dualN, dual, LT.kids, h0]
  · simp [LT.kids] at hq
    rcases hq with rfl | rfl
    · rw [h0, Pr.size]; omega
    · omega
/-- A new block of one property. -/
theorem kids_new1 {S : Nat → Prop} {w : World} {M : Nat} {f : LT} {a b : Int} {A : Option Addr} {n c : Nat} (h : DIn (Up S M) w f (c3 a b A n c)) (hM : M ≤ w.heap.size) :
    KsIn (Up S M) (w.alloc (.cells #[.int .i64 a, .int .i64 b, .slice A n c] 24)) (some ⟨w.heap.size, 0, none⟩) 1 [f] := by
  have hx := Box.new 24 w #[.int .i64 a, .int .i64 b, .slice A n c]
  exact KsIn.of_flat (S := Up S M) (kids := [f]) (b := w.heap.size) (o := 0) (css := [c3 a b A n c]) rfl (fun cs hc => by simp at hc; subst hc; rfl) (.inr hM) (by rw [size_alloc2]; omega)
    (fun j u hu => by
      match j with
      | 0 => simp [c3] at hu; subst hu; exact hx.cell 0 _ rfl
      | 1 => simp [c3] at hu; subst hu; exact hx.cell 1 _ rfl
      | 2 => simp [c3] at hu; subst hu; exact hx.cell 2 _ rfl
      | j + 3 => simp [c3] at hu)
    (fun j t ht => by
      match j with
      | 0 => simp at ht; subst ht; exact ⟨_, rfl, h.keep (Keep.of_below (bl_alloc _ _))⟩
      | j + 1 => simp at ht)
theorem kids_new2 {S : Nat → Prop} {w : World} {M : Nat} {f g : LT} {a b a' b' : Int} {A A' : Option Addr} {n c n' c' : Nat} (h : DIn (Up S M) w f (c3 a b A n c)) (h' : DIn (Up S M) w g (c3 a' b' A' n' c')) (hM : M ≤ w.heap.size) :
    KsIn (Up S M) (w.alloc (.cells #[.int .i64 a, .int .i64 b, .slice A n c, .int .i64 a', .int .i64 b', .slice A' n' c'] 24)) (some ⟨w.heap.size, 0, none⟩) 2 [f, g] := by
  have hx := Box.new 24 w #[.int .i64 a, .int .i64 b, .slice A n c, .int .i64 a', .int .i64 b', .slice A' n' c']
  exact KsIn.of_flat (S := Up S M) (kids := [f, g]) (b := w.heap.size) (o := 0) (css := [c3 a b A n c, c3 a' b' A' n' c']) rfl (fun cs hc => by simp at hc; rcases hc with rfl | rfl <;> rfl) (.inr hM) (by rw [size_alloc2]; omega)
    (fun j u hu => by
      match j with
      | 0 => simp [c3] at hu; subst hu; exact hx.cell 0 _ rfl
      | 1 => simp [c3] at hu; subst hu; exact hx.cell 1 _ rfl
      | 2 => simp [c3] at hu; subst hu; exact hx.cell 2 _ rfl
      | 3 => simp [c3] at hu; subst hu; exact hx.cell 3 _ rfl
      | 4 => simp [c3] at hu; subst hu; exact hx.cell 4 _ rfl
      | 5 => simp [c3] at hu; subst hu; exact hx.cell 5 _ rfl
      | j + 6 => simp [c3] at hu)
    (fun j t ht => by
      match j with
      | 0 => simp at ht; subst ht; exact ⟨_, rfl, h.keep (Keep.of_below (bl_alloc _ _))⟩
      | 1 => simp at ht; subst ht; exact ⟨_, rfl, h'.keep (Keep.of_below (bl_alloc _ _))⟩
      | j + 2 => simp at ht)
theorem cnt_two {t : LT} (h : (cnt t).k = 2) : cnt t = .mk 2 (cnt t).p [] := by
  rcases cnt_kinds t with ⟨h1, -⟩ | ⟨h1, -⟩ | ⟨-, h2⟩ | ⟨h1, -⟩
  · omega
  · omega
  · generalize cnt t = u at *
    obtain ⟨k, p, l⟩ := u
    simp only [LT.k] at h
    simp only [LT.kids] at h2
    subst h h2
    rfl
  · rw [h] at h1; exact absurd h1 (by decide)
theorem box_set3 {T : TypeId} {w : World} {g : Nat} {x y z : Value} (h : Box T w g #[x, y, z]) (u : Value) : Box T (w.setCell ⟨g, 0, none⟩ u) g #[u, y, z] ∧ Box T (w.setCell ⟨g, 2, none⟩ u) g #[x, y, u] := by
  unfold Box at h ⊢
  constructor <;> simp [World.setCell, Array.getElem?_modify, h]
/-- Blocks but the list's own. -/
def NotOwn (U : Nat → Prop) (v : Value) (b : Nat) : Prop := U b ∧ some b ≠ v.ownBlock
theorem KRow.sub {S S' : Nat → Prop} {w : World} {base q : Nat} {v : Value} {ks : List LT} (h : KRow S w base v q ks) (hs : ∀ b, b < w.heap.size → S b → S' b) : KRow S' w base v q ks := by
  obtain ⟨h1, css, h2, h3, h4, h5⟩ := h
  exact ⟨h1, css, h2, h3, h4, fun j t ht => by obtain ⟨cs, e1, e2⟩ := h5 j t ht; exact ⟨cs, e1, e2.sub hs⟩⟩
theorem KRow.other {S : Nat → Prop} {w w' : World} {base q g : Nat} {v : Value} {ks : List LT} (h : KRow S w base v q ks) (ho : Only g w w') (hg : g < base) (hS : ¬ S g) : KRow S w' base v q ks := by
  obtain ⟨h1, css, h2, h3, h4, h5⟩ := h
  exact ⟨h1, css, h2, h3, h4.other ho (.inl hg), fun j t ht => by obtain ⟨cs, e1, e2⟩ := h5 j t ht; exact ⟨cs, e1, e2.keep (Keep.of_only ho hS)⟩⟩
theorem KRow.nil (S : Nat → Prop) (w : World) (base : Nat) : KRow S w base (.slice none 0 0) 0 [] := ⟨rfl, [], rfl, fun _ h => absurd h (by simp), LRow.nil _ _ _ _, fun j t h => absurd h (by simp)⟩
/-- append of one property to a list of the call's own. -/
theorem run_append_k {U : Nat → Prop} {w : World} {base q gs : Nat} {A : Option Addr} {c : Nat} {ks : List LT} {x : LT} {k p : Int} {A1 : Option Addr} {n1 c1 : Nat} (ty : TypeId) (h : KRow (NotOwn U (.slice A q c)) w base (.slice A q c) q ks) (hb : Box 24 w gs #[.int .i64 k, .int .i64 p, .slice A1 n1 c1])
    (hd : DIn (NotOwn U (.slice A q c)) w x (c3 k p A1 n1 c1)) (hq : q ≤ 1000) (hbase : base ≤ w.heap.size) (hU : ∀ b, base ≤ b → U b) :
    ∃ v' w', (Builtin.append_ #[22, 22] ty #[.slice A q c, .slice (some ⟨gs, 0, none⟩) 1 1]).run Try.prog w = .ok v' w' ∧ KRow (NotOwn U v') w' base v' (q + 1) (ks ++ [x]) ∧ w.grownBy w' (Value.slice A q c).ownBlock := by
  obtain ⟨h1, css, h2, h3, h4, h5⟩ := h
  obtain ⟨i0, hi0, hz0, hz1, hz2⟩ := info_parts ltl_info
  obtain ⟨v', w', hr, hl, hg, ho⟩ := run_append_lrow2 (P := Try.prog) (w := w) base 22 ty 24 i0 _ 3 40 Try.underlying22 hi0 hz0 hz1 hz2 rfl (by decide) (by
      intro u hu
      simp [Value.cells] at hu
      rcases hu with rfl | rfl
      · exact NL.i64 _
      · exact NL.slice _ _ _) (.slice A q c) q css.flatten h4 ⟨gs, 0, none⟩ 1 1 (c3 k p A1 n1 c1) rfl (fun j u hu => by
      match j with
      | 0 => simp [c3] at hu; subst hu; exact hb.cell 0 _ rfl
      | 1 => simp [c3] at hu; subst hu; exact hb.cell 1 _ rfl
      | 2 => simp [c3] at hu; subst hu; exact hb.cell 2 _ rfl
      | j + 3 => simp [c3] at hu) (fun u hu => by simp [c3] at hu; rcases hu with rfl | rfl | rfl <;> rfl) (c3_nl _ _ _ _ _) (by unfold maxLen; omega) (by omega) hbase
  refine ⟨v', w', hr, ?_, hg⟩
  have hk : Keep (fun b => NotOwn U (.slice A q c) b ∧ some b ≠ v'.ownBlock) w w' := ⟨hg.size, fun b hb hlt => hg.block b hlt hb.1.2⟩
  have hs : ∀ b, b < w.heap.size → NotOwn U (.slice A q c) b → NotOwn U (.slice A q c) b ∧ some b ≠ v'.ownBlock := fun b hlt hb => ⟨hb, fun e => by
    rcases ho with ho | ho
    · rw [ho] at e; exact hb.2 e
    · rw [ho] at e; injection e with e; omega⟩
  have := KRow.add (S := fun b => NotOwn U (.slice A q c) b ∧ some b ≠ v'.ownBlock) h1 h2 h3 (fun j t ht => by obtain ⟨cs, e1, e2⟩ := h5 j t ht; exact ⟨cs, e1, e2.sub hs⟩) hl rfl hk ((hd.sub hs).keep hk)
  exact this.sub (fun b _ hb => ⟨hb.1.1, hb.2⟩)
theorem grown_trans {a b c : World} {row : Option Nat} (h : Below a.heap.size a b) (k : b.grownBy c row) : a.grownBy c row := ⟨k.os.trans h.os, k.tape.trans h.tape, k.output.trans h.output, Nat.le_trans h.size k.size, fun i hi hne => (k.block i (Nat.lt_of_lt_of_le hi h.size) hne).trans (h.block i hi)⟩
def PlainPost (S : Nat → Prop) (p : Pr) (w : World) (e : Ending) (w' : World) : Prop :=
  ∃ k q A n c, e = .returned (.agg #[.int .i64 k, .int .i64 q, .slice A n c]) ∧ DIn (Up S w.heap.size) w' (tree p) (c3 k q A n c) ∧ Below w.heap.size w w'
end Go.Proofs.Ytljocjjdfgpbaaa
