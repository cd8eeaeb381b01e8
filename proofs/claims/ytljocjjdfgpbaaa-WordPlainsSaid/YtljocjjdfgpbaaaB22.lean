/- Texts of one seat, put together: WordSh WordRot. -/
import Derived.Test.YtljocjjdfgpbaaaB21
import Derived.Test.YtljocjjdfgpbaaaB06
set_option linter.unusedVariables false
/- word.Shift. -/
namespace Go.Proofs.Ytljocjjdfgpbaaa
open Go.RowKit
open Wo

theorem LsIn.take {S : Nat → Prop} {w : World} {A : Option Addr} {n i : Nat} {L : List (List Bool)} (h : LsIn S w A n L) (hi : i ≤ n) : LsIn S w A i (L.take i) := by
  refine ⟨by rw [List.length_take, h.1]; omega, fun h0 => ?_⟩
  obtain ⟨b, o, e, hS, hlt, hc⟩ := h.2 (by omega)
  refine ⟨b, o, e, hS, hlt, fun j l hj => ?_⟩
  rw [List.getElem?_take] at hj
  split at hj
  · exact hc j l hj
  · cases hj
theorem LsIn.drop {S : Nat → Prop} {w : World} {b o : Nat} {n i : Nat} {L : List (List Bool)} (h : LsIn S w (some ⟨b, o, none⟩) n L) (hi : i ≤ n) : LsIn S w (some ⟨b, o + i, none⟩) (n - i) (L.drop i) := by
  refine ⟨by rw [List.length_drop, h.1], fun h0 => ?_⟩
  obtain ⟨b', o', e, hS, hlt, hc⟩ := h.2 (by omega)
  injection e with e
  injection e with e1 e2 e3
  subst e1 e2
  refine ⟨b, o + i, rfl, hS, hlt, fun j l hj => ?_⟩
  rw [List.getElem?_drop] at hj
  obtain ⟨A1, c1, h1, h2⟩ := hc (i + j) l hj
  exact ⟨A1, c1, by rw [Nat.add_assoc]; exact h1, h2⟩
/-- The answer is a word of new letters. -/
def WordPost (L M : List (List Bool)) (w : World) (e : Ending) (w' : World) : Prop :=
  ∃ A c B d, e = .returned (.agg #[.slice A L.length c, .slice B M.length d]) ∧ LsIn (FromB w.heap.size) w' A L.length L ∧ LsIn (FromB w.heap.size) w' B M.length M ∧ Below w.heap.size w w'
set_option maxRecDepth 100000 in
set_option maxHeartbeats 16000000 in
theorem wshift_stem (S : Nat → Prop) (A1 : Option Addr) (c1 : Nat) (A2 : Option Addr) (c2 : Nat) (L1 L2 : List (List Bool)) (n : Int) (w0 : World) (h1 : LsIn S w0 A1 L1.length L1) (h2 : LsIn S w0 A2 L2.length L2) (h0 : 0 < L2.length) (h9 : L1.length + L2.length ≤ 500000) (hl1 : ∀ l ∈ L1, l.length ≤ 1000000) (hl2 : ∀ l ∈ L2, l.length ≤ 1000000)
    (hc1 : L1.length ≤ c1) (hc19 : c1 ≤ 9223372036854775807) (hn9 : n ≤ 9223372036854775807) (hx : pos L1.length L2.length n.toNat < L1.length) :
    Calls Try.prog 10 #[.agg #[.slice A1 L1.length c1, .slice A2 L2.length c2], .int .i64 n] w0 (WordPost (L1.drop (pos L1.length L2.length n.toNat)) L2 w0) := by
  obtain ⟨x2, x4, hb, hbz⟩ := bstart2 27 27 w0 #[.slice A1 L1.length c1, .slice A2 L2.length c2] #[.slice none 0 0, .slice none 0 0]
  obtain ⟨x, hxx⟩ : ∃ x, x = pos L1.length L2.length n.toNat := ⟨_, rfl⟩
  have HIX := hide (fun W => index_any A1 L1.length c1 A2 L2.length c2 n W h0 (by omega) hn9)
  rw [← hxx] at HIX hx ⊢
  clear hxx
  obtain ⟨bb, oo, rfl⟩ : ∃ bb oo, A1 = some ⟨bb, oo, none⟩ := by
    obtain ⟨b, o, e, -⟩ := h1.2 (by omega)
    exact ⟨b, o, e⟩
  have cc0 := x2.cell 0 _ rfl
  have cc1 := x2.cell 1 _ rfl
  have g0 : ((L2.length : Int) == 0) = false := by rw [beq_eq_false_iff_ne]; omega
  have HX2 := hide x2
  have HX4 := hide x4
  have HB := hide hb
  have HM := hide hbz
  have HA := hide ((h1.drop (Nat.le_of_lt hx)).keep (Keep.of_below hb))
  have HBB := hide (h2.keep (Keep.of_below hb))
  go_enter Try.func10, Try.ntmps10
  go_wp2_with fail
  refine (HIX.out _).mono ?_
  rintro e W1 ⟨rfl, b1⟩
  have HB1 := hide (HB.out.next b1)
  have cc0 := (HX2.out.next b1).cell 0 _ rfl
  have cc1 := (HX2.out.next b1).cell 1 _ rfl
  have HX2 := hide (HX2.out.next b1)
  have HX4 := hide (HX4.out.next b1)
  have HA := hide (HA.out.keep (Keep.of_below b1))
  have HBB := hide (HBB.out.keep (Keep.of_below b1))
  have HSZ := hide (show w0.heap.size + 2 ≤ W1.heap.size from by have := b1.size; have := HM.out; omega)
  clear b1 hb hbz x2 x4 h1 h2
  go_upto_region 5 with fail
  have HCA := hide (show ∀ w gb, Below W1.heap.size W1 w → Box 25 w gb #[.slice (some ⟨bb, oo + x, none⟩) (L1.length - x) (c1 - x)] → Calls Try.prog 29 #[.slice (some ⟨gb, 0, none⟩) 1 1] w (CopyPost (L1.drop x) w) from fun w gb hG hbx => by
    have := copies_any S gb 1 1 [L1.drop x] w rfl (by decide) (fun i L hL => by
      match i with
      | 0 => simp at hL; subst hL; exact ⟨_, _, by rw [List.length_drop]; exact hbx.cell 0 _ rfl, by rw [List.length_drop]; exact HA.out.keep (Keep.of_below hG)⟩
      | i + 1 => simp at hL) (fun L hL l hl => by simp at hL; subst hL; exact hl1 l (List.mem_of_mem_drop hl)) (by simp; omega)
    simpa using this)
  have HCB := hide (show ∀ w gb, Below W1.heap.size W1 w → Box 25 w gb #[.slice A2 L2.length c2] → Calls Try.prog 29 #[.slice (some ⟨gb, 0, none⟩) 1 1] w (CopyPost L2 w) from fun w gb hG hbx => by
    have := copies_any S gb 1 1 [L2] w rfl (by decide) (fun i L hL => by
      match i with
      | 0 => simp at hL; subst hL; exact ⟨_, _, hbx.cell 0 _ rfl, HBB.out.keep (Keep.of_below hG)⟩
      | i + 1 => simp at hL) (fun L hL l hl => by simp at hL; subst hL; exact hl2 l hl) (by simp; omega)
    simpa using this)
  have HPO := hide (show ∀ (w w2 : World) (L M : List (List Bool)) (B : Option Addr) (d : Nat) (vs : List Value) (B' : Option Addr) (d' : Nat) (us : List Value), Below W1.heap.size W1 w → Only (w0.heap.size + 1) w w2 → LRep (FromB W1.heap.size) w L vs → LRow 47 1 w W1.heap.size (.slice B L.length d) L.length vs → LRep (FromB W1.heap.size) w M us → LRow 47 1 w W1.heap.size (.slice B' M.length d') M.length us → WordPost L M w0 (.returned (.agg #[.slice B L.length d, .slice B' M.length d'])) w2 from fun w w2 L M B d vs B' d' us hG ho r1 l1 r2 l2 => by
    have hs := HSZ.out
    have hk : Keep (FromB W1.heap.size) w w2 := Keep.of_only ho (fun h => by have : W1.heap.size ≤ w0.heap.size + 1 := h; omega)
    have hbw := HB1.out.next hG
    refine ⟨B, d, B', d', rfl, ?_, ?_, hbw.trans (ho.below hbw.size (by omega))⟩
    · exact ((r1.keep hk).lsIn (l1.other ho (.inl (by omega))) rfl).sub (fun b _ h => by rcases h with h | h <;> exact Nat.le_trans (by omega) h)
    · exact ((r2.keep hk).lsIn (l2.other ho (.inl (by omega))) rfl).sub (fun b _ h => by rcases h with h | h <;> exact Nat.le_trans (by omega) h))
  have SOF := hide (show ∀ W, Below W1.heap.size W1 W → (W.cell? ⟨w0.heap.size, 0, none⟩ = some (.slice (some ⟨bb, oo, none⟩) L1.length c1) ∧ W.cell? ⟨w0.heap.size, 1, none⟩ = some (.slice A2 L2.length c2)) from fun W h => ⟨(HX2.out.next h).cell 0 _ rfl, (HX2.out.next h).cell 1 _ rfl⟩)
  clear hl1 hl2 cc0 cc1
  refine wp_drawnL (by kernel_rfl) (by kernel_rfl) (by kernel_rfl) (by kernel_rfl) (fun w w' => Below w.heap.size w w') (fun j v w => match j with | 0 => v = .pointer (some ⟨w0.heap.size, 0, none⟩) | 1 => v = .slice (some ⟨bb, oo, none⟩) L1.length c1 | 2 => v = .int .i64 (x : Int) | 3 => v = .slice (some ⟨bb, oo + x, none⟩) (L1.length - x) (c1 - x) | 4 => ∃ gb, v = .slice (some ⟨gb, 0, none⟩) 1 1 ∧ Box 25 w gb #[.slice (some ⟨bb, oo + x, none⟩) (L1.length - x) (c1 - x)] | 5 => ∃ B d, v = .slice B ((L1.drop x)).length d ∧ ∃ vs, LRep (FromB W1.heap.size) w (L1.drop x) vs ∧ LRow 47 1 w W1.heap.size (.slice B ((L1.drop x)).length d) ((L1.drop x)).length vs | 6 => v = .pointer (some ⟨w0.heap.size, 1, none⟩) | 7 => v = .slice A2 L2.length c2 | 8 => ∃ gb, v = .slice (some ⟨gb, 0, none⟩) 1 1 ∧ Box 25 w gb #[.slice A2 L2.length c2] | 9 => ∃ B d, v = .slice B (L2).length d ∧ ∃ vs, LRep (FromB W1.heap.size) w L2 vs ∧ LRow 47 1 w W1.heap.size (.slice B (L2).length d) (L2).length vs | 10 => ∃ B d B7 d7, v = .agg #[.slice B (L1.drop x).length d, .slice B7 L2.length d7] ∧ (∃ vs, LRep (FromB W1.heap.size) w (L1.drop x) vs ∧ LRow 47 1 w W1.heap.size (.slice B ((L1.drop x)).length d) ((L1.drop x)).length vs) ∧ (∃ vs, LRep (FromB W1.heap.size) w L2 vs ∧ LRow 47 1 w W1.heap.size (.slice B7 (L2).length d7) (L2).length vs) | _ => True) (fun _ _ w => Below W1.heap.size W1 w) ?_ (fun _ => bl_drewN W1 1) ?_ ?_
  · intro j v w w' hT h
    match j, h with
    | 0, h => exact h
    | 1, h => exact h
    | 2, h => exact h
    | 3, h => exact h
    | 4, h => exact (by obtain ⟨g, e, h1⟩ := h; exact ⟨g, e, h1.next hT⟩)
    | 5, h => exact (by obtain ⟨B, d, e, vs, h1, h2⟩ := h; exact ⟨B, d, e, vs, h1.keep (Keep.of_below hT), h2.below hT⟩)
    | 6, h => exact h
    | 7, h => exact h
    | 8, h => exact (by obtain ⟨g, e, h1⟩ := h; exact ⟨g, e, h1.next hT⟩)
    | 9, h => exact (by obtain ⟨B, d, e, vs, h1, h2⟩ := h; exact ⟨B, d, e, vs, h1.keep (Keep.of_below hT), h2.below hT⟩)
    | 10, h => exact (by obtain ⟨B, d, B', d', e, ⟨vs, h1, h2⟩, ⟨us, h3, h4⟩⟩ := h; exact ⟨B, d, B', d', e, ⟨vs, h1.keep (Keep.of_below hT), h2.below hT⟩, ⟨us, h3.keep (Keep.of_below hT), h4.below hT⟩⟩)
    | j + 11, h => trivial
  · refine ⟨?_, ?_, ?_, ?_, ?_, ?_, ?_, ?_, ?_, ?_, ?_, trivial⟩
    · intro listed σ w a hin hout hl hla hs hc hp hG hF
      refine Guarded.none rfl ?_
      have e2 : a.tmps.getD 2 undef = .pointer (some ⟨w0.heap.size, 0, none⟩) := hout 2 (outB_spec (by kernel_rfl))
      refine Does.val (.pointer (some ⟨w0.heap.size, 0, none⟩)) (w' := w) ?_ ⟨Below.refl _ _, rfl, hG⟩
      simp only [Array.getD_eq_getD_getElem?] at e2
      go_simp
    · intro listed σ w a hin hout hl hla hs hc hp hG hF
      refine Guarded.none rfl ?_
      have e19 : a.tmps.getD 19 undef = .pointer (some ⟨w0.heap.size, 0, none⟩) := (hin 0 19 rfl (hp ⟨0, .data⟩ (by simp) rfl)).trans (hF 0 (hp ⟨0, .data⟩ (by simp) rfl))
      have CC := SOF.out w hG; obtain ⟨C0, C1⟩ := CC
      refine Does.val (.slice (some ⟨bb, oo, none⟩) L1.length c1) (w' := w) ?_ ⟨Below.refl _ _, rfl, hG⟩
      go_simp
    · intro listed σ w a hin hout hl hla hs hc hp hG hF
      refine Guarded.none rfl ?_
      have e5 : a.tmps.getD 5 undef = .int .i64 (x : Int) := hout 5 (outB_spec (by kernel_rfl))
      refine Does.val (.int .i64 (x : Int)) (w' := w) ?_ ⟨Below.refl _ _, rfl, hG⟩
      simp only [Array.getD_eq_getD_getElem?] at e5
      go_simp
    · intro listed σ w a hin hout hl hla hs hc hp hG hF
      refine Guarded.none rfl ?_
      have e20 : a.tmps.getD 20 undef = .slice (some ⟨bb, oo, none⟩) L1.length c1 := (hin 1 20 rfl (hp ⟨1, .data⟩ (by simp) rfl)).trans (hF 1 (hp ⟨1, .data⟩ (by simp) rfl))
      have e21 : a.tmps.getD 21 undef = .int .i64 (x : Int) := (hin 2 21 rfl (hp ⟨2, .data⟩ (by simp) rfl)).trans (hF 2 (hp ⟨2, .data⟩ (by simp) rfl))
      refine Does.val (.slice (some ⟨bb, oo + x, none⟩) (L1.length - x) (c1 - x)) (w' := w) ?_ ⟨Below.refl _ _, rfl, hG⟩
      simp only [Array.getD_eq_getD_getElem?] at e20 e21
      go_simp
      rw [if_pos (by omega : x ≤ L1.length), if_neg (by omega : ¬ c1 = x)]
    · intro listed σ w a hin hout hl hla hs hc hp hG hF
      refine Guarded.none rfl ?_
      have e22 : a.tmps.getD 22 undef = .slice (some ⟨bb, oo + x, none⟩) (L1.length - x) (c1 - x) := (hin 3 22 rfl (hp ⟨3, .data⟩ (by simp) rfl)).trans (hF 3 (hp ⟨3, .data⟩ (by simp) rfl))
      refine Does.val (.slice (some ⟨w.heap.size, 0, none⟩) 1 1) (w' := w.alloc (.cells #[.slice (some ⟨bb, oo + x, none⟩) (L1.length - x) (c1 - x)] 25)) ?_ ⟨bl_alloc w _, ⟨w.heap.size, rfl, Box.new _ _ _⟩, hG.next (bl_alloc w _)⟩
      simp only [Array.getD_eq_getD_getElem?] at e22
      go_simp
    · intro listed σ w a hin hout hl hla hs hc hp hG hF
      refine Guarded.none rfl ?_
      have e23 := hin 4 23 rfl (hp ⟨4, .data⟩ (by simp) rfl)
      obtain ⟨gb4, ev4, xb4⟩ := hF 4 (hp ⟨4, .data⟩ (by simp) rfl)
      rw [ev4] at e23
      refine Does.call ?_ (HCA.out w gb4 hG xb4) ?_
      · go_simp
      · rintro e w' ⟨B, d, vs, rfl, h1, h2, hb⟩
        exact ⟨_, rfl, hb, ⟨B, d, rfl, vs, h1.sub (fun b _ h => Nat.le_trans hG.size h), h2.rebase hG.size⟩, hG.next hb⟩
    · intro listed σ w a hin hout hl hla hs hc hp hG hF
      refine Guarded.none rfl ?_
      have e2 : a.tmps.getD 2 undef = .pointer (some ⟨w0.heap.size, 0, none⟩) := hout 2 (outB_spec (by kernel_rfl))
      refine Does.val (.pointer (some ⟨w0.heap.size, 1, none⟩)) (w' := w) ?_ ⟨Below.refl _ _, rfl, hG⟩
      simp only [Array.getD_eq_getD_getElem?] at e2
      go_simp
    · intro listed σ w a hin hout hl hla hs hc hp hG hF
      refine Guarded.none rfl ?_
      have e25 : a.tmps.getD 25 undef = .pointer (some ⟨w0.heap.size, 1, none⟩) := (hin 6 25 rfl (hp ⟨6, .data⟩ (by simp) rfl)).trans (hF 6 (hp ⟨6, .data⟩ (by simp) rfl))
      have CC := SOF.out w hG; obtain ⟨C0, C1⟩ := CC
      refine Does.val (.slice A2 L2.length c2) (w' := w) ?_ ⟨Below.refl _ _, rfl, hG⟩
      go_simp
    · intro listed σ w a hin hout hl hla hs hc hp hG hF
      refine Guarded.none rfl ?_
      have e26 : a.tmps.getD 26 undef = .slice A2 L2.length c2 := (hin 7 26 rfl (hp ⟨7, .data⟩ (by simp) rfl)).trans (hF 7 (hp ⟨7, .data⟩ (by simp) rfl))
      refine Does.val (.slice (some ⟨w.heap.size, 0, none⟩) 1 1) (w' := w.alloc (.cells #[.slice A2 L2.length c2] 25)) ?_ ⟨bl_alloc w _, ⟨w.heap.size, rfl, Box.new _ _ _⟩, hG.next (bl_alloc w _)⟩
      simp only [Array.getD_eq_getD_getElem?] at e26
      go_simp
    · intro listed σ w a hin hout hl hla hs hc hp hG hF
      refine Guarded.none rfl ?_
      have e27 := hin 8 27 rfl (hp ⟨8, .data⟩ (by simp) rfl)
      obtain ⟨gb8, ev8, xb8⟩ := hF 8 (hp ⟨8, .data⟩ (by simp) rfl)
      rw [ev8] at e27
      refine Does.call ?_ (HCB.out w gb8 hG xb8) ?_
      · go_simp
      · rintro e w' ⟨B, d, vs, rfl, h1, h2, hb⟩
        exact ⟨_, rfl, hb, ⟨B, d, rfl, vs, h1.sub (fun b _ h => Nat.le_trans hG.size h), h2.rebase hG.size⟩, hG.next hb⟩
    · intro listed σ w a hin hout hl hla hs hc hp hG hF
      refine Guarded.none rfl ?_
      have e24 := hin 5 24 rfl (hp ⟨5, .data⟩ (by simp) rfl)
      obtain ⟨B5, d5, ev5, vs5, hr5, hw5⟩ := hF 5 (hp ⟨5, .data⟩ (by simp) rfl)
      rw [ev5] at e24
      have e28 := hin 9 28 rfl (hp ⟨9, .data⟩ (by simp) rfl)
      obtain ⟨B9, d9, ev9, vs9, hr9, hw9⟩ := hF 9 (hp ⟨9, .data⟩ (by simp) rfl)
      rw [ev9] at e28
      refine Does.val (.agg #[.slice B5 (L1.drop x).length d5, .slice B9 L2.length d9]) (w' := w) ?_ ⟨Below.refl _ _, ⟨B5, d5, B9, d9, rfl, ⟨vs5, hr5, hw5⟩, ⟨vs9, hr9, hw9⟩⟩, hG⟩
      simp only [Array.getD_eq_getD_getElem?] at e24 e28
      go_simp
  · intro o ho
    injection ho with ho; subst ho
    intro listed σ w a hall hin hout hG hF
    refine Guarded.none rfl ?_
    have e4 : a.tmps.getD 4 undef = .pointer (some ⟨w0.heap.size + 1, 0, none⟩) := hout 4 (outL (by kernel_rfl))
    have e29 := hin 10 29 rfl (by decide)
    obtain ⟨B10, d10, B11, d11, ev10, ⟨vs10, hr10, hw10⟩, ⟨vs11, hr11, hw11⟩⟩ := hF 10 (by decide)
    rw [ev10] at e29
    refine Does.store_box (T := 27) (cells := #[.slice B10 (L1.drop x).length d10, .slice B11 L2.length d11]) rfl e4 e29 (HX4.out.next hG) (by kernel_rfl) rfl (by simp [Value.oneCell']) (fun w2 x9 o9 => ?_)
    have HP := hide (HPO.out w w2 (L1.drop x) L2 B10 d10 vs10 B11 d11 vs11 hG o9 hr10 hw10 hr11 hw11)
    have HX9 := hide x9
    rw [show fin _ σ undef _ = (Act.put (Act.put (Act.put (Act.put (Act.put (Act.put (Act.put (Act.put (Act.put (Act.put (Act.put (Act.put _ (some 19) (σ 0)) (some 20) (σ 1)) (some 21) (σ 2)) (some 22) (σ 3)) (some 23) (σ 4)) (some 24) (σ 5)) (some 25) (σ 6)) (some 26) (σ 7)) (some 27) (σ 8)) (some 28) (σ 9)) (some 29) (σ 10)) none undef) from (fin_all hall).trans rfl]
    simp only [Act.put, List.setIfInBounds_toArray, List.set_cons_zero, List.set_cons_succ]
    generalize σ 0 = tt0 at *; generalize σ 1 = tt1 at *; generalize σ 2 = tt2 at *; generalize σ 3 = tt3 at *; generalize σ 4 = tt4 at *; generalize σ 5 = tt5 at *; generalize σ 6 = tt6 at *; generalize σ 7 = tt7 at *; generalize σ 8 = tt8 at *; generalize σ 9 = tt9 at *; generalize σ 10 = tt10 at *
    clear hF hG hall hin hout SOF o9 e4 e29 x9 hw10 hr10 hr11 hw11
    go_wp2_with fail
    refine bodyPost_ret (results_cell_row rfl _ _ _ _ #[.slice B10 (L1.drop x).length d10, .slice B11 L2.length d11] _ _ rfl HX9.out Try.underlying27 rfl (by kernel_rfl)) rfl ?_
    exact HP.out
set_option maxRecDepth 100000 in
set_option maxHeartbeats 16000000 in
theorem wshift_cycle (S : Nat → Prop) (A1 : Option Addr) (c1 : Nat) (A2 : Option Addr) (c2 : Nat) (L1 L2 : List (List Bool)) (n : Int) (w0 : World) (h1 : LsIn S w0 A1 L1.length L1) (h2 : LsIn S w0 A2 L2.length L2) (h0 : 0 < L2.length) (h9 : L1.length + L2.length ≤ 500000) (hl2 : ∀ l ∈ L2, l.length ≤ 1000000)
    (hc2 : L2.length ≤ c2) (hc29 : c2 ≤ 9223372036854775807) (hn9 : n ≤ 9223372036854775807) (y : Nat) (hx : pos L1.length L2.length n.toNat = L1.length + y) :
    Calls Try.prog 10 #[.agg #[.slice A1 L1.length c1, .slice A2 L2.length c2], .int .i64 n] w0 (WordPost [] (L2.drop y ++ L2.take y) w0) := by
  obtain ⟨x2, x4, hb, hbz⟩ := bstart2 27 27 w0 #[.slice A1 L1.length c1, .slice A2 L2.length c2] #[.slice none 0 0, .slice none 0 0]
  have hyl : y < L2.length := by have := pos_lt (b := L1.length) (x := n.toNat) h0; omega
  have HIX := hide (fun W => index_any A1 L1.length c1 A2 L2.length c2 n W h0 (by omega) hn9)
  rw [hx] at HIX
  clear hx
  obtain ⟨bb, oo, rfl⟩ : ∃ bb oo, A2 = some ⟨bb, oo, none⟩ := by
    obtain ⟨b, o, e, -⟩ := h2.2 (by omega)
    exact ⟨b, o, e⟩
  have cc0 := x2.cell 0 _ rfl
  have cc1 := x2.cell 1 _ rfl
  have g0 : ((L2.length : Int) == 0) = false := by rw [beq_eq_false_iff_ne]; omega
  obtain ⟨xx, hxx⟩ : ∃ xx, xx = L1.length + y := ⟨_, rfl⟩
  rw [← hxx] at HIX
  have g1 : ¬ (xx : Int) < (L1.length : Int) := by omega
  have HY := hide (show (xx : Int) - (L1.length : Int) = (y : Int) from by omega)
  have HX2 := hide x2
  have HX4 := hide x4
  have HB := hide hb
  have HM := hide hbz
  have HA := hide ((h2.drop (Nat.le_of_lt hyl)).keep (Keep.of_below hb))
  have HBB := hide ((h2.take (Nat.le_of_lt hyl)).keep (Keep.of_below hb))
  clear hxx
  go_enter Try.func10, Try.ntmps10
  go_wp2_with fail
  refine (HIX.out _).mono ?_
  rintro e W1 ⟨rfl, b1⟩
  have HB1 := hide (HB.out.next b1)
  have cc0 := (HX2.out.next b1).cell 0 _ rfl
  have cc1 := (HX2.out.next b1).cell 1 _ rfl
  have HX2 := hide (HX2.out.next b1)
  have HX4 := hide (HX4.out.next b1)
  have HA := hide (HA.out.keep (Keep.of_below b1))
  have HBB := hide (HBB.out.keep (Keep.of_below b1))
  have HSZ := hide (show w0.heap.size + 2 ≤ W1.heap.size from by have := b1.size; have := HM.out; omega)
  clear b1 hb hbz x2 x4 h1 h2
  have gw : wrap64 ((xx : Int) - (L1.length : Int)) = (y : Int) := by rw [HY.out]; unfold wrap64; omega
  go_upto_region 7 with fail
  rw [gw]
  have HCA := hide (show ∀ w gb, Below W1.heap.size W1 w → Box 25 w gb #[.slice (some ⟨bb, oo + y, none⟩) (L2.length - y) (c2 - y), .slice (some ⟨bb, oo, none⟩) y c2] → Calls Try.prog 29 #[.slice (some ⟨gb, 0, none⟩) 2 2] w (CopyPost (L2.drop y ++ L2.take y) w) from fun w gb hG hbx => by
    have := copies_any S gb 2 2 [L2.drop y, L2.take y] w rfl (by decide) (fun i L hL => by
      match i with
      | 0 => simp at hL; subst hL; exact ⟨_, _, by rw [List.length_drop]; exact hbx.cell 0 _ rfl, by rw [List.length_drop]; exact HA.out.keep (Keep.of_below hG)⟩
      | 1 => simp at hL; subst hL; exact ⟨_, _, by rw [List.length_take, Nat.min_eq_left (Nat.le_of_lt hyl)]; exact hbx.cell 1 _ rfl, by rw [List.length_take, Nat.min_eq_left (Nat.le_of_lt hyl)]; exact HBB.out.keep (Keep.of_below hG)⟩
      | i + 2 => simp at hL) (fun L hL l hl => by
      simp at hL
      rcases hL with rfl | rfl
      · exact hl2 l (List.mem_of_mem_drop hl)
      · exact hl2 l (List.mem_of_mem_take hl)) (by simp; omega)
    simpa using this)
  have HPO := hide (show ∀ (w w2 : World) (M : List (List Bool)) (B' : Option Addr) (d' : Nat) (us : List Value), Below W1.heap.size W1 w → Only (w0.heap.size + 1) w w2 → LRep (FromB W1.heap.size) w M us → LRow 47 1 w W1.heap.size (.slice B' M.length d') M.length us → WordPost [] M w0 (.returned (.agg #[.slice none 0 0, .slice B' M.length d'])) w2 from fun w w2 M B' d' us hG ho r2 l2 => by
    have hs := HSZ.out
    have hk : Keep (FromB W1.heap.size) w w2 := Keep.of_only ho (fun h => by have : W1.heap.size ≤ w0.heap.size + 1 := h; omega)
    have hbw := HB1.out.next hG
    refine ⟨none, 0, B', d', rfl, LsIn.nil _ _ _, ?_, hbw.trans (ho.below hbw.size (by omega))⟩
    exact ((r2.keep hk).lsIn (l2.other ho (.inl (by omega))) rfl).sub (fun b _ h => by rcases h with h | h <;> exact Nat.le_trans (by omega) h))
  have SOF := hide (show ∀ W, Below W1.heap.size W1 W → (W.cell? ⟨w0.heap.size, 0, none⟩ = some (.slice A1 L1.length c1) ∧ W.cell? ⟨w0.heap.size, 1, none⟩ = some (.slice (some ⟨bb, oo, none⟩) L2.length c2)) from fun W h => ⟨(HX2.out.next h).cell 0 _ rfl, (HX2.out.next h).cell 1 _ rfl⟩)
  clear hl2 cc0 cc1
  refine wp_drawnL (by kernel_rfl) (by kernel_rfl) (by kernel_rfl) (by kernel_rfl) (fun w w' => Below w.heap.size w w') (fun j v w => match j with | 0 => v = .pointer (some ⟨w0.heap.size, 1, none⟩) | 1 => v = .slice (some ⟨bb, oo, none⟩) L2.length c2 | 2 => v = .int .i64 (y : Int) | 3 => v = .slice (some ⟨bb, oo + y, none⟩) (L2.length - y) (c2 - y) | 4 => v = .pointer (some ⟨w0.heap.size, 1, none⟩) | 5 => v = .slice (some ⟨bb, oo, none⟩) L2.length c2 | 6 => v = .int .i64 (y : Int) | 7 => v = .slice (some ⟨bb, oo, none⟩) y c2 | 8 => ∃ gb, v = .slice (some ⟨gb, 0, none⟩) 2 2 ∧ Box 25 w gb #[.slice (some ⟨bb, oo + y, none⟩) (L2.length - y) (c2 - y), .slice (some ⟨bb, oo, none⟩) y c2] | 9 => ∃ B d, v = .slice B ((L2.drop y ++ L2.take y)).length d ∧ ∃ vs, LRep (FromB W1.heap.size) w (L2.drop y ++ L2.take y) vs ∧ LRow 47 1 w W1.heap.size (.slice B ((L2.drop y ++ L2.take y)).length d) ((L2.drop y ++ L2.take y)).length vs | 10 => ∃ B d, v = .agg #[.slice none 0 0, .slice B (L2.drop y ++ L2.take y).length d] ∧ (∃ vs, LRep (FromB W1.heap.size) w (L2.drop y ++ L2.take y) vs ∧ LRow 47 1 w W1.heap.size (.slice B ((L2.drop y ++ L2.take y)).length d) ((L2.drop y ++ L2.take y)).length vs) | _ => True) (fun _ _ w => Below W1.heap.size W1 w) ?_ (fun _ => bl_drewN W1 1) ?_ ?_
  · intro j v w w' hT h
    match j, h with
    | 0, h => exact h
    | 1, h => exact h
    | 2, h => exact h
    | 3, h => exact h
    | 4, h => exact h
    | 5, h => exact h
    | 6, h => exact h
    | 7, h => exact h
    | 8, h => exact (by obtain ⟨g, e, h1⟩ := h; exact ⟨g, e, h1.next hT⟩)
    | 9, h => exact (by obtain ⟨B, d, e, vs, h1, h2⟩ := h; exact ⟨B, d, e, vs, h1.keep (Keep.of_below hT), h2.below hT⟩)
    | 10, h => exact (by obtain ⟨B, d, e, ⟨vs, h1, h2⟩⟩ := h; exact ⟨B, d, e, ⟨vs, h1.keep (Keep.of_below hT), h2.below hT⟩⟩)
    | j + 11, h => trivial
  · refine ⟨?_, ?_, ?_, ?_, ?_, ?_, ?_, ?_, ?_, ?_, ?_, trivial⟩
    · intro listed σ w a hin hout hl hla hs hc hp hG hF
      refine Guarded.none rfl ?_
      have e2 : a.tmps.getD 2 undef = .pointer (some ⟨w0.heap.size, 0, none⟩) := hout 2 (outB_spec (by kernel_rfl))
      refine Does.val (.pointer (some ⟨w0.heap.size, 1, none⟩)) (w' := w) ?_ ⟨Below.refl _ _, rfl, hG⟩
      simp only [Array.getD_eq_getD_getElem?] at e2
      go_simp
    · intro listed σ w a hin hout hl hla hs hc hp hG hF
      refine Guarded.none rfl ?_
      have e35 : a.tmps.getD 35 undef = .pointer (some ⟨w0.heap.size, 1, none⟩) := (hin 0 35 rfl (hp ⟨0, .data⟩ (by simp) rfl)).trans (hF 0 (hp ⟨0, .data⟩ (by simp) rfl))
      have CC := SOF.out w hG; obtain ⟨C0, C1⟩ := CC
      refine Does.val (.slice (some ⟨bb, oo, none⟩) L2.length c2) (w' := w) ?_ ⟨Below.refl _ _, rfl, hG⟩
      go_simp
    · intro listed σ w a hin hout hl hla hs hc hp hG hF
      refine Guarded.none rfl ?_
      have e5 : a.tmps.getD 5 undef = .int .i64 (y : Int) := hout 5 (outB_spec (by kernel_rfl))
      refine Does.val (.int .i64 (y : Int)) (w' := w) ?_ ⟨Below.refl _ _, rfl, hG⟩
      simp only [Array.getD_eq_getD_getElem?] at e5
      go_simp
    · intro listed σ w a hin hout hl hla hs hc hp hG hF
      refine Guarded.none rfl ?_
      have e36 : a.tmps.getD 36 undef = .slice (some ⟨bb, oo, none⟩) L2.length c2 := (hin 1 36 rfl (hp ⟨1, .data⟩ (by simp) rfl)).trans (hF 1 (hp ⟨1, .data⟩ (by simp) rfl))
      have e37 : a.tmps.getD 37 undef = .int .i64 (y : Int) := (hin 2 37 rfl (hp ⟨2, .data⟩ (by simp) rfl)).trans (hF 2 (hp ⟨2, .data⟩ (by simp) rfl))
      refine Does.val (.slice (some ⟨bb, oo + y, none⟩) (L2.length - y) (c2 - y)) (w' := w) ?_ ⟨Below.refl _ _, rfl, hG⟩
      simp only [Array.getD_eq_getD_getElem?] at e36 e37
      go_simp
      rw [if_pos (by omega : y ≤ L2.length), if_neg (by omega : ¬ c2 = y)]
    · intro listed σ w a hin hout hl hla hs hc hp hG hF
      refine Guarded.none rfl ?_
      have e2 : a.tmps.getD 2 undef = .pointer (some ⟨w0.heap.size, 0, none⟩) := hout 2 (outB_spec (by kernel_rfl))
      refine Does.val (.pointer (some ⟨w0.heap.size, 1, none⟩)) (w' := w) ?_ ⟨Below.refl _ _, rfl, hG⟩
      simp only [Array.getD_eq_getD_getElem?] at e2
      go_simp
    · intro listed σ w a hin hout hl hla hs hc hp hG hF
      refine Guarded.none rfl ?_
      have e39 : a.tmps.getD 39 undef = .pointer (some ⟨w0.heap.size, 1, none⟩) := (hin 4 39 rfl (hp ⟨4, .data⟩ (by simp) rfl)).trans (hF 4 (hp ⟨4, .data⟩ (by simp) rfl))
      have CC := SOF.out w hG; obtain ⟨C0, C1⟩ := CC
      refine Does.val (.slice (some ⟨bb, oo, none⟩) L2.length c2) (w' := w) ?_ ⟨Below.refl _ _, rfl, hG⟩
      go_simp
    · intro listed σ w a hin hout hl hla hs hc hp hG hF
      refine Guarded.none rfl ?_
      have e5 : a.tmps.getD 5 undef = .int .i64 (y : Int) := hout 5 (outB_spec (by kernel_rfl))
      refine Does.val (.int .i64 (y : Int)) (w' := w) ?_ ⟨Below.refl _ _, rfl, hG⟩
      simp only [Array.getD_eq_getD_getElem?] at e5
      go_simp
    · intro listed σ w a hin hout hl hla hs hc hp hG hF
      refine Guarded.none rfl ?_
      have e40 : a.tmps.getD 40 undef = .slice (some ⟨bb, oo, none⟩) L2.length c2 := (hin 5 40 rfl (hp ⟨5, .data⟩ (by simp) rfl)).trans (hF 5 (hp ⟨5, .data⟩ (by simp) rfl))
      have e41 : a.tmps.getD 41 undef = .int .i64 (y : Int) := (hin 6 41 rfl (hp ⟨6, .data⟩ (by simp) rfl)).trans (hF 6 (hp ⟨6, .data⟩ (by simp) rfl))
      refine Does.val (.slice (some ⟨bb, oo, none⟩) y c2) (w' := w) ?_ ⟨Below.refl _ _, rfl, hG⟩
      simp only [Array.getD_eq_getD_getElem?] at e40 e41
      go_simp
      (try (intro hh; exfalso; omega))
    · intro listed σ w a hin hout hl hla hs hc hp hG hF
      refine Guarded.none rfl ?_
      have e38 : a.tmps.getD 38 undef = .slice (some ⟨bb, oo + y, none⟩) (L2.length - y) (c2 - y) := (hin 3 38 rfl (hp ⟨3, .data⟩ (by simp) rfl)).trans (hF 3 (hp ⟨3, .data⟩ (by simp) rfl))
      have e42 : a.tmps.getD 42 undef = .slice (some ⟨bb, oo, none⟩) y c2 := (hin 7 42 rfl (hp ⟨7, .data⟩ (by simp) rfl)).trans (hF 7 (hp ⟨7, .data⟩ (by simp) rfl))
      refine Does.val (.slice (some ⟨w.heap.size, 0, none⟩) 2 2) (w' := w.alloc (.cells #[.slice (some ⟨bb, oo + y, none⟩) (L2.length - y) (c2 - y), .slice (some ⟨bb, oo, none⟩) y c2] 25)) ?_ ⟨bl_alloc w _, ⟨w.heap.size, rfl, Box.new _ _ _⟩, hG.next (bl_alloc w _)⟩
      simp only [Array.getD_eq_getD_getElem?] at e38 e42
      go_simp
    · intro listed σ w a hin hout hl hla hs hc hp hG hF
      refine Guarded.none rfl ?_
      have e43 := hin 8 43 rfl (hp ⟨8, .data⟩ (by simp) rfl)
      obtain ⟨gb8, ev8, xb8⟩ := hF 8 (hp ⟨8, .data⟩ (by simp) rfl)
      rw [ev8] at e43
      refine Does.call ?_ (HCA.out w gb8 hG xb8) ?_
      · go_simp
      · rintro e w' ⟨B, d, vs, rfl, h1, h2, hb⟩
        exact ⟨_, rfl, hb, ⟨B, d, rfl, vs, h1.sub (fun b _ h => Nat.le_trans hG.size h), h2.rebase hG.size⟩, hG.next hb⟩
    · intro listed σ w a hin hout hl hla hs hc hp hG hF
      refine Guarded.none rfl ?_
      have e44 := hin 9 44 rfl (hp ⟨9, .data⟩ (by simp) rfl)
      obtain ⟨B9, d9, ev9, vs9, hr9, hw9⟩ := hF 9 (hp ⟨9, .data⟩ (by simp) rfl)
      rw [ev9] at e44
      refine Does.val (.agg #[.slice none 0 0, .slice B9 (L2.drop y ++ L2.take y).length d9]) (w' := w) ?_ ⟨Below.refl _ _, ⟨B9, d9, rfl, ⟨vs9, hr9, hw9⟩⟩, hG⟩
      simp only [Array.getD_eq_getD_getElem?] at e44
      go_simp
  · intro o ho
    injection ho with ho; subst ho
    intro listed σ w a hall hin hout hG hF
    refine Guarded.none rfl ?_
    have e4 : a.tmps.getD 4 undef = .pointer (some ⟨w0.heap.size + 1, 0, none⟩) := hout 4 (outL (by kernel_rfl))
    have e45 := hin 10 45 rfl (by decide)
    obtain ⟨B10, d10, ev10, ⟨vs10, hr10, hw10⟩⟩ := hF 10 (by decide)
    rw [ev10] at e45
    refine Does.store_box (T := 27) (cells := #[.slice none 0 0, .slice B10 (L2.drop y ++ L2.take y).length d10]) rfl e4 e45 (HX4.out.next hG) (by kernel_rfl) rfl (by simp [Value.oneCell']) (fun w2 x9 o9 => ?_)
    have HP := hide (HPO.out w w2 (L2.drop y ++ L2.take y) B10 d10 vs10 hG o9 hr10 hw10)
    have HX9 := hide x9
    rw [show fin _ σ undef _ = (Act.put (Act.put (Act.put (Act.put (Act.put (Act.put (Act.put (Act.put (Act.put (Act.put (Act.put (Act.put _ (some 35) (σ 0)) (some 36) (σ 1)) (some 37) (σ 2)) (some 38) (σ 3)) (some 39) (σ 4)) (some 40) (σ 5)) (some 41) (σ 6)) (some 42) (σ 7)) (some 43) (σ 8)) (some 44) (σ 9)) (some 45) (σ 10)) none undef) from (fin_all hall).trans rfl]
    simp only [Act.put, List.setIfInBounds_toArray, List.set_cons_zero, List.set_cons_succ]
    generalize σ 0 = tt0 at *; generalize σ 1 = tt1 at *; generalize σ 2 = tt2 at *; generalize σ 3 = tt3 at *; generalize σ 4 = tt4 at *; generalize σ 5 = tt5 at *; generalize σ 6 = tt6 at *; generalize σ 7 = tt7 at *; generalize σ 8 = tt8 at *; generalize σ 9 = tt9 at *; generalize σ 10 = tt10 at *
    clear hF hG hall hin hout SOF o9 e4 e45 x9 hw10 hr10
    go_wp2_with fail
    refine bodyPost_ret (results_cell_row rfl _ _ _ _ #[.slice none 0 0, .slice B10 (L2.drop y ++ L2.take y).length d10] _ _ rfl HX9.out Try.underlying27 rfl (by kernel_rfl)) rfl ?_
    exact HP.out
end Go.Proofs.Ytljocjjdfgpbaaa
/- The letters of a shifted and of an unrolled word. -/
namespace Go.Proofs.Ytljocjjdfgpbaaa
namespace Wo

/-- A word's letters. -/
def WL (L1 L2 : List (List Bool)) (x : Nat) : List Bool := ltrOf (L1 ++ L2) L1.length x
theorem WL_stem {L1 L2 : List (List Bool)} {x : Nat} (h : x < L1.length) : WL L1 L2 x = L1.getD x [] := by
  unfold WL ltrOf pos
  rw [if_pos h, List.getD_eq_getElem?_getD, List.getD_eq_getElem?_getD, List.getElem?_append_left h]
theorem WL_cycle {L1 L2 : List (List Bool)} {x : Nat} (h : L1.length ≤ x) : WL L1 L2 x = L2.getD ((x - L1.length) % L2.length) [] := by
  unfold WL ltrOf pos
  rw [if_neg (by omega), List.length_append, Nat.add_sub_cancel_left, List.getD_eq_getElem?_getD, List.getD_eq_getElem?_getD, List.getElem?_append_right (by omega), Nat.add_sub_cancel_left]
theorem WL_per (L1 L2 : List (List Bool)) : PerL L1.length L2.length (WL L1 L2) := by
  have := ltrOf_per (L1 ++ L2) L1.length
  rw [List.length_append, Nat.add_sub_cancel_left] at this
  exact this
theorem WL_shift_stem {L1 L2 : List (List Bool)} {n : Nat} (h2 : 0 < L2.length) (h : pos L1.length L2.length n < L1.length) (x : Nat) : WL (L1.drop (pos L1.length L2.length n)) L2 x = WL L1 L2 (n + x) := by
  have hn : n < L1.length := by
    rcases Nat.lt_or_ge n L1.length with q | q
    · exact q
    · unfold pos at h; rw [if_neg (by omega)] at h; omega
  have hp : pos L1.length L2.length n = n := by unfold pos; rw [if_pos hn]
  rw [hp]
  rcases Nat.lt_or_ge (n + x) L1.length with q | q
  · rw [WL_stem q, WL_stem (by rw [List.length_drop]; omega), List.getD_eq_getElem?_getD, List.getD_eq_getElem?_getD, List.getElem?_drop]
  · rw [WL_cycle q, WL_cycle (by rw [List.length_drop]; omega), List.length_drop, show x - (L1.length - n) = n + x - L1.length by omega]
theorem rot_getD {L : List (List Bool)} {y j : Nat} (hy : y < L.length) (hj : j < L.length) : (L.drop y ++ L.take y).getD j [] = L.getD ((y + j) % L.length) [] := by
  rw [List.getD_eq_getElem?_getD, List.getD_eq_getElem?_getD]
  rcases Nat.lt_or_ge (y + j) L.length with q | q
  · rw [List.getElem?_append_left (by rw [List.length_drop]; omega), List.getElem?_drop, Nat.mod_eq_of_lt q]
  · rw [List.getElem?_append_right (by rw [List.length_drop]; omega), List.length_drop, List.getElem?_take_of_lt (by omega), Nat.mod_eq_sub_mod q, Nat.mod_eq_of_lt (by omega)]
    congr 2
    omega
theorem WL_shift_cycle {L1 L2 : List (List Bool)} {n y : Nat} (h2 : 0 < L2.length) (h : pos L1.length L2.length n = L1.length + y) (x : Nat) : WL [] (L2.drop y ++ L2.take y) x = WL L1 L2 (n + x) := by
  have hn : L1.length ≤ n := by
    rcases Nat.lt_or_ge n L1.length with q | q
    · unfold pos at h; rw [if_pos q] at h; omega
    · exact q
  have hy : y = (n - L1.length) % L2.length := by unfold pos at h; rw [if_neg (by omega)] at h; omega
  have hyl : y < L2.length := by rw [hy]; exact Nat.mod_lt _ h2
  have hl : (L2.drop y ++ L2.take y).length = L2.length := by rw [List.length_append, List.length_drop, List.length_take]; omega
  rw [WL_cycle (L1 := []) (Nat.zero_le _), WL_cycle (by omega), hl, rot_getD hyl (by show (x - 0) % L2.length < _; exact Nat.mod_lt _ h2)]
  congr 1
  show (y + (x - 0) % L2.length) % L2.length = _
  rw [hy, Nat.sub_zero, ← Nat.add_mod, show n + x - L1.length = n - L1.length + x by omega]
theorem rep_len (L : List (List Bool)) (m : Nat) : (List.replicate m L).flatten.length = m * L.length := by simp
theorem rep_getD {L : List (List Bool)} (hL : 0 < L.length) : ∀ {m j : Nat}, j < m * L.length → (List.replicate m L).flatten.getD j [] = L.getD (j % L.length) []
  | 0, j, h => by simp at h
  | m + 1, j, h => by
    rw [List.replicate_succ, List.flatten_cons, List.getD_eq_getElem?_getD]
    rcases Nat.lt_or_ge j L.length with q | q
    · rw [List.getElem?_append_left q, Nat.mod_eq_of_lt q, List.getD_eq_getElem?_getD]
    · rw [List.getElem?_append_right q, ← List.getD_eq_getElem?_getD, rep_getD hL (m := m) (by rw [Nat.succ_mul] at h; omega), Nat.mod_eq_sub_mod q]
theorem WL_unroll {L1 L2 : List (List Bool)} (h2 : 0 < L2.length) (m x : Nat) : WL (L1 ++ (List.replicate m L2).flatten) L2 x = WL L1 L2 x := by
  have hl := rep_len L2 m
  rcases Nat.lt_or_ge x L1.length with q | q
  · rw [WL_stem q, WL_stem (by rw [List.length_append]; omega), List.getD_eq_getElem?_getD, List.getElem?_append_left q, ← List.getD_eq_getElem?_getD]
  · rw [WL_cycle q]
    rcases Nat.lt_or_ge x (L1 ++ (List.replicate m L2).flatten).length with r | r
    · rw [WL_stem r, List.getD_eq_getElem?_getD, List.getElem?_append_right q, ← List.getD_eq_getElem?_getD]
      rw [List.length_append, hl] at r
      exact rep_getD h2 (by omega)
    · rw [WL_cycle r]
      rw [List.length_append, hl] at r ⊢
      congr 1
      obtain ⟨d, hd⟩ : ∃ d, x - L1.length = m * L2.length + d := ⟨x - L1.length - m * L2.length, by omega⟩
      rw [hd, show x - (L1.length + m * L2.length) = d by omega, Nat.mul_add_mod_self_right]
end Wo
end Go.Proofs.Ytljocjjdfgpbaaa
