/- Texts of one seat, put together: WordI. -/
import Derived.Test.YtljocjjdfgpbaaaB08
import Derived.Test.YtljocjjdfgpbaaaB12
set_option linter.unusedVariables false
/- word.counted. -/
namespace Go.Proofs.Ytljocjjdfgpbaaa
open Go.RowKit
open Wo

/-- A property as far as it counts, as a tree. -/
def cnt (t : LT) : LT := if t.k = 0 then .mk 0 0 [] else if t.k = 1 then .mk 1 0 [] else if t.k = 2 then .mk 2 t.p [] else if 0 < arity t.k then .mk t.k 0 (pad t.kids (arity t.k)) else lff
theorem cnt_other {t : LT} {k : Int} (hk : k = t.k) (h0 : ¬ k = 0) (h1 : ¬ k = 1) (h2 : ¬ k = 2) (ha : arity k = 0) : cnt t = lff := by
  subst hk
  unfold cnt; rw [if_neg h0, if_neg h1, if_neg h2, if_neg (by omega)]
theorem cnt_one {t : LT} {k : Int} {m : Nat} (hk : k = t.k) (ha : arity k = m) (hm : 0 < m) : cnt t = .mk k 0 (pad t.kids m) := by
  subst hk ha
  have h0 : t.k ≠ 0 := fun e => by rw [e] at hm; exact absurd hm (by decide)
  have h1 : t.k ≠ 1 := fun e => by rw [e] at hm; exact absurd hm (by decide)
  have h2 : t.k ≠ 2 := fun e => by rw [e] at hm; exact absurd hm (by decide)
  unfold cnt; rw [if_neg h0, if_neg h1, if_neg h2, if_pos hm]
theorem cnt_kid {t : LT} {i : Nat} (hi : i < arity t.k) : (cnt t).kids[i]? = some (t.kid i) := by
  rw [cnt_one rfl rfl (by omega)]
  exact pad_get hi (by have := arity_le t.k; omega)
theorem norm_cnt (t : LT) : norm (cnt t) = norm t := by
  by_cases h0 : t.k = 0
  · unfold cnt; rw [if_pos h0, norm_k0 t h0, norm_eq]; rfl
  by_cases h2 : t.k = 2
  · unfold cnt; rw [if_neg h0, if_neg (by omega), if_pos h2, norm_k2 t h2, norm_eq]; rfl
  by_cases ha : arity t.k = 0
  · rw [norm_other t h0 h2 ha]
    by_cases h1 : t.k = 1
    · unfold cnt; rw [if_neg h0, if_pos h1]; exact norm_lff
    · rw [cnt_other rfl h0 h1 h2 ha]; exact norm_lff
  · have hc := cnt_one (t := t) rfl rfl (by omega : 0 < arity t.k)
    have h9 := arity_le t.k
    have hkid : ∀ i, i < arity t.k → (cnt t).kid i = t.kid i := fun i hi => by
      unfold LT.kid; rw [List.getD_eq_getElem?_getD, cnt_kid hi]; rfl
    have hk : (cnt t).k = t.k := by rw [hc]; rfl
    rw [norm_eq (cnt t), norm_eq t, hk, if_neg h0, if_neg h0, if_neg h2, if_neg h2]
    by_cases h1 : arity t.k = 1
    · rw [if_pos h1, if_pos h1, hkid 0 (by omega)]
    · rw [if_neg h1, if_neg h1, if_pos (by omega), if_pos (by omega), hkid 0 (by omega), hkid 1 (by omega)]
/-- Old blocks below N of S. -/
def UpN (S : Nat → Prop) (N b : Nat) : Prop := S b ∧ b < N
def CntPost (S : Nat → Prop) (t : LT) (w : World) (e : Ending) (w' : World) : Prop :=
  ∃ k p A n c, e = .returned (.agg #[.int .i64 k, .int .i64 p, .slice A n c]) ∧ DIn (Up S w.heap.size) w' (cnt t) (c3 k p A n c) ∧ Below w.heap.size w w'
set_option maxRecDepth 100000 in
set_option maxHeartbeats 16000000 in
theorem counted_any (S : Nat → Prop) (t : LT) (k p : Int) (A : Option Addr) (n c : Nat) (w0 : World) (hd : DIn S w0 t (c3 k p A n c)) :
    Calls Try.prog 34 #[.agg #[.int .i64 k, .int .i64 p, .slice A n c]] w0 (CntPost S t w0) := by
  obtain ⟨hk0, hp0, hkk, hc1, hc2, hA⟩ := hd.parts
  obtain ⟨x0, x1, hb, hbz⟩ := bstart2 24 24 w0 #[.int .i64 k, .int .i64 p, .slice A n c] #[.int .i64 0, .int .i64 0, .slice none 0 0]
  have cc0 := x0.cell 0 _ rfl
  have cc1 := x0.cell 1 _ rfl
  have HK0 := hide hk0
  have HX0 := hide x0
  have HX1 := hide x1
  have HB := hide hb
  have HK := hide ((hkk.sub (fun b hlt hs => (⟨hs, hlt⟩ : UpN S w0.heap.size b))).keep (Keep.of_below hb))
  have HL := hide (show ∀ w' (k9 p9 : Int), cnt t = .mk k9 p9 [] → Below w0.heap.size w0 w' → CntPost S t w0 (.returned (.agg #[.int .i64 k9, .int .i64 p9, .slice none 0 0])) w' from fun w' k9 p9 he hw => ⟨k9, p9, none, 0, 0, rfl, by rw [he]; exact DIn.leaf _ _ _ _, hw⟩)
  have HL0 := hide (show k = 0 → cnt t = .mk 0 0 [] from fun e => by unfold cnt; rw [if_pos (by omega)])
  have HL1 := hide (show k = 1 → cnt t = .mk 1 0 [] from fun e => by unfold cnt; rw [if_neg (by omega), if_pos (by omega)])
  have HL2 := hide (show k = 2 → cnt t = .mk 2 p [] from fun e => by unfold cnt; rw [if_neg (by omega), if_neg (by omega), if_pos (by omega), ← hp0])
  have HM := hide hbz
  clear hk0 hp0 hkk hd hb hbz
  by_cases h0 : k = 0
  · subst h0
    go_enter Try.func34, Try.ntmps34
    go_wp2_with (with_reducible refine wpList_store_box rfl 24 _ _ rfl (w0.heap.size + 1) #[.int .i64 0, .int .i64 0, .slice none 0 0] rfl rfl _ x1 (by kernel_rfl) rfl (by simp [Value.oneCell']) ?_; intro w3 k3 ho3)
    refine bodyPost_lt rfl rfl k3 rfl ?_
    exact HL.out _ 0 0 (HL0.out (by trivial)) (HB.out.trans (ho3.below HB.out.size (by omega)))
  · have g0 : (k == 0) = false := by simp; omega
    by_cases h1 : k = 1
    · subst h1
      go_enter Try.func34, Try.ntmps34
      go_wp2_with (with_reducible refine wpList_store_box rfl 24 _ _ rfl (w0.heap.size + 1) #[.int .i64 1, .int .i64 0, .slice none 0 0] rfl rfl _ x1 (by kernel_rfl) rfl (by simp [Value.oneCell']) ?_; intro w3 k3 ho3)
      refine bodyPost_lt rfl rfl k3 rfl ?_
      exact HL.out _ 1 0 (HL1.out (by trivial)) (HB.out.trans (ho3.below HB.out.size (by omega)))
    · have g1 : (k == 1) = false := by simp; omega
      by_cases h2 : k = 2
      · subst h2
        go_enter Try.func34, Try.ntmps34
        go_wp2_with (with_reducible refine wpList_store_box rfl 24 _ _ rfl (w0.heap.size + 1) #[.int .i64 2, .int .i64 p, .slice none 0 0] rfl rfl _ x1 (by kernel_rfl) rfl (by simp [Value.oneCell']) ?_; intro w3 k3 ho3)
        refine bodyPost_lt rfl rfl k3 rfl ?_
        exact HL.out _ 2 p (HL2.out (by trivial)) (HB.out.trans (ho3.below HB.out.size (by omega)))
      · have g2 : (k == 2) = false := by simp; omega
        by_cases h3 : k = 3
        · subst h3
          have HP := hide (show ∀ w' B d, KsIn (Up (UpN S w0.heap.size) (w0.heap.size + 2)) w' B 1 (pad t.kids 1) → 1 ≤ d → d ≤ 9223372036854775807 → (B = none → 1 = 0 ∧ d = 0) → Below w0.heap.size w0 w' → CntPost S t w0 (.returned (.agg #[.int .i64 3, .int .i64 0, .slice B 1 d])) w' from fun w' B d hk h1 h2 h3 hw => ⟨3, 0, B, 1, d, rfl, by rw [cnt_one (m := 1) HK0.out (by decide) (by decide)]; exact DIn.close 3 0 (hk.sub (fun b _ hb9 => hb9.imp (fun q => q.1) (fun q => by omega))) h1 h2 h3, hw⟩)
          go_enter Try.func34, Try.ntmps34
          go_upto_region 11 with fail
          generalize hW : ((w0.alloc (.cells #[.int .i64 3, .int .i64 p, .slice A n c] 24)).alloc (.cells #[.int .i64 0, .int .i64 0, .slice none 0 0] 24)) = W1 at *
          clear hW cc0 cc1 x0 x1
          have HFI := hide (fun W (h : Below W1.heap.size W1 W) => first_any (UpN S w0.heap.size) A n c t.kids 1 W (HK.out.keep (Keep.of_below h)) hA hc1 hc2 (by decide) (fun b hb => Nat.lt_of_lt_of_le hb.2 (Nat.le_trans HB.out.size h.size)))
          unfold FirstPost at HFI
          have SOF := hide (show ∀ W, Below W1.heap.size W1 W → (W.cell? ⟨w0.heap.size, 0, none⟩ = some (.int .i64 3) ∧ W.cell? ⟨w0.heap.size, 2, none⟩ = some (.slice A n c)) from fun W h => ⟨(HX0.out.next h).cell 0 _ rfl, (HX0.out.next h).cell 2 _ rfl⟩)
          refine wp_drawnL (by kernel_rfl) (by kernel_rfl) (by kernel_rfl) (by kernel_rfl) (fun w w' => Below w.heap.size w w') (fun j v w => match j with | 0 => v = .pointer (some ⟨w0.heap.size, 0, none⟩) | 1 => v = .int .i64 3 | 2 => v = .pointer (some ⟨w0.heap.size, 2, none⟩) | 3 => v = .slice A n c | 4 => ∃ B d, v = .slice B 1 d ∧ KsIn (Up (UpN S w0.heap.size) (w0.heap.size + 2)) w B 1 (pad t.kids 1) ∧ 1 ≤ d ∧ d ≤ 9223372036854775807 ∧ (B = none → 1 = 0 ∧ d = 0) | 5 => ∃ B d, v = .agg #[.int .i64 3, .int .i64 0, .slice B 1 d] ∧ KsIn (Up (UpN S w0.heap.size) (w0.heap.size + 2)) w B 1 (pad t.kids 1) ∧ 1 ≤ d ∧ d ≤ 9223372036854775807 ∧ (B = none → 1 = 0 ∧ d = 0) | _ => True) (fun _ _ w => Below W1.heap.size W1 w) ?_ (fun _ => bl_drewN W1 1) ?_ ?_
          · intro j v w w' hT h
            match j, h with
            | 0, h => exact h
            | 1, h => exact h
            | 2, h => exact h
            | 3, h => exact h
            | 4, h => exact (by obtain ⟨B, d, e, hk, h1, h2, h3⟩ := h; exact ⟨B, d, e, hk.keep (Keep.of_below hT), h1, h2, h3⟩)
            | 5, h => exact (by obtain ⟨B, d, e, hk, h1, h2, h3⟩ := h; exact ⟨B, d, e, hk.keep (Keep.of_below hT), h1, h2, h3⟩)
            | j + 6, h => trivial
          · refine ⟨?_, ?_, ?_, ?_, ?_, ?_, trivial⟩
            · intro listed σ w a hin hout hl hla hs hc hp hG hF
              refine Guarded.none rfl ?_
              have e1 : a.tmps.getD 1 undef = .pointer (some ⟨w0.heap.size, 0, none⟩) := hout 1 (outB_spec (by kernel_rfl))
              refine Does.val (.pointer (some ⟨w0.heap.size, 0, none⟩)) (w' := w) ?_ ⟨Below.refl _ _, rfl, hG⟩
              simp only [Array.getD_eq_getD_getElem?] at e1
              go_simp
            · intro listed σ w a hin hout hl hla hs hc hp hG hF
              refine Guarded.none rfl ?_
              have e21 : a.tmps.getD 21 undef = .pointer (some ⟨w0.heap.size, 0, none⟩) := (hin 0 21 rfl (hp ⟨0, .data⟩ (by simp) rfl)).trans (hF 0 (hp ⟨0, .data⟩ (by simp) rfl))
              have CC := SOF.out w hG; obtain ⟨C0, C2⟩ := CC
              refine Does.val (.int .i64 3) (w' := w) ?_ ⟨Below.refl _ _, rfl, hG⟩
              go_simp
            · intro listed σ w a hin hout hl hla hs hc hp hG hF
              refine Guarded.none rfl ?_
              have e1 : a.tmps.getD 1 undef = .pointer (some ⟨w0.heap.size, 0, none⟩) := hout 1 (outB_spec (by kernel_rfl))
              refine Does.val (.pointer (some ⟨w0.heap.size, 2, none⟩)) (w' := w) ?_ ⟨Below.refl _ _, rfl, hG⟩
              simp only [Array.getD_eq_getD_getElem?] at e1
              go_simp
            · intro listed σ w a hin hout hl hla hs hc hp hG hF
              refine Guarded.none rfl ?_
              have e23 : a.tmps.getD 23 undef = .pointer (some ⟨w0.heap.size, 2, none⟩) := (hin 2 23 rfl (hp ⟨2, .data⟩ (by simp) rfl)).trans (hF 2 (hp ⟨2, .data⟩ (by simp) rfl))
              have CC := SOF.out w hG; obtain ⟨C0, C2⟩ := CC
              refine Does.val (.slice A n c) (w' := w) ?_ ⟨Below.refl _ _, rfl, hG⟩
              go_simp
            · intro listed σ w a hin hout hl hla hs hc hp hG hF
              refine Guarded.none rfl ?_
              have e24 : a.tmps.getD 24 undef = .slice A n c := (hin 3 24 rfl (hp ⟨3, .data⟩ (by simp) rfl)).trans (hF 3 (hp ⟨3, .data⟩ (by simp) rfl))
              refine Does.call ?_ (HFI.out w hG) ?_
              · go_simp
              · rintro e w' ⟨B, d, rfl, hk, h1, h2, h3, hb⟩
                exact ⟨_, rfl, hb, ⟨B, d, rfl, hk.sub (fun b _ hb9 => hb9.imp id (fun q => Nat.le_trans (HM.out ▸ hG.size) q)), h1, h2, h3⟩, hG.next hb⟩
            · intro listed σ w a hin hout hl hla hs hc hp hG hF
              refine Guarded.none rfl ?_
              have e22 : a.tmps.getD 22 undef = .int .i64 3 := (hin 1 22 rfl (hp ⟨1, .data⟩ (by simp) rfl)).trans (hF 1 (hp ⟨1, .data⟩ (by simp) rfl))
              have e25 := hin 4 25 rfl (hp ⟨4, .data⟩ (by simp) rfl)
              obtain ⟨B4, d4, ev4, z4, h41, h42, h43⟩ := hF 4 (hp ⟨4, .data⟩ (by simp) rfl)
              rw [ev4] at e25
              refine Does.val (.agg #[.int .i64 3, .int .i64 0, .slice B4 1 d4]) (w' := w) ?_ ⟨Below.refl _ _, ⟨B4, d4, rfl, z4, h41, h42, h43⟩, hG⟩
              simp only [Array.getD_eq_getD_getElem?] at e22 e25
              go_simp
          · intro o ho
            injection ho with ho; subst ho
            intro listed σ w a hall hin hout hG hF
            refine Guarded.none rfl ?_
            have e2 : a.tmps.getD 2 undef = .pointer (some ⟨w0.heap.size + 1, 0, none⟩) := hout 2 (outL (by kernel_rfl))
            have e26 := hin 5 26 rfl (by decide)
            obtain ⟨B5, d5, ev5, z5, h51, h52, h53⟩ := hF 5 (by decide)
            rw [ev5] at e26
            have HBX := hide (HX1.out.next hG)
            have HBB := hide (HB.out.next hG)
            refine Does.store_box (T := 24) (cells := #[.int .i64 3, .int .i64 0, .slice B5 1 d5]) rfl e2 e26 HBX.out (by kernel_rfl) rfl (by simp [Value.oneCell']) (fun w2 x9 o9 => ?_)
            have z6 := hide (z5.keep (Keep.of_only o9 (fun hh => by rcases hh with ⟨-, hh⟩ | hh <;> omega)))
            rw [show fin _ σ undef _ = (Act.put (Act.put (Act.put (Act.put (Act.put (Act.put (Act.put _ (some 21) (σ 0)) (some 22) (σ 1)) (some 23) (σ 2)) (some 24) (σ 3)) (some 25) (σ 4)) (some 26) (σ 5)) none undef) from (fin_all hall).trans rfl]
            simp only [Act.put, List.setIfInBounds_toArray, List.set_cons_zero, List.set_cons_succ]
            have HO := hide o9
            generalize σ 0 = tt0 at *; generalize σ 1 = tt1 at *; generalize σ 2 = tt2 at *; generalize σ 3 = tt3 at *; generalize σ 4 = tt4 at *; generalize σ 5 = tt5 at *
            clear hF hG hall hin hout SOF o9 e2 e26
            go_wp2_with fail
            refine bodyPost_lt rfl rfl x9 rfl ?_
            exact HP.out _ B5 d5 z6.out h51 h52 h53 (HBB.out.trans (HO.out.below HBB.out.size (by omega)))
        · have g3 : (k == 3) = false := by simp; omega
          by_cases h8 : k = 8
          · subst h8
            have HP := hide (show ∀ w' B d, KsIn (Up (UpN S w0.heap.size) (w0.heap.size + 2)) w' B 1 (pad t.kids 1) → 1 ≤ d → d ≤ 9223372036854775807 → (B = none → 1 = 0 ∧ d = 0) → Below w0.heap.size w0 w' → CntPost S t w0 (.returned (.agg #[.int .i64 8, .int .i64 0, .slice B 1 d])) w' from fun w' B d hk h1 h2 h3 hw => ⟨8, 0, B, 1, d, rfl, by rw [cnt_one (m := 1) HK0.out (by decide) (by decide)]; exact DIn.close 8 0 (hk.sub (fun b _ hb9 => hb9.imp (fun q => q.1) (fun q => by omega))) h1 h2 h3, hw⟩)
            go_enter Try.func34, Try.ntmps34
            go_upto_region 11 with fail
            generalize hW : ((w0.alloc (.cells #[.int .i64 8, .int .i64 p, .slice A n c] 24)).alloc (.cells #[.int .i64 0, .int .i64 0, .slice none 0 0] 24)) = W1 at *
            clear hW cc0 cc1 x0 x1
            have HFI := hide (fun W (h : Below W1.heap.size W1 W) => first_any (UpN S w0.heap.size) A n c t.kids 1 W (HK.out.keep (Keep.of_below h)) hA hc1 hc2 (by decide) (fun b hb => Nat.lt_of_lt_of_le hb.2 (Nat.le_trans HB.out.size h.size)))
            unfold FirstPost at HFI
            have SOF := hide (show ∀ W, Below W1.heap.size W1 W → (W.cell? ⟨w0.heap.size, 0, none⟩ = some (.int .i64 8) ∧ W.cell? ⟨w0.heap.size, 2, none⟩ = some (.slice A n c)) from fun W h => ⟨(HX0.out.next h).cell 0 _ rfl, (HX0.out.next h).cell 2 _ rfl⟩)
            refine wp_drawnL (by kernel_rfl) (by kernel_rfl) (by kernel_rfl) (by kernel_rfl) (fun w w' => Below w.heap.size w w') (fun j v w => match j with | 0 => v = .pointer (some ⟨w0.heap.size, 0, none⟩) | 1 => v = .int .i64 8 | 2 => v = .pointer (some ⟨w0.heap.size, 2, none⟩) | 3 => v = .slice A n c | 4 => ∃ B d, v = .slice B 1 d ∧ KsIn (Up (UpN S w0.heap.size) (w0.heap.size + 2)) w B 1 (pad t.kids 1) ∧ 1 ≤ d ∧ d ≤ 9223372036854775807 ∧ (B = none → 1 = 0 ∧ d = 0) | 5 => ∃ B d, v = .agg #[.int .i64 8, .int .i64 0, .slice B 1 d] ∧ KsIn (Up (UpN S w0.heap.size) (w0.heap.size + 2)) w B 1 (pad t.kids 1) ∧ 1 ≤ d ∧ d ≤ 9223372036854775807 ∧ (B = none → 1 = 0 ∧ d = 0) | _ => True) (fun _ _ w => Below W1.heap.size W1 w) ?_ (fun _ => bl_drewN W1 1) ?_ ?_
            · intro j v w w' hT h
              match j, h with
              | 0, h => exact h
              | 1, h => exact h
              | 2, h => exact h
              | 3, h => exact h
              | 4, h => exact (by obtain ⟨B, d, e, hk, h1, h2, h3⟩ := h; exact ⟨B, d, e, hk.keep (Keep.of_below hT), h1, h2, h3⟩)
              | 5, h => exact (by obtain ⟨B, d, e, hk, h1, h2, h3⟩ := h; exact ⟨B, d, e, hk.keep (Keep.of_below hT), h1, h2, h3⟩)
              | j + 6, h => trivial
            · refine ⟨?_, ?_, ?_, ?_, ?_, ?_, trivial⟩
              · intro listed σ w a hin hout hl hla hs hc hp hG hF
                refine Guarded.none rfl ?_
                have e1 : a.tmps.getD 1 undef = .pointer (some ⟨w0.heap.size, 0, none⟩) := hout 1 (outB_spec (by kernel_rfl))
                refine Does.val (.pointer (some ⟨w0.heap.size, 0, none⟩)) (w' := w) ?_ ⟨Below.refl _ _, rfl, hG⟩
                simp only [Array.getD_eq_getD_getElem?] at e1
                go_simp
              · intro listed σ w a hin hout hl hla hs hc hp hG hF
                refine Guarded.none rfl ?_
                have e21 : a.tmps.getD 21 undef = .pointer (some ⟨w0.heap.size, 0, none⟩) := (hin 0 21 rfl (hp ⟨0, .data⟩ (by simp) rfl)).trans (hF 0 (hp ⟨0, .data⟩ (by simp) rfl))
                have CC := SOF.out w hG; obtain ⟨C0, C2⟩ := CC
                refine Does.val (.int .i64 8) (w' := w) ?_ ⟨Below.refl _ _, rfl, hG⟩
                go_simp
              · intro listed σ w a hin hout hl hla hs hc hp hG hF
                refine Guarded.none rfl ?_
                have e1 : a.tmps.getD 1 undef = .pointer (some ⟨w0.heap.size, 0, none⟩) := hout 1 (outB_spec (by kernel_rfl))
                refine Does.val (.pointer (some ⟨w0.heap.size, 2, none⟩)) (w' := w) ?_ ⟨Below.refl _ _, rfl, hG⟩
                simp only [Array.getD_eq_getD_getElem?] at e1
                go_simp
              · intro listed σ w a hin hout hl hla hs hc hp hG hF
                refine Guarded.none rfl ?_
                have e23 : a.tmps.getD 23 undef = .pointer (some ⟨w0.heap.size, 2, none⟩) := (hin 2 23 rfl (hp ⟨2, .data⟩ (by simp) rfl)).trans (hF 2 (hp ⟨2, .data⟩ (by simp) rfl))
                have CC := SOF.out w hG; obtain ⟨C0, C2⟩ := CC
                refine Does.val (.slice A n c) (w' := w) ?_ ⟨Below.refl _ _, rfl, hG⟩
                go_simp
              · intro listed σ w a hin hout hl hla hs hc hp hG hF
                refine Guarded.none rfl ?_
                have e24 : a.tmps.getD 24 undef = .slice A n c := (hin 3 24 rfl (hp ⟨3, .data⟩ (by simp) rfl)).trans (hF 3 (hp ⟨3, .data⟩ (by simp) rfl))
                refine Does.call ?_ (HFI.out w hG) ?_
                · go_simp
                · rintro e w' ⟨B, d, rfl, hk, h1, h2, h3, hb⟩
                  exact ⟨_, rfl, hb, ⟨B, d, rfl, hk.sub (fun b _ hb9 => hb9.imp id (fun q => Nat.le_trans (HM.out ▸ hG.size) q)), h1, h2, h3⟩, hG.next hb⟩
              · intro listed σ w a hin hout hl hla hs hc hp hG hF
                refine Guarded.none rfl ?_
                have e22 : a.tmps.getD 22 undef = .int .i64 8 := (hin 1 22 rfl (hp ⟨1, .data⟩ (by simp) rfl)).trans (hF 1 (hp ⟨1, .data⟩ (by simp) rfl))
                have e25 := hin 4 25 rfl (hp ⟨4, .data⟩ (by simp) rfl)
                obtain ⟨B4, d4, ev4, z4, h41, h42, h43⟩ := hF 4 (hp ⟨4, .data⟩ (by simp) rfl)
                rw [ev4] at e25
                refine Does.val (.agg #[.int .i64 8, .int .i64 0, .slice B4 1 d4]) (w' := w) ?_ ⟨Below.refl _ _, ⟨B4, d4, rfl, z4, h41, h42, h43⟩, hG⟩
                simp only [Array.getD_eq_getD_getElem?] at e22 e25
                go_simp
            · intro o ho
              injection ho with ho; subst ho
              intro listed σ w a hall hin hout hG hF
              refine Guarded.none rfl ?_
              have e2 : a.tmps.getD 2 undef = .pointer (some ⟨w0.heap.size + 1, 0, none⟩) := hout 2 (outL (by kernel_rfl))
              have e26 := hin 5 26 rfl (by decide)
              obtain ⟨B5, d5, ev5, z5, h51, h52, h53⟩ := hF 5 (by decide)
              rw [ev5] at e26
              have HBX := hide (HX1.out.next hG)
              have HBB := hide (HB.out.next hG)
              refine Does.store_box (T := 24) (cells := #[.int .i64 8, .int .i64 0, .slice B5 1 d5]) rfl e2 e26 HBX.out (by kernel_rfl) rfl (by simp [Value.oneCell']) (fun w2 x9 o9 => ?_)
              have z6 := hide (z5.keep (Keep.of_only o9 (fun hh => by rcases hh with ⟨-, hh⟩ | hh <;> omega)))
              rw [show fin _ σ undef _ = (Act.put (Act.put (Act.put (Act.put (Act.put (Act.put (Act.put _ (some 21) (σ 0)) (some 22) (σ 1)) (some 23) (σ 2)) (some 24) (σ 3)) (some 25) (σ 4)) (some 26) (σ 5)) none undef) from (fin_all hall).trans rfl]
              simp only [Act.put, List.setIfInBounds_toArray, List.set_cons_zero, List.set_cons_succ]
              have HO := hide o9
              generalize σ 0 = tt0 at *; generalize σ 1 = tt1 at *; generalize σ 2 = tt2 at *; generalize σ 3 = tt3 at *; generalize σ 4 = tt4 at *; generalize σ 5 = tt5 at *
              clear hF hG hall hin hout SOF o9 e2 e26
              go_wp2_with fail
              refine bodyPost_lt rfl rfl x9 rfl ?_
              exact HP.out _ B5 d5 z6.out h51 h52 h53 (HBB.out.trans (HO.out.below HBB.out.size (by omega)))
          · have g8 : (k == 8) = false := by simp; omega
            by_cases h9 : k = 9
            · subst h9
              have HP := hide (show ∀ w' B d, KsIn (Up (UpN S w0.heap.size) (w0.heap.size + 2)) w' B 1 (pad t.kids 1) → 1 ≤ d → d ≤ 9223372036854775807 → (B = none → 1 = 0 ∧ d = 0) → Below w0.heap.size w0 w' → CntPost S t w0 (.returned (.agg #[.int .i64 9, .int .i64 0, .slice B 1 d])) w' from fun w' B d hk h1 h2 h3 hw => ⟨9, 0, B, 1, d, rfl, by rw [cnt_one (m := 1) HK0.out (by decide) (by decide)]; exact DIn.close 9 0 (hk.sub (fun b _ hb9 => hb9.imp (fun q => q.1) (fun q => by omega))) h1 h2 h3, hw⟩)
              go_enter Try.func34, Try.ntmps34
              go_upto_region 11 with fail
              generalize hW : ((w0.alloc (.cells #[.int .i64 9, .int .i64 p, .slice A n c] 24)).alloc (.cells #[.int .i64 0, .int .i64 0, .slice none 0 0] 24)) = W1 at *
              clear hW cc0 cc1 x0 x1
              have HFI := hide (fun W (h : Below W1.heap.size W1 W) => first_any (UpN S w0.heap.size) A n c t.kids 1 W (HK.out.keep (Keep.of_below h)) hA hc1 hc2 (by decide) (fun b hb => Nat.lt_of_lt_of_le hb.2 (Nat.le_trans HB.out.size h.size)))
              unfold FirstPost at HFI
              have SOF := hide (show ∀ W, Below W1.heap.size W1 W → (W.cell? ⟨w0.heap.size, 0, none⟩ = some (.int .i64 9) ∧ W.cell? ⟨w0.heap.size, 2, none⟩ = some (.slice A n c)) from fun W h => ⟨(HX0.out.next h).cell 0 _ rfl, (HX0.out.next h).cell 2 _ rfl⟩)
              refine wp_drawnL (by kernel_rfl) (by kernel_rfl) (by kernel_rfl) (by kernel_rfl) (fun w w' => Below w.heap.size w w') (fun j v w => match j with | 0 => v = .pointer (some ⟨w0.heap.size, 0, none⟩) | 1 => v = .int .i64 9 | 2 => v = .pointer (some ⟨w0.heap.size, 2, none⟩) | 3 => v = .slice A n c | 4 => ∃ B d, v = .slice B 1 d ∧ KsIn (Up (UpN S w0.heap.size) (w0.heap.size + 2)) w B 1 (pad t.kids 1) ∧ 1 ≤ d ∧ d ≤ 9223372036854775807 ∧ (B = none → 1 = 0 ∧ d = 0) | 5 => ∃ B d, v = .agg #[.int .i64 9, .int .i64 0, .slice B 1 d] ∧ KsIn (Up (UpN S w0.heap.size) (w0.heap.size + 2)) w B 1 (pad t.kids 1) ∧ 1 ≤ d ∧ d ≤ 9223372036854775807 ∧ (B = none → 1 = 0 ∧ d = 0) | _ => True) (fun _ _ w => Below W1.heap.size W1 w) ?_ (fun _ => bl_drewN W1 1) ?_ ?_
              · intro j v w w' hT h
                match j, h with
                | 0, h => exact h
                | 1, h => exact h
                | 2, h => exact h
                | 3, h => exact h
                | 4, h => exact (by obtain ⟨B, d, e, hk, h1, h2, h3⟩ := h; exact ⟨B, d, e, hk.keep (Keep.of_below hT), h1, h2, h3⟩)
                | 5, h => exact (by obtain ⟨B, d, e, hk, h1, h2, h3⟩ := h; exact ⟨B, d, e, hk.keep (Keep.of_below hT), h1, h2, h3⟩)
                | j + 6, h => trivial
              · refine ⟨?_, ?_, ?_, ?_, ?_, ?_, trivial⟩
                · intro listed σ w a hin hout hl hla hs hc hp hG hF
                  refine Guarded.none rfl ?_
                  have e1 : a.tmps.getD 1 undef = .pointer (some ⟨w0.heap.size, 0, none⟩) := hout 1 (outB_spec (by kernel_rfl))
                  refine Does.val (.pointer (some ⟨w0.heap.size, 0, none⟩)) (w' := w) ?_ ⟨Below.refl _ _, rfl, hG⟩
                  simp only [Array.getD_eq_getD_getElem?] at e1
                  go_simp
                · intro listed σ w a hin hout hl hla hs hc hp hG hF
                  refine Guarded.none rfl ?_
                  have e21 : a.tmps.getD 21 undef = .pointer (some ⟨w0.heap.size, 0, none⟩) := (hin 0 21 rfl (hp ⟨0, .data⟩ (by simp) rfl)).trans (hF 0 (hp ⟨0, .data⟩ (by simp) rfl))
                  have CC := SOF.out w hG; obtain ⟨C0, C2⟩ := CC
                  refine Does.val (.int .i64 9) (w' := w) ?_ ⟨Below.refl _ _, rfl, hG⟩
                  go_simp
                · intro listed σ w a hin hout hl hla hs hc hp hG hF
                  refine Guarded.none rfl ?_
                  have e1 : a.tmps.getD 1 undef = .pointer (some ⟨w0.heap.size, 0, none⟩) := hout 1 (outB_spec (by kernel_rfl))
                  refine Does.val (.pointer (some ⟨w0.heap.size, 2, none⟩)) (w' := w) ?_ ⟨Below.refl _ _, rfl, hG⟩
                  simp only [Array.getD_eq_getD_getElem?] at e1
                  go_simp
                · intro listed σ w a hin hout hl hla hs hc hp hG hF
                  refine Guarded.none rfl ?_
                  have e23 : a.tmps.getD 23 undef = .pointer (some ⟨w0.heap.size, 2, none⟩) := (hin 2 23 rfl (hp ⟨2, .data⟩ (by simp) rfl)).trans (hF 2 (hp ⟨2, .data⟩ (by simp) rfl))
                  have CC := SOF.out w hG; obtain ⟨C0, C2⟩ := CC
                  refine Does.val (.slice A n c) (w' := w) ?_ ⟨Below.refl _ _, rfl, hG⟩
                  go_simp
                · intro listed σ w a hin hout hl hla hs hc hp hG hF
                  refine Guarded.none rfl ?_
                  have e24 : a.tmps.getD 24 undef = .slice A n c := (hin 3 24 rfl (hp ⟨3, .data⟩ (by simp) rfl)).trans (hF 3 (hp ⟨3, .data⟩ (by simp) rfl))
                  refine Does.call ?_ (HFI.out w hG) ?_
                  · go_simp
                  · rintro e w' ⟨B, d, rfl, hk, h1, h2, h3, hb⟩
                    exact ⟨_, rfl, hb, ⟨B, d, rfl, hk.sub (fun b _ hb9 => hb9.imp id (fun q => Nat.le_trans (HM.out ▸ hG.size) q)), h1, h2, h3⟩, hG.next hb⟩
                · intro listed σ w a hin hout hl hla hs hc hp hG hF
                  refine Guarded.none rfl ?_
                  have e22 : a.tmps.getD 22 undef = .int .i64 9 := (hin 1 22 rfl (hp ⟨1, .data⟩ (by simp) rfl)).trans (hF 1 (hp ⟨1, .data⟩ (by simp) rfl))
                  have e25 := hin 4 25 rfl (hp ⟨4, .data⟩ (by simp) rfl)
                  obtain ⟨B4, d4, ev4, z4, h41, h42, h43⟩ := hF 4 (hp ⟨4, .data⟩ (by simp) rfl)
                  rw [ev4] at e25
                  refine Does.val (.agg #[.int .i64 9, .int .i64 0, .slice B4 1 d4]) (w' := w) ?_ ⟨Below.refl _ _, ⟨B4, d4, rfl, z4, h41, h42, h43⟩, hG⟩
                  simp only [Array.getD_eq_getD_getElem?] at e22 e25
                  go_simp
              · intro o ho
                injection ho with ho; subst ho
                intro listed σ w a hall hin hout hG hF
                refine Guarded.none rfl ?_
                have e2 : a.tmps.getD 2 undef = .pointer (some ⟨w0.heap.size + 1, 0, none⟩) := hout 2 (outL (by kernel_rfl))
                have e26 := hin 5 26 rfl (by decide)
                obtain ⟨B5, d5, ev5, z5, h51, h52, h53⟩ := hF 5 (by decide)
                rw [ev5] at e26
                have HBX := hide (HX1.out.next hG)
                have HBB := hide (HB.out.next hG)
                refine Does.store_box (T := 24) (cells := #[.int .i64 9, .int .i64 0, .slice B5 1 d5]) rfl e2 e26 HBX.out (by kernel_rfl) rfl (by simp [Value.oneCell']) (fun w2 x9 o9 => ?_)
                have z6 := hide (z5.keep (Keep.of_only o9 (fun hh => by rcases hh with ⟨-, hh⟩ | hh <;> omega)))
                rw [show fin _ σ undef _ = (Act.put (Act.put (Act.put (Act.put (Act.put (Act.put (Act.put _ (some 21) (σ 0)) (some 22) (σ 1)) (some 23) (σ 2)) (some 24) (σ 3)) (some 25) (σ 4)) (some 26) (σ 5)) none undef) from (fin_all hall).trans rfl]
                simp only [Act.put, List.setIfInBounds_toArray, List.set_cons_zero, List.set_cons_succ]
                have HO := hide o9
                generalize σ 0 = tt0 at *; generalize σ 1 = tt1 at *; generalize σ 2 = tt2 at *; generalize σ 3 = tt3 at *; generalize σ 4 = tt4 at *; generalize σ 5 = tt5 at *
                clear hF hG hall hin hout SOF o9 e2 e26
                go_wp2_with fail
                refine bodyPost_lt rfl rfl x9 rfl ?_
                exact HP.out _ B5 d5 z6.out h51 h52 h53 (HBB.out.trans (HO.out.below HBB.out.size (by omega)))
            · have g9 : (k == 9) = false := by simp; omega
              by_cases h10 : k = 10
              · subst h10
                have HP := hide (show ∀ w' B d, KsIn (Up (UpN S w0.heap.size) (w0.heap.size + 2)) w' B 1 (pad t.kids 1) → 1 ≤ d → d ≤ 9223372036854775807 → (B = none → 1 = 0 ∧ d = 0) → Below w0.heap.size w0 w' → CntPost S t w0 (.returned (.agg #[.int .i64 10, .int .i64 0, .slice B 1 d])) w' from fun w' B d hk h1 h2 h3 hw => ⟨10, 0, B, 1, d, rfl, by rw [cnt_one (m := 1) HK0.out (by decide) (by decide)]; exact DIn.close 10 0 (hk.sub (fun b _ hb9 => hb9.imp (fun q => q.1) (fun q => by omega))) h1 h2 h3, hw⟩)
                go_enter Try.func34, Try.ntmps34
                go_upto_region 11 with fail
                generalize hW : ((w0.alloc (.cells #[.int .i64 10, .int .i64 p, .slice A n c] 24)).alloc (.cells #[.int .i64 0, .int .i64 0, .slice none 0 0] 24)) = W1 at *
                clear hW cc0 cc1 x0 x1
                have HFI := hide (fun W (h : Below W1.heap.size W1 W) => first_any (UpN S w0.heap.size) A n c t.kids 1 W (HK.out.keep (Keep.of_below h)) hA hc1 hc2 (by decide) (fun b hb => Nat.lt_of_lt_of_le hb.2 (Nat.le_trans HB.out.size h.size)))
                unfold FirstPost at HFI
                have SOF := hide (show ∀ W, Below W1.heap.size W1 W → (W.cell? ⟨w0.heap.size, 0, none⟩ = some (.int .i64 10) ∧ W.cell? ⟨w0.heap.size, 2, none⟩ = some (.slice A n c)) from fun W h => ⟨(HX0.out.next h).cell 0 _ rfl, (HX0.out.next h).cell 2 _ rfl⟩)
                refine wp_drawnL (by kernel_rfl) (by kernel_rfl) (by kernel_rfl) (by kernel_rfl) (fun w w' => Below w.heap.size w w') (fun j v w => match j with | 0 => v = .pointer (some ⟨w0.heap.size, 0, none⟩) | 1 => v = .int .i64 10 | 2 => v = .pointer (some ⟨w0.heap.size, 2, none⟩) | 3 => v = .slice A n c | 4 => ∃ B d, v = .slice B 1 d ∧ KsIn (Up (UpN S w0.heap.size) (w0.heap.size + 2)) w B 1 (pad t.kids 1) ∧ 1 ≤ d ∧ d ≤ 9223372036854775807 ∧ (B = none → 1 = 0 ∧ d = 0) | 5 => ∃ B d, v = .agg #[.int .i64 10, .int .i64 0, .slice B 1 d] ∧ KsIn (Up (UpN S w0.heap.size) (w0.heap.size + 2)) w B 1 (pad t.kids 1) ∧ 1 ≤ d ∧ d ≤ 9223372036854775807 ∧ (B = none → 1 = 0 ∧ d = 0) | _ => True) (fun _ _ w => Below W1.heap.size W1 w) ?_ (fun _ => bl_drewN W1 1) ?_ ?_
                · intro j v w w' hT h
                  match j, h with
                  | 0, h => exact h
                  | 1, h => exact h
                  | 2, h => exact h
                  | 3, h => exact h
                  | 4, h => exact (by obtain ⟨B, d, e, hk, h1, h2, h3⟩ := h; exact ⟨B, d, e, hk.keep (Keep.of_below hT), h1, h2, h3⟩)
                  | 5, h => exact (by obtain ⟨B, d, e, hk, h1, h2, h3⟩ := h; exact ⟨B, d, e, hk.keep (Keep.of_below hT), h1, h2, h3⟩)
                  | j + 6, h => trivial
                · refine ⟨?_, ?_, ?_, ?_, ?_, ?_, trivial⟩
                  · intro listed σ w a hin hout hl hla hs hc hp hG hF
                    refine Guarded.none rfl ?_
                    have e1 : a.tmps.getD 1 undef = .pointer (some ⟨w0.heap.size, 0, none⟩) := hout 1 (outB_spec (by kernel_rfl))
                    refine Does.val (.pointer (some ⟨w0.heap.size, 0, none⟩)) (w' := w) ?_ ⟨Below.refl _ _, rfl, hG⟩
                    simp only [Array.getD_eq_getD_getElem?] at e1
                    go_simp
                  · intro listed σ w a hin hout hl hla hs hc hp hG hF
                    refine Guarded.none rfl ?_
                    have e21 : a.tmps.getD 21 undef = .pointer (some ⟨w0.heap.size, 0, none⟩) := (hin 0 21 rfl (hp ⟨0, .data⟩ (by simp) rfl)).trans (hF 0 (hp ⟨0, .data⟩ (by simp) rfl))
                    have CC := SOF.out w hG; obtain ⟨C0, C2⟩ := CC
                    refine Does.val (.int .i64 10) (w' := w) ?_ ⟨Below.refl _ _, rfl, hG⟩
                    go_simp
                  · intro listed σ w a hin hout hl hla hs hc hp hG hF
                    refine Guarded.none rfl ?_
                    have e1 : a.tmps.getD 1 undef = .pointer (some ⟨w0.heap.size, 0, none⟩) := hout 1 (outB_spec (by kernel_rfl))
                    refine Does.val (.pointer (some ⟨w0.heap.size, 2, none⟩)) (w' := w) ?_ ⟨Below.refl _ _, rfl, hG⟩
                    simp only [Array.getD_eq_getD_getElem?] at e1
                    go_simp
                  · intro listed σ w a hin hout hl hla hs hc hp hG hF
                    refine Guarded.none rfl ?_
                    have e23 : a.tmps.getD 23 undef = .pointer (some ⟨w0.heap.size, 2, none⟩) := (hin 2 23 rfl (hp ⟨2, .data⟩ (by simp) rfl)).trans (hF 2 (hp ⟨2, .data⟩ (by simp) rfl))
                    have CC := SOF.out w hG; obtain ⟨C0, C2⟩ := CC
                    refine Does.val (.slice A n c) (w' := w) ?_ ⟨Below.refl _ _, rfl, hG⟩
                    go_simp
                  · intro listed σ w a hin hout hl hla hs hc hp hG hF
                    refine Guarded.none rfl ?_
                    have e24 : a.tmps.getD 24 undef = .slice A n c := (hin 3 24 rfl (hp ⟨3, .data⟩ (by simp) rfl)).trans (hF 3 (hp ⟨3, .data⟩ (by simp) rfl))
                    refine Does.call ?_ (HFI.out w hG) ?_
                    · go_simp
                    · rintro e w' ⟨B, d, rfl, hk, h1, h2, h3, hb⟩
                      exact ⟨_, rfl, hb, ⟨B, d, rfl, hk.sub (fun b _ hb9 => hb9.imp id (fun q => Nat.le_trans (HM.out ▸ hG.size) q)), h1, h2, h3⟩, hG.next hb⟩
                  · intro listed σ w a hin hout hl hla hs hc hp hG hF
                    refine Guarded.none rfl ?_
                    have e22 : a.tmps.getD 22 undef = .int .i64 10 := (hin 1 22 rfl (hp ⟨1, .data⟩ (by simp) rfl)).trans (hF 1 (hp ⟨1, .data⟩ (by simp) rfl))
                    have e25 := hin 4 25 rfl (hp ⟨4, .data⟩ (by simp) rfl)
                    obtain ⟨B4, d4, ev4, z4, h41, h42, h43⟩ := hF 4 (hp ⟨4, .data⟩ (by simp) rfl)
                    rw [ev4] at e25
                    refine Does.val (.agg #[.int .i64 10, .int .i64 0, .slice B4 1 d4]) (w' := w) ?_ ⟨Below.refl _ _, ⟨B4, d4, rfl, z4, h41, h42, h43⟩, hG⟩
                    simp only [Array.getD_eq_getD_getElem?] at e22 e25
                    go_simp
                · intro o ho
                  injection ho with ho; subst ho
                  intro listed σ w a hall hin hout hG hF
                  refine Guarded.none rfl ?_
                  have e2 : a.tmps.getD 2 undef = .pointer (some ⟨w0.heap.size + 1, 0, none⟩) := hout 2 (outL (by kernel_rfl))
                  have e26 := hin 5 26 rfl (by decide)
                  obtain ⟨B5, d5, ev5, z5, h51, h52, h53⟩ := hF 5 (by decide)
                  rw [ev5] at e26
                  have HBX := hide (HX1.out.next hG)
                  have HBB := hide (HB.out.next hG)
                  refine Does.store_box (T := 24) (cells := #[.int .i64 10, .int .i64 0, .slice B5 1 d5]) rfl e2 e26 HBX.out (by kernel_rfl) rfl (by simp [Value.oneCell']) (fun w2 x9 o9 => ?_)
                  have z6 := hide (z5.keep (Keep.of_only o9 (fun hh => by rcases hh with ⟨-, hh⟩ | hh <;> omega)))
                  rw [show fin _ σ undef _ = (Act.put (Act.put (Act.put (Act.put (Act.put (Act.put (Act.put _ (some 21) (σ 0)) (some 22) (σ 1)) (some 23) (σ 2)) (some 24) (σ 3)) (some 25) (σ 4)) (some 26) (σ 5)) none undef) from (fin_all hall).trans rfl]
                  simp only [Act.put, List.setIfInBounds_toArray, List.set_cons_zero, List.set_cons_succ]
                  have HO := hide o9
                  generalize σ 0 = tt0 at *; generalize σ 1 = tt1 at *; generalize σ 2 = tt2 at *; generalize σ 3 = tt3 at *; generalize σ 4 = tt4 at *; generalize σ 5 = tt5 at *
                  clear hF hG hall hin hout SOF o9 e2 e26
                  go_wp2_with fail
                  refine bodyPost_lt rfl rfl x9 rfl ?_
                  exact HP.out _ B5 d5 z6.out h51 h52 h53 (HBB.out.trans (HO.out.below HBB.out.size (by omega)))
              · have g10 : (k == 10) = false := by simp; omega
                by_cases h4 : k = 4
                · subst h4
                  have HP := hide (show ∀ w' B d, KsIn (Up (UpN S w0.heap.size) (w0.heap.size + 2)) w' B 2 (pad t.kids 2) → 2 ≤ d → d ≤ 9223372036854775807 → (B = none → 2 = 0 ∧ d = 0) → Below w0.heap.size w0 w' → CntPost S t w0 (.returned (.agg #[.int .i64 4, .int .i64 0, .slice B 2 d])) w' from fun w' B d hk h1 h2 h3 hw => ⟨4, 0, B, 2, d, rfl, by rw [cnt_one (m := 2) HK0.out (by decide) (by decide)]; exact DIn.close 4 0 (hk.sub (fun b _ hb9 => hb9.imp (fun q => q.1) (fun q => by omega))) h1 h2 h3, hw⟩)
                  go_enter Try.func34, Try.ntmps34
                  go_upto_region 17 with fail
                  generalize hW : ((w0.alloc (.cells #[.int .i64 4, .int .i64 p, .slice A n c] 24)).alloc (.cells #[.int .i64 0, .int .i64 0, .slice none 0 0] 24)) = W1 at *
                  clear hW cc0 cc1 x0 x1
                  have HFI := hide (fun W (h : Below W1.heap.size W1 W) => first_any (UpN S w0.heap.size) A n c t.kids 2 W (HK.out.keep (Keep.of_below h)) hA hc1 hc2 (by decide) (fun b hb => Nat.lt_of_lt_of_le hb.2 (Nat.le_trans HB.out.size h.size)))
                  unfold FirstPost at HFI
                  have SOF := hide (show ∀ W, Below W1.heap.size W1 W → (W.cell? ⟨w0.heap.size, 0, none⟩ = some (.int .i64 4) ∧ W.cell? ⟨w0.heap.size, 2, none⟩ = some (.slice A n c)) from fun W h => ⟨(HX0.out.next h).cell 0 _ rfl, (HX0.out.next h).cell 2 _ rfl⟩)
                  refine wp_drawnL (by kernel_rfl) (by kernel_rfl) (by kernel_rfl) (by kernel_rfl) (fun w w' => Below w.heap.size w w') (fun j v w => match j with | 0 => v = .pointer (some ⟨w0.heap.size, 0, none⟩) | 1 => v = .int .i64 4 | 2 => v = .pointer (some ⟨w0.heap.size, 2, none⟩) | 3 => v = .slice A n c | 4 => ∃ B d, v = .slice B 2 d ∧ KsIn (Up (UpN S w0.heap.size) (w0.heap.size + 2)) w B 2 (pad t.kids 2) ∧ 2 ≤ d ∧ d ≤ 9223372036854775807 ∧ (B = none → 2 = 0 ∧ d = 0) | 5 => ∃ B d, v = .agg #[.int .i64 4, .int .i64 0, .slice B 2 d] ∧ KsIn (Up (UpN S w0.heap.size) (w0.heap.size + 2)) w B 2 (pad t.kids 2) ∧ 2 ≤ d ∧ d ≤ 9223372036854775807 ∧ (B = none → 2 = 0 ∧ d = 0) | _ => True) (fun _ _ w => Below W1.heap.size W1 w) ?_ (fun _ => bl_drewN W1 1) ?_ ?_
                  · intro j v w w' hT h
                    match j, h with
                    | 0, h => exact h
                    | 1, h => exact h
                    | 2, h => exact h
                    | 3, h => exact h
                    | 4, h => exact (by obtain ⟨B, d, e, hk, h1, h2, h3⟩ := h; exact ⟨B, d, e, hk.keep (Keep.of_below hT), h1, h2, h3⟩)
                    | 5, h => exact (by obtain ⟨B, d, e, hk, h1, h2, h3⟩ := h; exact ⟨B, d, e, hk.keep (Keep.of_below hT), h1, h2, h3⟩)
                    | j + 6, h => trivial
                  · refine ⟨?_, ?_, ?_, ?_, ?_, ?_, trivial⟩
                    · intro listed σ w a hin hout hl hla hs hc hp hG hF
                      refine Guarded.none rfl ?_
                      have e1 : a.tmps.getD 1 undef = .pointer (some ⟨w0.heap.size, 0, none⟩) := hout 1 (outB_spec (by kernel_rfl))
                      refine Does.val (.pointer (some ⟨w0.heap.size, 0, none⟩)) (w' := w) ?_ ⟨Below.refl _ _, rfl, hG⟩
                      simp only [Array.getD_eq_getD_getElem?] at e1
                      go_simp
                    · intro listed σ w a hin hout hl hla hs hc hp hG hF
                      refine Guarded.none rfl ?_
                      have e33 : a.tmps.getD 33 undef = .pointer (some ⟨w0.heap.size, 0, none⟩) := (hin 0 33 rfl (hp ⟨0, .data⟩ (by simp) rfl)).trans (hF 0 (hp ⟨0, .data⟩ (by simp) rfl))
                      have CC := SOF.out w hG; obtain ⟨C0, C2⟩ := CC
                      refine Does.val (.int .i64 4) (w' := w) ?_ ⟨Below.refl _ _, rfl, hG⟩
                      go_simp
                    · intro listed σ w a hin hout hl hla hs hc hp hG hF
                      refine Guarded.none rfl ?_
                      have e1 : a.tmps.getD 1 undef = .pointer (some ⟨w0.heap.size, 0, none⟩) := hout 1 (outB_spec (by kernel_rfl))
                      refine Does.val (.pointer (some ⟨w0.heap.size, 2, none⟩)) (w' := w) ?_ ⟨Below.refl _ _, rfl, hG⟩
                      simp only [Array.getD_eq_getD_getElem?] at e1
                      go_simp
                    · intro listed σ w a hin hout hl hla hs hc hp hG hF
                      refine Guarded.none rfl ?_
                      have e35 : a.tmps.getD 35 undef = .pointer (some ⟨w0.heap.size, 2, none⟩) := (hin 2 35 rfl (hp ⟨2, .data⟩ (by simp) rfl)).trans (hF 2 (hp ⟨2, .data⟩ (by simp) rfl))
                      have CC := SOF.out w hG; obtain ⟨C0, C2⟩ := CC
                      refine Does.val (.slice A n c) (w' := w) ?_ ⟨Below.refl _ _, rfl, hG⟩
                      go_simp
                    · intro listed σ w a hin hout hl hla hs hc hp hG hF
                      refine Guarded.none rfl ?_
                      have e36 : a.tmps.getD 36 undef = .slice A n c := (hin 3 36 rfl (hp ⟨3, .data⟩ (by simp) rfl)).trans (hF 3 (hp ⟨3, .data⟩ (by simp) rfl))
                      refine Does.call ?_ (HFI.out w hG) ?_
                      · go_simp
                      · rintro e w' ⟨B, d, rfl, hk, h1, h2, h3, hb⟩
                        exact ⟨_, rfl, hb, ⟨B, d, rfl, hk.sub (fun b _ hb9 => hb9.imp id (fun q => Nat.le_trans (HM.out ▸ hG.size) q)), h1, h2, h3⟩, hG.next hb⟩
                    · intro listed σ w a hin hout hl hla hs hc hp hG hF
                      refine Guarded.none rfl ?_
                      have e34 : a.tmps.getD 34 undef = .int .i64 4 := (hin 1 34 rfl (hp ⟨1, .data⟩ (by simp) rfl)).trans (hF 1 (hp ⟨1, .data⟩ (by simp) rfl))
                      have e37 := hin 4 37 rfl (hp ⟨4, .data⟩ (by simp) rfl)
                      obtain ⟨B4, d4, ev4, z4, h41, h42, h43⟩ := hF 4 (hp ⟨4, .data⟩ (by simp) rfl)
                      rw [ev4] at e37
                      refine Does.val (.agg #[.int .i64 4, .int .i64 0, .slice B4 2 d4]) (w' := w) ?_ ⟨Below.refl _ _, ⟨B4, d4, rfl, z4, h41, h42, h43⟩, hG⟩
                      simp only [Array.getD_eq_getD_getElem?] at e34 e37
                      go_simp
                  · intro o ho
                    injection ho with ho; subst ho
                    intro listed σ w a hall hin hout hG hF
                    refine Guarded.none rfl ?_
                    have e2 : a.tmps.getD 2 undef = .pointer (some ⟨w0.heap.size + 1, 0, none⟩) := hout 2 (outL (by kernel_rfl))
                    have e38 := hin 5 38 rfl (by decide)
                    obtain ⟨B5, d5, ev5, z5, h51, h52, h53⟩ := hF 5 (by decide)
                    rw [ev5] at e38
                    have HBX := hide (HX1.out.next hG)
                    have HBB := hide (HB.out.next hG)
                    refine Does.store_box (T := 24) (cells := #[.int .i64 4, .int .i64 0, .slice B5 2 d5]) rfl e2 e38 HBX.out (by kernel_rfl) rfl (by simp [Value.oneCell']) (fun w2 x9 o9 => ?_)
                    have z6 := hide (z5.keep (Keep.of_only o9 (fun hh => by rcases hh with ⟨-, hh⟩ | hh <;> omega)))
                    rw [show fin _ σ undef _ = (Act.put (Act.put (Act.put (Act.put (Act.put (Act.put (Act.put _ (some 33) (σ 0)) (some 34) (σ 1)) (some 35) (σ 2)) (some 36) (σ 3)) (some 37) (σ 4)) (some 38) (σ 5)) none undef) from (fin_all hall).trans rfl]
                    simp only [Act.put, List.setIfInBounds_toArray, List.set_cons_zero, List.set_cons_succ]
                    have HO := hide o9
                    generalize σ 0 = tt0 at *; generalize σ 1 = tt1 at *; generalize σ 2 = tt2 at *; generalize σ 3 = tt3 at *; generalize σ 4 = tt4 at *; generalize σ 5 = tt5 at *
                    clear hF hG hall hin hout SOF o9 e2 e38
                    go_wp2_with fail
                    refine bodyPost_lt rfl rfl x9 rfl ?_
                    exact HP.out _ B5 d5 z6.out h51 h52 h53 (HBB.out.trans (HO.out.below HBB.out.size (by omega)))
                · have g4 : (k == 4) = false := by simp; omega
                  by_cases h5 : k = 5
                  · subst h5
                    have HP := hide (show ∀ w' B d, KsIn (Up (UpN S w0.heap.size) (w0.heap.size + 2)) w' B 2 (pad t.kids 2) → 2 ≤ d → d ≤ 9223372036854775807 → (B = none → 2 = 0 ∧ d = 0) → Below w0.heap.size w0 w' → CntPost S t w0 (.returned (.agg #[.int .i64 5, .int .i64 0, .slice B 2 d])) w' from fun w' B d hk h1 h2 h3 hw => ⟨5, 0, B, 2, d, rfl, by rw [cnt_one (m := 2) HK0.out (by decide) (by decide)]; exact DIn.close 5 0 (hk.sub (fun b _ hb9 => hb9.imp (fun q => q.1) (fun q => by omega))) h1 h2 h3, hw⟩)
                    go_enter Try.func34, Try.ntmps34
                    go_upto_region 17 with fail
                    generalize hW : ((w0.alloc (.cells #[.int .i64 5, .int .i64 p, .slice A n c] 24)).alloc (.cells #[.int .i64 0, .int .i64 0, .slice none 0 0] 24)) = W1 at *
                    clear hW cc0 cc1 x0 x1
                    have HFI := hide (fun W (h : Below W1.heap.size W1 W) => first_any (UpN S w0.heap.size) A n c t.kids 2 W (HK.out.keep (Keep.of_below h)) hA hc1 hc2 (by decide) (fun b hb => Nat.lt_of_lt_of_le hb.2 (Nat.le_trans HB.out.size h.size)))
                    unfold FirstPost at HFI
                    have SOF := hide (show ∀ W, Below W1.heap.size W1 W → (W.cell? ⟨w0.heap.size, 0, none⟩ = some (.int .i64 5) ∧ W.cell? ⟨w0.heap.size, 2, none⟩ = some (.slice A n c)) from fun W h => ⟨(HX0.out.next h).cell 0 _ rfl, (HX0.out.next h).cell 2 _ rfl⟩)
                    refine wp_drawnL (by kernel_rfl) (by kernel_rfl) (by kernel_rfl) (by kernel_rfl) (fun w w' => Below w.heap.size w w') (fun j v w => match j with | 0 => v = .pointer (some ⟨w0.heap.size, 0, none⟩) | 1 => v = .int .i64 5 | 2 => v = .pointer (some ⟨w0.heap.size, 2, none⟩) | 3 => v = .slice A n c | 4 => ∃ B d, v = .slice B 2 d ∧ KsIn (Up (UpN S w0.heap.size) (w0.heap.size + 2)) w B 2 (pad t.kids 2) ∧ 2 ≤ d ∧ d ≤ 9223372036854775807 ∧ (B = none → 2 = 0 ∧ d = 0) | 5 => ∃ B d, v = .agg #[.int .i64 5, .int .i64 0, .slice B 2 d] ∧ KsIn (Up (UpN S w0.heap.size) (w0.heap.size + 2)) w B 2 (pad t.kids 2) ∧ 2 ≤ d ∧ d ≤ 9223372036854775807 ∧ (B = none → 2 = 0 ∧ d = 0) | _ => True) (fun _ _ w => Below W1.heap.size W1 w) ?_ (fun _ => bl_drewN W1 1) ?_ ?_
                    · intro j v w w' hT h
                      match j, h with
                      | 0, h => exact h
                      | 1, h => exact h
                      | 2, h => exact h
                      | 3, h => exact h
                      | 4, h => exact (by obtain ⟨B, d, e, hk, h1, h2, h3⟩ := h; exact ⟨B, d, e, hk.keep (Keep.of_below hT), h1, h2, h3⟩)
                      | 5, h => exact (by obtain ⟨B, d, e, hk, h1, h2, h3⟩ := h; exact ⟨B, d, e, hk.keep (Keep.of_below hT), h1, h2, h3⟩)
                      | j + 6, h => trivial
                    · refine ⟨?_, ?_, ?_, ?_, ?_, ?_, trivial⟩
                      · intro listed σ w a hin hout hl hla hs hc hp hG hF
                        refine Guarded.none rfl ?_
                        have e1 : a.tmps.getD 1 undef = .pointer (some ⟨w0.heap.size, 0, none⟩) := hout 1 (outB_spec (by kernel_rfl))
                        refine Does.val (.pointer (some ⟨w0.heap.size, 0, none⟩)) (w' := w) ?_ ⟨Below.refl _ _, rfl, hG⟩
                        simp only [Array.getD_eq_getD_getElem?] at e1
                        go_simp
                      · intro listed σ w a hin hout hl hla hs hc hp hG hF
                        refine Guarded.none rfl ?_
                        have e33 : a.tmps.getD 33 undef = .pointer (some ⟨w0.heap.size, 0, none⟩) := (hin 0 33 rfl (hp ⟨0, .data⟩ (by simp) rfl)).trans (hF 0 (hp ⟨0, .data⟩ (by simp) rfl))
                        have CC := SOF.out w hG; obtain ⟨C0, C2⟩ := CC
                        refine Does.val (.int .i64 5) (w' := w) ?_ ⟨Below.refl _ _, rfl, hG⟩
                        go_simp
                      · intro listed σ w a hin hout hl hla hs hc hp hG hF
                        refine Guarded.none rfl ?_
                        have e1 : a.tmps.getD 1 undef = .pointer (some ⟨w0.heap.size, 0, none⟩) := hout 1 (outB_spec (by kernel_rfl))
                        refine Does.val (.pointer (some ⟨w0.heap.size, 2, none⟩)) (w' := w) ?_ ⟨Below.refl _ _, rfl, hG⟩
                        simp only [Array.getD_eq_getD_getElem?] at e1
                        go_simp
                      · intro listed σ w a hin hout hl hla hs hc hp hG hF
                        refine Guarded.none rfl ?_
                        have e35 : a.tmps.getD 35 undef = .pointer (some ⟨w0.heap.size, 2, none⟩) := (hin 2 35 rfl (hp ⟨2, .data⟩ (by simp) rfl)).trans (hF 2 (hp ⟨2, .data⟩ (by simp) rfl))
                        have CC := SOF.out w hG; obtain ⟨C0, C2⟩ := CC
                        refine Does.val (.slice A n c) (w' := w) ?_ ⟨Below.refl _ _, rfl, hG⟩
                        go_simp
                      · intro listed σ w a hin hout hl hla hs hc hp hG hF
                        refine Guarded.none rfl ?_
                        have e36 : a.tmps.getD 36 undef = .slice A n c := (hin 3 36 rfl (hp ⟨3, .data⟩ (by simp) rfl)).trans (hF 3 (hp ⟨3, .data⟩ (by simp) rfl))
                        refine Does.call ?_ (HFI.out w hG) ?_
                        · go_simp
                        · rintro e w' ⟨B, d, rfl, hk, h1, h2, h3, hb⟩
                          exact ⟨_, rfl, hb, ⟨B, d, rfl, hk.sub (fun b _ hb9 => hb9.imp id (fun q => Nat.le_trans (HM.out ▸ hG.size) q)), h1, h2, h3⟩, hG.next hb⟩
                      · intro listed σ w a hin hout hl hla hs hc hp hG hF
                        refine Guarded.none rfl ?_
                        have e34 : a.tmps.getD 34 undef = .int .i64 5 := (hin 1 34 rfl (hp ⟨1, .data⟩ (by simp) rfl)).trans (hF 1 (hp ⟨1, .data⟩ (by simp) rfl))
                        have e37 := hin 4 37 rfl (hp ⟨4, .data⟩ (by simp) rfl)
                        obtain ⟨B4, d4, ev4, z4, h41, h42, h43⟩ := hF 4 (hp ⟨4, .data⟩ (by simp) rfl)
                        rw [ev4] at e37
                        refine Does.val (.agg #[.int .i64 5, .int .i64 0, .slice B4 2 d4]) (w' := w) ?_ ⟨Below.refl _ _, ⟨B4, d4, rfl, z4, h41, h42, h43⟩, hG⟩
                        simp only [Array.getD_eq_getD_getElem?] at e34 e37
                        go_simp
                    · intro o ho
                      injection ho with ho; subst ho
                      intro listed σ w a hall hin hout hG hF
                      refine Guarded.none rfl ?_
                      have e2 : a.tmps.getD 2 undef = .pointer (some ⟨w0.heap.size + 1, 0, none⟩) := hout 2 (outL (by kernel_rfl))
                      have e38 := hin 5 38 rfl (by decide)
                      obtain ⟨B5, d5, ev5, z5, h51, h52, h53⟩ := hF 5 (by decide)
                      rw [ev5] at e38
                      have HBX := hide (HX1.out.next hG)
                      have HBB := hide (HB.out.next hG)
                      refine Does.store_box (T := 24) (cells := #[.int .i64 5, .int .i64 0, .slice B5 2 d5]) rfl e2 e38 HBX.out (by kernel_rfl) rfl (by simp [Value.oneCell']) (fun w2 x9 o9 => ?_)
                      have z6 := hide (z5.keep (Keep.of_only o9 (fun hh => by rcases hh with ⟨-, hh⟩ | hh <;> omega)))
                      rw [show fin _ σ undef _ = (Act.put (Act.put (Act.put (Act.put (Act.put (Act.put (Act.put _ (some 33) (σ 0)) (some 34) (σ 1)) (some 35) (σ 2)) (some 36) (σ 3)) (some 37) (σ 4)) (some 38) (σ 5)) none undef) from (fin_all hall).trans rfl]
                      simp only [Act.put, List.setIfInBounds_toArray, List.set_cons_zero, List.set_cons_succ]
                      have HO := hide o9
                      generalize σ 0 = tt0 at *; generalize σ 1 = tt1 at *; generalize σ 2 = tt2 at *; generalize σ 3 = tt3 at *; generalize σ 4 = tt4 at *; generalize σ 5 = tt5 at *
                      clear hF hG hall hin hout SOF o9 e2 e38
                      go_wp2_with fail
                      refine bodyPost_lt rfl rfl x9 rfl ?_
                      exact HP.out _ B5 d5 z6.out h51 h52 h53 (HBB.out.trans (HO.out.below HBB.out.size (by omega)))
                  · have g5 : (k == 5) = false := by simp; omega
                    by_cases h7 : k = 7
                    · subst h7
                      have HP := hide (show ∀ w' B d, KsIn (Up (UpN S w0.heap.size) (w0.heap.size + 2)) w' B 2 (pad t.kids 2) → 2 ≤ d → d ≤ 9223372036854775807 → (B = none → 2 = 0 ∧ d = 0) → Below w0.heap.size w0 w' → CntPost S t w0 (.returned (.agg #[.int .i64 7, .int .i64 0, .slice B 2 d])) w' from fun w' B d hk h1 h2 h3 hw => ⟨7, 0, B, 2, d, rfl, by rw [cnt_one (m := 2) HK0.out (by decide) (by decide)]; exact DIn.close 7 0 (hk.sub (fun b _ hb9 => hb9.imp (fun q => q.1) (fun q => by omega))) h1 h2 h3, hw⟩)
                      go_enter Try.func34, Try.ntmps34
                      go_upto_region 17 with fail
                      generalize hW : ((w0.alloc (.cells #[.int .i64 7, .int .i64 p, .slice A n c] 24)).alloc (.cells #[.int .i64 0, .int .i64 0, .slice none 0 0] 24)) = W1 at *
                      clear hW cc0 cc1 x0 x1
                      have HFI := hide (fun W (h : Below W1.heap.size W1 W) => first_any (UpN S w0.heap.size) A n c t.kids 2 W (HK.out.keep (Keep.of_below h)) hA hc1 hc2 (by decide) (fun b hb => Nat.lt_of_lt_of_le hb.2 (Nat.le_trans HB.out.size h.size)))
                      unfold FirstPost at HFI
                      have SOF := hide (show ∀ W, Below W1.heap.size W1 W → (W.cell? ⟨w0.heap.size, 0, none⟩ = some (.int .i64 7) ∧ W.cell? ⟨w0.heap.size, 2, none⟩ = some (.slice A n c)) from fun W h => ⟨(HX0.out.next h).cell 0 _ rfl, (HX0.out.next h).cell 2 _ rfl⟩)
                      refine wp_drawnL (by kernel_rfl) (by kernel_rfl) (by kernel_rfl) (by kernel_rfl) (fun w w' => Below w.heap.size w w') (fun j v w => match j with | 0 => v = .pointer (some ⟨w0.heap.size, 0, none⟩) | 1 => v = .int .i64 7 | 2 => v = .pointer (some ⟨w0.heap.size, 2, none⟩) | 3 => v = .slice A n c | 4 => ∃ B d, v = .slice B 2 d ∧ KsIn (Up (UpN S w0.heap.size) (w0.heap.size + 2)) w B 2 (pad t.kids 2) ∧ 2 ≤ d ∧ d ≤ 9223372036854775807 ∧ (B = none → 2 = 0 ∧ d = 0) | 5 => ∃ B d, v = .agg #[.int .i64 7, .int .i64 0, .slice B 2 d] ∧ KsIn (Up (UpN S w0.heap.size) (w0.heap.size + 2)) w B 2 (pad t.kids 2) ∧ 2 ≤ d ∧ d ≤ 9223372036854775807 ∧ (B = none → 2 = 0 ∧ d = 0) | _ => True) (fun _ _ w => Below W1.heap.size W1 w) ?_ (fun _ => bl_drewN W1 1) ?_ ?_
                      · intro j v w w' hT h
                        match j, h with
                        | 0, h => exact h
                        | 1, h => exact h
                        | 2, h => exact h
                        | 3, h => exact h
                        | 4, h => exact (by obtain ⟨B, d, e, hk, h1, h2, h3⟩ := h; exact ⟨B, d, e, hk.keep (Keep.of_below hT), h1, h2, h3⟩)
                        | 5, h => exact (by obtain ⟨B, d, e, hk, h1, h2, h3⟩ := h; exact ⟨B, d, e, hk.keep (Keep.of_below hT), h1, h2, h3⟩)
                        | j + 6, h => trivial
                      · refine ⟨?_, ?_, ?_, ?_, ?_, ?_, trivial⟩
                        · intro listed σ w a hin hout hl hla hs hc hp hG hF
                          refine Guarded.none rfl ?_
                          have e1 : a.tmps.getD 1 undef = .pointer (some ⟨w0.heap.size, 0, none⟩) := hout 1 (outB_spec (by kernel_rfl))
                          refine Does.val (.pointer (some ⟨w0.heap.size, 0, none⟩)) (w' := w) ?_ ⟨Below.refl _ _, rfl, hG⟩
                          simp only [Array.getD_eq_getD_getElem?] at e1
                          go_simp
                        · intro listed σ w a hin hout hl hla hs hc hp hG hF
                          refine Guarded.none rfl ?_
                          have e33 : a.tmps.getD 33 undef = .pointer (some ⟨w0.heap.size, 0, none⟩) := (hin 0 33 rfl (hp ⟨0, .data⟩ (by simp) rfl)).trans (hF 0 (hp ⟨0, .data⟩ (by simp) rfl))
                          have CC := SOF.out w hG; obtain ⟨C0, C2⟩ := CC
                          refine Does.val (.int .i64 7) (w' := w) ?_ ⟨Below.refl _ _, rfl, hG⟩
                          go_simp
                        · intro listed σ w a hin hout hl hla hs hc hp hG hF
                          refine Guarded.none rfl ?_
                          have e1 : a.tmps.getD 1 undef = .pointer (some ⟨w0.heap.size, 0, none⟩) := hout 1 (outB_spec (by kernel_rfl))
                          refine Does.val (.pointer (some ⟨w0.heap.size, 2, none⟩)) (w' := w) ?_ ⟨Below.refl _ _, rfl, hG⟩
                          simp only [Array.getD_eq_getD_getElem?] at e1
                          go_simp
                        · intro listed σ w a hin hout hl hla hs hc hp hG hF
                          refine Guarded.none rfl ?_
                          have e35 : a.tmps.getD 35 undef = .pointer (some ⟨w0.heap.size, 2, none⟩) := (hin 2 35 rfl (hp ⟨2, .data⟩ (by simp) rfl)).trans (hF 2 (hp ⟨2, .data⟩ (by simp) rfl))
                          have CC := SOF.out w hG; obtain ⟨C0, C2⟩ := CC
                          refine Does.val (.slice A n c) (w' := w) ?_ ⟨Below.refl _ _, rfl, hG⟩
                          go_simp
                        · intro listed σ w a hin hout hl hla hs hc hp hG hF
                          refine Guarded.none rfl ?_
                          have e36 : a.tmps.getD 36 undef = .slice A n c := (hin 3 36 rfl (hp ⟨3, .data⟩ (by simp) rfl)).trans (hF 3 (hp ⟨3, .data⟩ (by simp) rfl))
                          refine Does.call ?_ (HFI.out w hG) ?_
                          · go_simp
                          · rintro e w' ⟨B, d, rfl, hk, h1, h2, h3, hb⟩
                            exact ⟨_, rfl, hb, ⟨B, d, rfl, hk.sub (fun b _ hb9 => hb9.imp id (fun q => Nat.le_trans (HM.out ▸ hG.size) q)), h1, h2, h3⟩, hG.next hb⟩
                        · intro listed σ w a hin hout hl hla hs hc hp hG hF
                          refine Guarded.none rfl ?_
                          have e34 : a.tmps.getD 34 undef = .int .i64 7 := (hin 1 34 rfl (hp ⟨1, .data⟩ (by simp) rfl)).trans (hF 1 (hp ⟨1, .data⟩ (by simp) rfl))
                          have e37 := hin 4 37 rfl (hp ⟨4, .data⟩ (by simp) rfl)
                          obtain ⟨B4, d4, ev4, z4, h41, h42, h43⟩ := hF 4 (hp ⟨4, .data⟩ (by simp) rfl)
                          rw [ev4] at e37
                          refine Does.val (.agg #[.int .i64 7, .int .i64 0, .slice B4 2 d4]) (w' := w) ?_ ⟨Below.refl _ _, ⟨B4, d4, rfl, z4, h41, h42, h43⟩, hG⟩
                          simp only [Array.getD_eq_getD_getElem?] at e34 e37
                          go_simp
                      · intro o ho
                        injection ho with ho; subst ho
                        intro listed σ w a hall hin hout hG hF
                        refine Guarded.none rfl ?_
                        have e2 : a.tmps.getD 2 undef = .pointer (some ⟨w0.heap.size + 1, 0, none⟩) := hout 2 (outL (by kernel_rfl))
                        have e38 := hin 5 38 rfl (by decide)
                        obtain ⟨B5, d5, ev5, z5, h51, h52, h53⟩ := hF 5 (by decide)
                        rw [ev5] at e38
                        have HBX := hide (HX1.out.next hG)
                        have HBB := hide (HB.out.next hG)
                        refine Does.store_box (T := 24) (cells := #[.int .i64 7, .int .i64 0, .slice B5 2 d5]) rfl e2 e38 HBX.out (by kernel_rfl) rfl (by simp [Value.oneCell']) (fun w2 x9 o9 => ?_)
                        have z6 := hide (z5.keep (Keep.of_only o9 (fun hh => by rcases hh with ⟨-, hh⟩ | hh <;> omega)))
                        rw [show fin _ σ undef _ = (Act.put (Act.put (Act.put (Act.put (Act.put (Act.put (Act.put _ (some 33) (σ 0)) (some 34) (σ 1)) (some 35) (σ 2)) (some 36) (σ 3)) (some 37) (σ 4)) (some 38) (σ 5)) none undef) from (fin_all hall).trans rfl]
                        simp only [Act.put, List.setIfInBounds_toArray, List.set_cons_zero, List.set_cons_succ]
                        have HO := hide o9
                        generalize σ 0 = tt0 at *; generalize σ 1 = tt1 at *; generalize σ 2 = tt2 at *; generalize σ 3 = tt3 at *; generalize σ 4 = tt4 at *; generalize σ 5 = tt5 at *
                        clear hF hG hall hin hout SOF o9 e2 e38
                        go_wp2_with fail
                        refine bodyPost_lt rfl rfl x9 rfl ?_
                        exact HP.out _ B5 d5 z6.out h51 h52 h53 (HBB.out.trans (HO.out.below HBB.out.size (by omega)))
                    · have g7 : (k == 7) = false := by simp; omega
                      by_cases h11 : k = 11
                      · subst h11
                        have HP := hide (show ∀ w' B d, KsIn (Up (UpN S w0.heap.size) (w0.heap.size + 2)) w' B 2 (pad t.kids 2) → 2 ≤ d → d ≤ 9223372036854775807 → (B = none → 2 = 0 ∧ d = 0) → Below w0.heap.size w0 w' → CntPost S t w0 (.returned (.agg #[.int .i64 11, .int .i64 0, .slice B 2 d])) w' from fun w' B d hk h1 h2 h3 hw => ⟨11, 0, B, 2, d, rfl, by rw [cnt_one (m := 2) HK0.out (by decide) (by decide)]; exact DIn.close 11 0 (hk.sub (fun b _ hb9 => hb9.imp (fun q => q.1) (fun q => by omega))) h1 h2 h3, hw⟩)
                        go_enter Try.func34, Try.ntmps34
                        go_upto_region 17 with fail
                        generalize hW : ((w0.alloc (.cells #[.int .i64 11, .int .i64 p, .slice A n c] 24)).alloc (.cells #[.int .i64 0, .int .i64 0, .slice none 0 0] 24)) = W1 at *
                        clear hW cc0 cc1 x0 x1
                        have HFI := hide (fun W (h : Below W1.heap.size W1 W) => first_any (UpN S w0.heap.size) A n c t.kids 2 W (HK.out.keep (Keep.of_below h)) hA hc1 hc2 (by decide) (fun b hb => Nat.lt_of_lt_of_le hb.2 (Nat.le_trans HB.out.size h.size)))
                        unfold FirstPost at HFI
                        have SOF := hide (show ∀ W, Below W1.heap.size W1 W → (W.cell? ⟨w0.heap.size, 0, none⟩ = some (.int .i64 11) ∧ W.cell? ⟨w0.heap.size, 2, none⟩ = some (.slice A n c)) from fun W h => ⟨(HX0.out.next h).cell 0 _ rfl, (HX0.out.next h).cell 2 _ rfl⟩)
                        refine wp_drawnL (by kernel_rfl) (by kernel_rfl) (by kernel_rfl) (by kernel_rfl) (fun w w' => Below w.heap.size w w') (fun j v w => match j with | 0 => v = .pointer (some ⟨w0.heap.size, 0, none⟩) | 1 => v = .int .i64 11 | 2 => v = .pointer (some ⟨w0.heap.size, 2, none⟩) | 3 => v = .slice A n c | 4 => ∃ B d, v = .slice B 2 d ∧ KsIn (Up (UpN S w0.heap.size) (w0.heap.size + 2)) w B 2 (pad t.kids 2) ∧ 2 ≤ d ∧ d ≤ 9223372036854775807 ∧ (B = none → 2 = 0 ∧ d = 0) | 5 => ∃ B d, v = .agg #[.int .i64 11, .int .i64 0, .slice B 2 d] ∧ KsIn (Up (UpN S w0.heap.size) (w0.heap.size + 2)) w B 2 (pad t.kids 2) ∧ 2 ≤ d ∧ d ≤ 9223372036854775807 ∧ (B = none → 2 = 0 ∧ d = 0) | _ => True) (fun _ _ w => Below W1.heap.size W1 w) ?_ (fun _ => bl_drewN W1 1) ?_ ?_
                        · intro j v w w' hT h
                          match j, h with
                          | 0, h => exact h
                          | 1, h => exact h
                          | 2, h => exact h
                          | 3, h => exact h
                          | 4, h => exact (by obtain ⟨B, d, e, hk, h1, h2, h3⟩ := h; exact ⟨B, d, e, hk.keep (Keep.of_below hT), h1, h2, h3⟩)
                          | 5, h => exact (by obtain ⟨B, d, e, hk, h1, h2, h3⟩ := h; exact ⟨B, d, e, hk.keep (Keep.of_below hT), h1, h2, h3⟩)
                          | j + 6, h => trivial
                        · refine ⟨?_, ?_, ?_, ?_, ?_, ?_, trivial⟩
                          · intro listed σ w a hin hout hl hla hs hc hp hG hF
                            refine Guarded.none rfl ?_
                            have e1 : a.tmps.getD 1 undef = .pointer (some ⟨w0.heap.size, 0, none⟩) := hout 1 (outB_spec (by kernel_rfl))
                            refine Does.val (.pointer (some ⟨w0.heap.size, 0, none⟩)) (w' := w) ?_ ⟨Below.refl _ _, rfl, hG⟩
                            simp only [Array.getD_eq_getD_getElem?] at e1
                            go_simp
                          · intro listed σ w a hin hout hl hla hs hc hp hG hF
                            refine Guarded.none rfl ?_
                            have e33 : a.tmps.getD 33 undef = .pointer (some ⟨w0.heap.size, 0, none⟩) := (hin 0 33 rfl (hp ⟨0, .data⟩ (by simp) rfl)).trans (hF 0 (hp ⟨0, .data⟩ (by simp) rfl))
                            have CC := SOF.out w hG; obtain ⟨C0, C2⟩ := CC
                            refine Does.val (.int .i64 11) (w' := w) ?_ ⟨Below.refl _ _, rfl, hG⟩
                            go_simp
                          · intro listed σ w a hin hout hl hla hs hc hp hG hF
                            refine Guarded.none rfl ?_
                            have e1 : a.tmps.getD 1 undef = .pointer (some ⟨w0.heap.size, 0, none⟩) := hout 1 (outB_spec (by kernel_rfl))
                            refine Does.val (.pointer (some ⟨w0.heap.size, 2, none⟩)) (w' := w) ?_ ⟨Below.refl _ _, rfl, hG⟩
                            simp only [Array.getD_eq_getD_getElem?] at e1
                            go_simp
                          · intro listed σ w a hin hout hl hla hs hc hp hG hF
                            refine Guarded.none rfl ?_
                            have e35 : a.tmps.getD 35 undef = .pointer (some ⟨w0.heap.size, 2, none⟩) := (hin 2 35 rfl (hp ⟨2, .data⟩ (by simp) rfl)).trans (hF 2 (hp ⟨2, .data⟩ (by simp) rfl))
                            have CC := SOF.out w hG; obtain ⟨C0, C2⟩ := CC
                            refine Does.val (.slice A n c) (w' := w) ?_ ⟨Below.refl _ _, rfl, hG⟩
                            go_simp
                          · intro listed σ w a hin hout hl hla hs hc hp hG hF
                            refine Guarded.none rfl ?_
                            have e36 : a.tmps.getD 36 undef = .slice A n c := (hin 3 36 rfl (hp ⟨3, .data⟩ (by simp) rfl)).trans (hF 3 (hp ⟨3, .data⟩ (by simp) rfl))
                            refine Does.call ?_ (HFI.out w hG) ?_
                            · go_simp
                            · rintro e w' ⟨B, d, rfl, hk, h1, h2, h3, hb⟩
                              exact ⟨_, rfl, hb, ⟨B, d, rfl, hk.sub (fun b _ hb9 => hb9.imp id (fun q => Nat.le_trans (HM.out ▸ hG.size) q)), h1, h2, h3⟩, hG.next hb⟩
                          · intro listed σ w a hin hout hl hla hs hc hp hG hF
                            refine Guarded.none rfl ?_
                            have e34 : a.tmps.getD 34 undef = .int .i64 11 := (hin 1 34 rfl (hp ⟨1, .data⟩ (by simp) rfl)).trans (hF 1 (hp ⟨1, .data⟩ (by simp) rfl))
                            have e37 := hin 4 37 rfl (hp ⟨4, .data⟩ (by simp) rfl)
                            obtain ⟨B4, d4, ev4, z4, h41, h42, h43⟩ := hF 4 (hp ⟨4, .data⟩ (by simp) rfl)
                            rw [ev4] at e37
                            refine Does.val (.agg #[.int .i64 11, .int .i64 0, .slice B4 2 d4]) (w' := w) ?_ ⟨Below.refl _ _, ⟨B4, d4, rfl, z4, h41, h42, h43⟩, hG⟩
                            simp only [Array.getD_eq_getD_getElem?] at e34 e37
                            go_simp
                        · intro o ho
                          injection ho with ho; subst ho
                          intro listed σ w a hall hin hout hG hF
                          refine Guarded.none rfl ?_
                          have e2 : a.tmps.getD 2 undef = .pointer (some ⟨w0.heap.size + 1, 0, none⟩) := hout 2 (outL (by kernel_rfl))
                          have e38 := hin 5 38 rfl (by decide)
                          obtain ⟨B5, d5, ev5, z5, h51, h52, h53⟩ := hF 5 (by decide)
                          rw [ev5] at e38
                          have HBX := hide (HX1.out.next hG)
                          have HBB := hide (HB.out.next hG)
                          refine Does.store_box (T := 24) (cells := #[.int .i64 11, .int .i64 0, .slice B5 2 d5]) rfl e2 e38 HBX.out (by kernel_rfl) rfl (by simp [Value.oneCell']) (fun w2 x9 o9 => ?_)
                          have z6 := hide (z5.keep (Keep.of_only o9 (fun hh => by rcases hh with ⟨-, hh⟩ | hh <;> omega)))
                          rw [show fin _ σ undef _ = (Act.put (Act.put (Act.put (Act.put (Act.put (Act.put (Act.put _ (some 33) (σ 0)) (some 34) (σ 1)) (some 35) (σ 2)) (some 36) (σ 3)) (some 37) (σ 4)) (some 38) (σ 5)) none undef) from (fin_all hall).trans rfl]
                          simp only [Act.put, List.setIfInBounds_toArray, List.set_cons_zero, List.set_cons_succ]
                          have HO := hide o9
                          generalize σ 0 = tt0 at *; generalize σ 1 = tt1 at *; generalize σ 2 = tt2 at *; generalize σ 3 = tt3 at *; generalize σ 4 = tt4 at *; generalize σ 5 = tt5 at *
                          clear hF hG hall hin hout SOF o9 e2 e38
                          go_wp2_with fail
                          refine bodyPost_lt rfl rfl x9 rfl ?_
                          exact HP.out _ B5 d5 z6.out h51 h52 h53 (HBB.out.trans (HO.out.below HBB.out.size (by omega)))
                      · have g11 : (k == 11) = false := by simp; omega
                        by_cases h12 : k = 12
                        · subst h12
                          have HP := hide (show ∀ w' B d, KsIn (Up (UpN S w0.heap.size) (w0.heap.size + 2)) w' B 2 (pad t.kids 2) → 2 ≤ d → d ≤ 9223372036854775807 → (B = none → 2 = 0 ∧ d = 0) → Below w0.heap.size w0 w' → CntPost S t w0 (.returned (.agg #[.int .i64 12, .int .i64 0, .slice B 2 d])) w' from fun w' B d hk h1 h2 h3 hw => ⟨12, 0, B, 2, d, rfl, by rw [cnt_one (m := 2) HK0.out (by decide) (by decide)]; exact DIn.close 12 0 (hk.sub (fun b _ hb9 => hb9.imp (fun q => q.1) (fun q => by omega))) h1 h2 h3, hw⟩)
                          go_enter Try.func34, Try.ntmps34
                          go_upto_region 17 with fail
                          generalize hW : ((w0.alloc (.cells #[.int .i64 12, .int .i64 p, .slice A n c] 24)).alloc (.cells #[.int .i64 0, .int .i64 0, .slice none 0 0] 24)) = W1 at *
                          clear hW cc0 cc1 x0 x1
                          have HFI := hide (fun W (h : Below W1.heap.size W1 W) => first_any (UpN S w0.heap.size) A n c t.kids 2 W (HK.out.keep (Keep.of_below h)) hA hc1 hc2 (by decide) (fun b hb => Nat.lt_of_lt_of_le hb.2 (Nat.le_trans HB.out.size h.size)))
                          unfold FirstPost at HFI
                          have SOF := hide (show ∀ W, Below W1.heap.size W1 W → (W.cell? ⟨w0.heap.size, 0, none⟩ = some (.int .i64 12) ∧ W.cell? ⟨w0.heap.size, 2, none⟩ = some (.slice A n c)) from fun W h => ⟨(HX0.out.next h).cell 0 _ rfl, (HX0.out.next h).cell 2 _ rfl⟩)
                          refine wp_drawnL (by kernel_rfl) (by kernel_rfl) (by kernel_rfl) (by kernel_rfl) (fun w w' => Below w.heap.size w w') (fun j v w => match j with | 0 => v = .pointer (some ⟨w0.heap.size, 0, none⟩) | 1 => v = .int .i64 12 | 2 => v = .pointer (some ⟨w0.heap.size, 2, none⟩) | 3 => v = .slice A n c | 4 => ∃ B d, v = .slice B 2 d ∧ KsIn (Up (UpN S w0.heap.size) (w0.heap.size + 2)) w B 2 (pad t.kids 2) ∧ 2 ≤ d ∧ d ≤ 9223372036854775807 ∧ (B = none → 2 = 0 ∧ d = 0) | 5 => ∃ B d, v = .agg #[.int .i64 12, .int .i64 0, .slice B 2 d] ∧ KsIn (Up (UpN S w0.heap.size) (w0.heap.size + 2)) w B 2 (pad t.kids 2) ∧ 2 ≤ d ∧ d ≤ 9223372036854775807 ∧ (B = none → 2 = 0 ∧ d = 0) | _ => True) (fun _ _ w => Below W1.heap.size W1 w) ?_ (fun _ => bl_drewN W1 1) ?_ ?_
                          · intro j v w w' hT h
                            match j, h with
                            | 0, h => exact h
                            | 1, h => exact h
                            | 2, h => exact h
                            | 3, h => exact h
                            | 4, h => exact (by obtain ⟨B, d, e, hk, h1, h2, h3⟩ := h; exact ⟨B, d, e, hk.keep (Keep.of_below hT), h1, h2, h3⟩)
                            | 5, h => exact (by obtain ⟨B, d, e, hk, h1, h2, h3⟩ := h; exact ⟨B, d, e, hk.keep (Keep.of_below hT), h1, h2, h3⟩)
                            | j + 6, h => trivial
                          · refine ⟨?_, ?_, ?_, ?_, ?_, ?_, trivial⟩
                            · intro listed σ w a hin hout hl hla hs hc hp hG hF
                              refine Guarded.none rfl ?_
                              have e1 : a.tmps.getD 1 undef = .pointer (some ⟨w0.heap.size, 0, none⟩) := hout 1 (outB_spec (by kernel_rfl))
                              refine Does.val (.pointer (some ⟨w0.heap.size, 0, none⟩)) (w' := w) ?_ ⟨Below.refl _ _, rfl, hG⟩
                              simp only [Array.getD_eq_getD_getElem?] at e1
                              go_simp
                            · intro listed σ w a hin hout hl hla hs hc hp hG hF
                              refine Guarded.none rfl ?_
                              have e33 : a.tmps.getD 33 undef = .pointer (some ⟨w0.heap.size, 0, none⟩) := (hin 0 33 rfl (hp ⟨0, .data⟩ (by simp) rfl)).trans (hF 0 (hp ⟨0, .data⟩ (by simp) rfl))
                              have CC := SOF.out w hG; obtain ⟨C0, C2⟩ := CC
                              refine Does.val (.int .i64 12) (w' := w) ?_ ⟨Below.refl _ _, rfl, hG⟩
                              go_simp
                            · intro listed σ w a hin hout hl hla hs hc hp hG hF
                              refine Guarded.none rfl ?_
                              have e1 : a.tmps.getD 1 undef = .pointer (some ⟨w0.heap.size, 0, none⟩) := hout 1 (outB_spec (by kernel_rfl))
                              refine Does.val (.pointer (some ⟨w0.heap.size, 2, none⟩)) (w' := w) ?_ ⟨Below.refl _ _, rfl, hG⟩
                              simp only [Array.getD_eq_getD_getElem?] at e1
                              go_simp
                            · intro listed σ w a hin hout hl hla hs hc hp hG hF
                              refine Guarded.none rfl ?_
                              have e35 : a.tmps.getD 35 undef = .pointer (some ⟨w0.heap.size, 2, none⟩) := (hin 2 35 rfl (hp ⟨2, .data⟩ (by simp) rfl)).trans (hF 2 (hp ⟨2, .data⟩ (by simp) rfl))
                              have CC := SOF.out w hG; obtain ⟨C0, C2⟩ := CC
                              refine Does.val (.slice A n c) (w' := w) ?_ ⟨Below.refl _ _, rfl, hG⟩
                              go_simp
                            · intro listed σ w a hin hout hl hla hs hc hp hG hF
                              refine Guarded.none rfl ?_
                              have e36 : a.tmps.getD 36 undef = .slice A n c := (hin 3 36 rfl (hp ⟨3, .data⟩ (by simp) rfl)).trans (hF 3 (hp ⟨3, .data⟩ (by simp) rfl))
                              refine Does.call ?_ (HFI.out w hG) ?_
                              · go_simp
                              · rintro e w' ⟨B, d, rfl, hk, h1, h2, h3, hb⟩
                                exact ⟨_, rfl, hb, ⟨B, d, rfl, hk.sub (fun b _ hb9 => hb9.imp id (fun q => Nat.le_trans (HM.out ▸ hG.size) q)), h1, h2, h3⟩, hG.next hb⟩
                            · intro listed σ w a hin hout hl hla hs hc hp hG hF
                              refine Guarded.none rfl ?_
                              have e34 : a.tmps.getD 34 undef = .int .i64 12 := (hin 1 34 rfl (hp ⟨1, .data⟩ (by simp) rfl)).trans (hF 1 (hp ⟨1, .data⟩ (by simp) rfl))
                              have e37 := hin 4 37 rfl (hp ⟨4, .data⟩ (by simp) rfl)
                              obtain ⟨B4, d4, ev4, z4, h41, h42, h43⟩ := hF 4 (hp ⟨4, .data⟩ (by simp) rfl)
                              rw [ev4] at e37
                              refine Does.val (.agg #[.int .i64 12, .int .i64 0, .slice B4 2 d4]) (w' := w) ?_ ⟨Below.refl _ _, ⟨B4, d4, rfl, z4, h41, h42, h43⟩, hG⟩
                              simp only [Array.getD_eq_getD_getElem?] at e34 e37
                              go_simp
                          · intro o ho
                            injection ho with ho; subst ho
                            intro listed σ w a hall hin hout hG hF
                            refine Guarded.none rfl ?_
                            have e2 : a.tmps.getD 2 undef = .pointer (some ⟨w0.heap.size + 1, 0, none⟩) := hout 2 (outL (by kernel_rfl))
                            have e38 := hin 5 38 rfl (by decide)
                            obtain ⟨B5, d5, ev5, z5, h51, h52, h53⟩ := hF 5 (by decide)
                            rw [ev5] at e38
                            have HBX := hide (HX1.out.next hG)
                            have HBB := hide (HB.out.next hG)
                            refine Does.store_box (T := 24) (cells := #[.int .i64 12, .int .i64 0, .slice B5 2 d5]) rfl e2 e38 HBX.out (by kernel_rfl) rfl (by simp [Value.oneCell']) (fun w2 x9 o9 => ?_)
                            have z6 := hide (z5.keep (Keep.of_only o9 (fun hh => by rcases hh with ⟨-, hh⟩ | hh <;> omega)))
                            rw [show fin _ σ undef _ = (Act.put (Act.put (Act.put (Act.put (Act.put (Act.put (Act.put _ (some 33) (σ 0)) (some 34) (σ 1)) (some 35) (σ 2)) (some 36) (σ 3)) (some 37) (σ 4)) (some 38) (σ 5)) none undef) from (fin_all hall).trans rfl]
                            simp only [Act.put, List.setIfInBounds_toArray, List.set_cons_zero, List.set_cons_succ]
                            have HO := hide o9
                            generalize σ 0 = tt0 at *; generalize σ 1 = tt1 at *; generalize σ 2 = tt2 at *; generalize σ 3 = tt3 at *; generalize σ 4 = tt4 at *; generalize σ 5 = tt5 at *
                            clear hF hG hall hin hout SOF o9 e2 e38
                            go_wp2_with fail
                            refine bodyPost_lt rfl rfl x9 rfl ?_
                            exact HP.out _ B5 d5 z6.out h51 h52 h53 (HBB.out.trans (HO.out.below HBB.out.size (by omega)))
                        · have g12 : (k == 12) = false := by simp; omega
                          have HE := hide (show cnt t = lff from cnt_other HK0.out h0 h1 h2 (arity_none h3 h8 h9 h10 h4 h5 h7 h11 h12))
                          clear h0 h1 h2 h3 h8 h9 h10 h4 h5 h7 h11 h12
                          go_enter Try.func34, Try.ntmps34
                          go_wp2_with fail
                          refine (constant_any false _).mono ?_
                          rintro e w2 ⟨rfl, b2⟩
                          have y1 := x1.next b2
                          have HB2 := hide (HB.out.next b2)
                          clear b2
                          go_wp2_with (with_reducible refine wpList_store_box rfl 24 _ _ rfl (w0.heap.size + 1) #[.int .i64 1, .int .i64 0, .slice none 0 0] rfl rfl _ y1 (by kernel_rfl) rfl (by simp [Value.oneCell']) ?_; intro w3 k3 ho3)
                          refine bodyPost_lt rfl rfl k3 rfl ?_
                          exact HL.out _ 1 0 (by rw [HE.out]; rfl) (HB2.out.trans (ho3.below HB2.out.size (by omega)))
end Go.Proofs.Ytljocjjdfgpbaaa
