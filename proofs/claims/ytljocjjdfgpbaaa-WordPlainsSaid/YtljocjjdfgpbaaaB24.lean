/- Texts of one seat, put together: WordV. -/
import Derived.Test.YtljocjjdfgpbaaaB19
set_option linter.unusedVariables false
/- word.Plain: the walk. -/
namespace Go.Proofs.Ytljocjjdfgpbaaa
open Go.RowKit
open Wo

set_option maxRecDepth 100000 in
set_option maxHeartbeats 16000000 in
theorem wplain_any (Z : Nat) : ∀ (S : Nat → Prop) (t : LT) (k p : Int) (A : Option Addr) (n c : Nat) (d : Bool) (w0 : World), (norm t).size ≤ Z → DIn S w0 t (c3 k p A n c) →
    Calls Try.prog 20 #[.agg #[.int .i64 k, .int .i64 p, .slice A n c], .bool d] w0 (PlainPost S (plain (norm t) d) w0) := by
  induction Z with
  | zero => intro S t k p A n c d w0 hz; have := (norm t).size_pos; omega
  | succ Z ih =>
    intro S t k p A n c d w0 hz hd
    obtain ⟨x2, x4, hb, hbz⟩ := bstart2 24 24 w0 #[.int .i64 k, .int .i64 p, .slice A n c] #[.int .i64 0, .int .i64 0, .slice none 0 0]
    have cc0 := x2.cell 0 _ rfl
    have cc1 := x2.cell 1 _ rfl
    have cc2 := x2.cell 2 _ rfl
    have X2 := hide x2
    have X4 := hide x4
    have HB := hide hb
    have HM := hide hbz
    have HCN := hide (counted_any (UpN S w0.heap.size) t k p A n c _ ((hd.sub (fun b hlt hs => (⟨hs, hlt⟩ : UpN S w0.heap.size b))).keep (Keep.of_below hb)))
    have HPO := hide (show ∀ w' k q A n c, DIn (Up (UpN S w0.heap.size) (w0.heap.size + 2)) w' (tree (plain (norm t) d)) (c3 k q A n c) → Below w0.heap.size w0 w' → PlainPost S (plain (norm t) d) w0 (.returned (.agg #[.int .i64 k, .int .i64 q, .slice A n c])) w' from fun w' k q A n c h1 h2 => ⟨k, q, A, n, c, rfl, h1.sub (fun b _ h => h.imp (fun h => h.1) (fun h => by omega)), h2⟩)
    clear hb hbz hd
    go_enter Try.func20, Try.ntmps20
    go_wp2_with fail
    generalize hW : (w0.alloc (.cells #[.int .i64 k, .int .i64 p, .slice A n c] 24)).alloc (.cells #[.int .i64 0, .int .i64 0, .slice none 0 0] 24) = W1 at *
    clear hW cc0 cc1 cc2 x4
    refine HCN.out.mono ?_
    rintro e w2 ⟨k2, p2, A2, n2, c2, rfl, hd2, b2⟩
    rw [HM.out] at hd2
    have x2 := X2.out.next b2
    have X4 := hide (X4.out.next b2)
    have HD := hide hd2
    have HB := hide (HB.out.next b2)
    clear hd2 b2 HCN X2
    go_upto_region 2 with (with_reducible refine wpList_store_box rfl 24 _ _ rfl (w0.heap.size) #[.int .i64 k2, .int .i64 p2, .slice A2 n2 c2] rfl rfl _ x2 (by kernel_rfl) rfl (by simp [Value.oneCell']) ?_; intro w3 k3 ho3)
    have hnS : ∀ g, g ≤ w0.heap.size + 1 → ¬ Up (UpN S w0.heap.size) (w0.heap.size + 2) g ∨ g < w0.heap.size := fun g hg => by
      rcases Nat.lt_or_ge g w0.heap.size with h | h
      · exact .inr h
      · exact .inl (fun hs => by rcases hs with ⟨-, hs⟩ | hs <;> omega)
    have HD3 := hide (HD.out.keep (Keep.of_only ho3 (fun h => by rcases h with ⟨-, h⟩ | h <;> omega)))
    have X4 := hide (X4.out.other ho3 (by omega))
    have HB := hide (HB.out.trans (ho3.below HB.out.size (Nat.le_refl _)))
    have X2 := hide k3
    have d0 := k3.cell 0 _ rfl
    obtain ⟨hk2, hp2, hks, hc21, hc22, hA2⟩ := HD3.out.parts
    have HKS := hide hks
    have HP2 := hide hp2
    have HK2 := hide hk2
    have d1 := k3.cell 1 _ rfl
    have d2 := k3.cell 2 _ rfl
    have HSZ := hide (show w0.heap.size + 2 ≤ w3.heap.size from by have := X4.out.lt; omega)
    clear hk2 hp2 hks k3 ho3 x2 HD hnS
    go_upto_block 0 with fail
    go_cut [] (fun wx => ∃ (kk : Nat) (f : LT) (p5 : Int) (A5 : Option Addr) (n5 c5 : Nat), Hid (Ready Z (plain (norm t) d) d f kk) ∧ Hid (DIn (Up (UpN S w0.heap.size) (w0.heap.size + 2)) wx f (c3 (kk : Int) p5 A5 n5 c5)) ∧ Hid (Box 24 wx w0.heap.size #[.int .i64 (kk : Int), .int .i64 p5, .slice A5 n5 c5]) ∧ Hid (Box 24 wx (w0.heap.size + 1) #[.int .i64 0, .int .i64 0, .slice none 0 0]) ∧ Hid (Below w0.heap.size w0 wx))
    case first =>
      by_cases h2 : k2 = 2
      · subst h2
        have HN := hide (show norm t = .cmp p2 from by rw [← norm_cnt t, norm_k2 (cnt t) HK2.out.symm, HP2.out])
        have HKL := hide (show cnt t = .mk 2 p2 [] from by rw [HP2.out]; exact cnt_two HK2.out.symm)
        have x4 := X4.out
        cases d
        · go_wp2_with (with_reducible refine wpList_store_box rfl 24 _ _ rfl (w0.heap.size + 1) #[.int .i64 2, .int .i64 p2, .slice A2 n2 c2] rfl rfl _ x4 (by kernel_rfl) rfl (by simp [Value.oneCell']) ?_; intro w9 k9 ho9)
          refine bodyPost_lt rfl rfl k9 rfl ?_
          refine HPO.out _ _ _ _ _ _ ?_ (HB.out.trans (ho9.below HB.out.size (by omega)))
          rw [HN.out]
          have := HD3.out.keep (Keep.of_only ho9 (fun h => by rcases h with ⟨-, h⟩ | h <;> omega))
          rw [HKL.out] at this
          exact this
        · have HOF := hide (fun k A n c W => of_any k A n c W)
          go_wp2_with fail
          refine (HOF.out _ _ _ _ _).mono ?_
          rintro e w5 ⟨rfl, b5⟩
          have x5 := (X4.out.next (bl_alloc _ _)).next b5
          have HK1 := hide ((kids_new1 HD3.out HSZ.out).keep (Keep.of_below b5))
          have HB5 := hide ((HB.out.next (bl_alloc _ _)).next b5)
          clear b5 HOF
          go_wp2_with (with_reducible refine wpList_store_box rfl 24 _ _ rfl (w0.heap.size + 1) #[.int .i64 3, .int .i64 0, .slice (some ⟨w3.heap.size, 0, none⟩) 1 1] rfl rfl _ x5 (by kernel_rfl) rfl (by simp [Value.oneCell']) ?_; intro w9 k9 ho9)
          refine bodyPost_lt rfl rfl k9 rfl ?_
          refine HPO.out _ _ _ _ _ _ ?_ (HB5.out.trans (ho9.below HB5.out.size (by omega)))
          rw [HN.out]
          have h1 := HK1.out.keep (Keep.of_only ho9 (fun h => by rcases h with ⟨-, h⟩ | h <;> omega))
          rw [HKL.out] at h1
          exact DIn.close 3 0 h1 (by omega) (by omega) (fun h => by cases h)
      · by_cases h3 : k2 = 3
        · subst h3
          have hn1 : n2 = 1 := by
            rcases cnt_kinds t with ⟨h, -⟩ | ⟨h, -⟩ | ⟨h, -⟩ | ⟨-, h⟩
            · have := HK2.out; omega
            · have := HK2.out; omega
            · have := HK2.out; omega
            · rw [← HK2.out, HKS.out.1] at h; exact h
          subst hn1
          obtain ⟨be, oe, tk, k9, p9, A9, n9, c9, rfl, hlt, hkid, hdk, e0, e1, e2⟩ := HKS.out.at_ (j := 0) (by omega)
          simp only [Nat.zero_mul, Nat.add_zero] at e0 e1 e2
          have hkd : (cnt t).kid 0 = tk := by unfold LT.kid; rw [List.getD_eq_getElem?_getD, hkid]; rfl
          have hnn : norm t = .una 3 (norm tk) := by rw [← norm_cnt t, norm_one (k := 3) HK2.out.symm (by rw [← HK2.out]; decide), hkd]
          have HN := hide (show plain (norm t) d = plain (norm tk) (!d) from by rw [hnn]; simp [plain])
          have HIH := hide (ih _ tk k9 p9 A9 n9 c9 (!d) w3 (by rw [hnn, Pr.size] at hz; omega) hdk)
          have x4 := X4.out
          clear hkid hdk hkd hnn
          go_wp2_with fail
          refine HIH.out.mono ?_
          rintro e w5 ⟨k, q, A, n, c, rfl, hd5, b5⟩
          have x5 := X4.out.next b5
          have HB5 := hide (HB.out.next b5)
          have HD5 := hide (hd5.sub (fun b _ h => (h.elim id (fun h => .inr (Nat.le_trans HSZ.out h)) : Up (UpN S w0.heap.size) (w0.heap.size + 2) b)))
          clear hd5 b5 e0 e1 e2 x4
          go_wp2_with (with_reducible refine wpList_store_box rfl 24 _ _ rfl (w0.heap.size + 1) #[.int .i64 k, .int .i64 q, .slice A n c] rfl rfl _ x5 (by kernel_rfl) rfl (by simp [Value.oneCell']) ?_; intro w9 k9 ho9)
          refine bodyPost_lt rfl rfl k9 rfl ?_
          refine HPO.out _ _ _ _ _ _ ?_ (HB5.out.trans (ho9.below HB5.out.size (by omega)))
          rw [HN.out]
          exact HD5.out.keep (Keep.of_only ho9 (fun h => by rcases h with ⟨-, h⟩ | h <;> omega))
        · have HMEET := hide (show ∀ kk : Nat, k2 = (kk : Int) → Ready Z (plain (norm (cnt t)) d) d (cnt t) kk → ∃ (kk : Nat) (f : LT) (p5 : Int) (A5 : Option Addr) (n5 c5 : Nat), Hid (Ready Z (plain (norm t) d) d f kk) ∧ Hid (DIn (Up (UpN S w0.heap.size) (w0.heap.size + 2)) w3 f (c3 (kk : Int) p5 A5 n5 c5)) ∧ Hid (Box 24 w3 w0.heap.size #[.int .i64 (kk : Int), .int .i64 p5, .slice A5 n5 c5]) ∧ Hid (Box 24 w3 (w0.heap.size + 1) #[.int .i64 0, .int .i64 0, .slice none 0 0]) ∧ Hid (Below w0.heap.size w0 w3) from fun kk hk h => by
            rw [norm_cnt] at h
            subst hk
            exact ⟨kk, cnt t, p2, A2, n2, c2, hide h, HD3, X2, X4, HB⟩)
          have hz' : (norm (cnt t)).size ≤ Z + 1 := by rw [norm_cnt]; exact hz
          have HLEN := hide (show 0 < arity k2 → (cnt t).kids.length = arity k2 from fun h => by
            rcases cnt_kinds t with ⟨h1, -⟩ | ⟨h1, -⟩ | ⟨h1, -⟩ | ⟨-, h1⟩
            · rw [HK2.out, h1] at h; exact absurd h (by decide)
            · rw [HK2.out, h1] at h; exact absurd h (by decide)
            · rw [HK2.out, h1] at h; exact absurd h (by decide)
            · rw [HK2.out]; exact h1)
          have HNIL := hide (show k2 = 0 ∨ k2 = 1 → (cnt t).kids = [] from fun h => by
            rcases cnt_kinds t with ⟨-, h1⟩ | ⟨-, h1⟩ | ⟨-, h1⟩ | ⟨h1, -⟩
            · exact h1
            · exact h1
            · exact h1
            · rw [← HK2.out] at h1; rcases h with rfl | rfl <;> exact absurd h1 (by decide))
          have HALL := hide (show k2 = 0 ∨ k2 = 1 ∨ k2 = 8 ∨ k2 = 4 ∨ k2 = 5 ∨ k2 = 11 ∨ k2 = 12 ∨ k2 = 7 ∨ k2 = 9 ∨ k2 = 10 from by
            rcases cnt_kinds t with ⟨h1, -⟩ | ⟨h1, -⟩ | ⟨h1, -⟩ | ⟨h1, -⟩
            · have := HK2.out; omega
            · have := HK2.out; omega
            · have := HK2.out; omega
            · rw [← HK2.out] at h1
              by_cases ha : arity k2 = 1
              · have := arity_one ha; omega
              · have := arity_two (k := k2) (by have := arity_le k2; omega); omega)
          clear h2 h3
          rcases HALL.out with rfl | rfl | rfl | rfl | rfl | rfl | rfl | rfl | rfl | rfl
          · have HREL := hide (HMEET.out 0 rfl (ready_leaf Z (cnt t) d 0 HK2.out.symm (.inl rfl) (HNIL.out (.inl rfl))))
            clear HMEET
            go_wp2_with fail
            go_meet
            case rel => exact HREL.out
          · have HREL := hide (HMEET.out 1 rfl (ready_leaf Z (cnt t) d 1 HK2.out.symm (.inr rfl) (HNIL.out (.inr rfl))))
            clear HMEET
            go_wp2_with fail
            go_meet
            case rel => exact HREL.out
          · have HREL := hide (HMEET.out 8 rfl (ready_next Z (cnt t) d HK2.out.symm (HLEN.out (by decide)) hz'))
            clear HMEET
            go_wp2_with fail
            go_meet
            case rel => exact HREL.out
          · have HREL := hide (HMEET.out 4 rfl (ready_bin Z (cnt t) d 4 HK2.out.symm (by decide) (HLEN.out (by decide)) hz'))
            clear HMEET
            go_wp2_with fail
            go_meet
            case rel => exact HREL.out
          · have HREL := hide (HMEET.out 5 rfl (ready_bin Z (cnt t) d 5 HK2.out.symm (by decide) (HLEN.out (by decide)) hz'))
            clear HMEET
            go_wp2_with fail
            go_meet
            case rel => exact HREL.out
          · have HREL := hide (HMEET.out 11 rfl (ready_bin Z (cnt t) d 11 HK2.out.symm (by decide) (HLEN.out (by decide)) hz'))
            clear HMEET
            go_wp2_with fail
            go_meet
            case rel => exact HREL.out
          · have HREL := hide (HMEET.out 12 rfl (ready_bin Z (cnt t) d 12 HK2.out.symm (by decide) (HLEN.out (by decide)) hz'))
            clear HMEET
            go_wp2_with fail
            go_meet
            case rel => exact HREL.out
          · have hnk : n2 = 2 := by rw [← HKS.out.1]; exact HLEN.out (by decide)
            subst hnk
            clear HMEET
            obtain ⟨be0, oe0, tK, kK, pK, AK, nK, cK, hA0, hlt0, hkid0, hdk0, e00, e01, e02⟩ := HKS.out.at_ (j := 0) (by omega)
            simp only [Nat.zero_mul, Nat.one_mul, Nat.add_zero] at e00 e01 e02
            have HKD0 := hide (show (cnt t).kid 0 = tK from by unfold LT.kid; rw [List.getD_eq_getElem?_getD, hkid0]; rfl)
            have HDK0 := hide hdk0
            clear hdk0 hkid0
            subst hA0
            obtain ⟨be1, oe1, tM, kM, pM, AM, nM, cM, hA1, hlt1, hkid1, hdk1, e10, e11, e12⟩ := HKS.out.at_ (j := 1) (by omega)
            simp only [Nat.zero_mul, Nat.one_mul, Nat.add_zero] at e10 e11 e12
            have HKD1 := hide (show (cnt t).kid 1 = tM from by unfold LT.kid; rw [List.getD_eq_getElem?_getD, hkid1]; rfl)
            have HDK1 := hide hdk1
            clear hdk1 hkid1
            injection hA1 with hA1
            injection hA1 with hA1a hA1b
            subst hA1a hA1b
            have SOF := hide (show ∀ W, Below w3.heap.size w3 W → (W.cell? ⟨w0.heap.size, 2, none⟩ = some (.slice (some ⟨be0, oe0, none⟩) 2 c2) ∧ W.cell? ⟨be0, oe0, none⟩ = some (.int .i64 kK) ∧ W.cell? ⟨be0, oe0 + 1, none⟩ = some (.int .i64 pK) ∧ W.cell? ⟨be0, oe0 + 2, none⟩ = some (.slice AK nK cK) ∧ W.cell? ⟨be0, oe0 + 3, none⟩ = some (.int .i64 kM) ∧ W.cell? ⟨be0, oe0 + 3 + 1, none⟩ = some (.int .i64 pM) ∧ W.cell? ⟨be0, oe0 + 3 + 2, none⟩ = some (.slice AM nM cM)) from fun W h => ⟨(X2.out.next h).cell 2 _ rfl, (below_cell h hlt0).trans e00, (below_cell h hlt0).trans e01, (below_cell h hlt0).trans e02, (below_cell h hlt0).trans e10, (below_cell h hlt0).trans e11, (below_cell h hlt0).trans e12⟩)
            go_upto_region 10 with fail
            refine wp_drawnL (by kernel_rfl) (by kernel_rfl) (by kernel_rfl) (by kernel_rfl) (fun w w' => Below w.heap.size w w') (fun j v w => match j with | 0 => v = .pointer (some ⟨w0.heap.size, 2, none⟩) | 1 => v = .slice (some ⟨be0, oe0, none⟩) 2 c2 | 2 => v = .pointer (some ⟨be0, oe0, none⟩) | 3 => v = .agg #[.int .i64 kK, .int .i64 pK, .slice AK nK cK] | 4 => ∃ g, v = .slice (some ⟨g, 0, none⟩) 1 1 ∧ KsIn (Up (UpN S w0.heap.size) (w0.heap.size + 2)) w (some ⟨g, 0, none⟩) 1 [tK] | 5 => ∃ g, v = .agg #[.int .i64 3, .int .i64 0, .slice (some ⟨g, 0, none⟩) 1 1] ∧ DIn (Up (UpN S w0.heap.size) (w0.heap.size + 2)) w (.mk 3 0 [tK]) (c3 3 0 (some ⟨g, 0, none⟩) 1 1) | 6 => v = .pointer (some ⟨w0.heap.size, 2, none⟩) | 7 => v = .slice (some ⟨be0, oe0, none⟩) 2 c2 | 8 => v = .pointer (some ⟨be0, oe0 + 3, none⟩) | 9 => v = .agg #[.int .i64 kM, .int .i64 pM, .slice AM nM cM] | 10 => ∃ g, v = .slice (some ⟨g, 0, none⟩) 2 2 ∧ KsIn (Up (UpN S w0.heap.size) (w0.heap.size + 2)) w (some ⟨g, 0, none⟩) 2 [.mk 3 0 [tK], tM] | 11 => ∃ g, v = .agg #[.int .i64 5, .int .i64 0, .slice (some ⟨g, 0, none⟩) 2 2] ∧ KsIn (Up (UpN S w0.heap.size) (w0.heap.size + 2)) w (some ⟨g, 0, none⟩) 2 [.mk 3 0 [tK], tM] | _ => True) (fun _ _ w => Below w3.heap.size w3 w) ?_ (fun _ => bl_drewN w3 1) ?_ ?_
            · intro j v w w' hT h
              match j, h with
              | 0, h => exact h
              | 1, h => exact h
              | 2, h => exact h
              | 3, h => exact h
              | 4, h => exact (by obtain ⟨g, e, h1⟩ := h; exact ⟨g, e, h1.keep (Keep.of_below hT)⟩)
              | 5, h => exact (by obtain ⟨g, e, h1⟩ := h; exact ⟨g, e, h1.keep (Keep.of_below hT)⟩)
              | 6, h => exact h
              | 7, h => exact h
              | 8, h => exact h
              | 9, h => exact h
              | 10, h => exact (by obtain ⟨g, e, h1⟩ := h; exact ⟨g, e, h1.keep (Keep.of_below hT)⟩)
              | 11, h => exact (by obtain ⟨g, e, h1⟩ := h; exact ⟨g, e, h1.keep (Keep.of_below hT)⟩)
              | j + 12, h => trivial
            · refine ⟨?_, ?_, ?_, ?_, ?_, ?_, ?_, ?_, ?_, ?_, ?_, ?_, trivial⟩
              · intro listed σ w a hin hout hl hla hs hc hp hG hF
                refine Guarded.none rfl ?_
                have e2 : a.tmps.getD 2 undef = .pointer (some ⟨w0.heap.size, 0, none⟩) := hout 2 (outB_spec (by kernel_rfl))
                refine Does.val (.pointer (some ⟨w0.heap.size, 2, none⟩)) (w' := w) ?_ ⟨Below.refl _ _, rfl, hG⟩
                simp only [Array.getD_eq_getD_getElem?] at e2
                go_simp
              · intro listed σ w a hin hout hl hla hs hc hp hG hF
                refine Guarded.none rfl ?_
                have e30 : a.tmps.getD 30 undef = .pointer (some ⟨w0.heap.size, 2, none⟩) := (hin 0 30 rfl (hp ⟨0, .data⟩ (by simp) rfl)).trans (hF 0 (hp ⟨0, .data⟩ (by simp) rfl))
                have CC := SOF.out w hG; obtain ⟨C2, C0a, C0b, C0c, C1a, C1b, C1c⟩ := CC
                refine Does.val (.slice (some ⟨be0, oe0, none⟩) 2 c2) (w' := w) ?_ ⟨Below.refl _ _, rfl, hG⟩
                go_simp
              · intro listed σ w a hin hout hl hla hs hc hp hG hF
                refine Guarded.none rfl ?_
                have e31 : a.tmps.getD 31 undef = .slice (some ⟨be0, oe0, none⟩) 2 c2 := (hin 1 31 rfl (hp ⟨1, .data⟩ (by simp) rfl)).trans (hF 1 (hp ⟨1, .data⟩ (by simp) rfl))
                refine Does.val (.pointer (some ⟨be0, oe0, none⟩)) (w' := w) ?_ ⟨Below.refl _ _, rfl, hG⟩
                simp only [Array.getD_eq_getD_getElem?] at e31
                go_simp
                (try (intro hh; exfalso; omega))
              · intro listed σ w a hin hout hl hla hs hc hp hG hF
                refine Guarded.none rfl ?_
                have e32 : a.tmps.getD 32 undef = .pointer (some ⟨be0, oe0, none⟩) := (hin 2 32 rfl (hp ⟨2, .data⟩ (by simp) rfl)).trans (hF 2 (hp ⟨2, .data⟩ (by simp) rfl))
                have CC := SOF.out w hG; obtain ⟨C2, C0a, C0b, C0c, C1a, C1b, C1c⟩ := CC
                refine Does.val (.agg #[.int .i64 kK, .int .i64 pK, .slice AK nK cK]) (w' := w) ?_ ⟨Below.refl _ _, rfl, hG⟩
                go_simp
              · intro listed σ w a hin hout hl hla hs hc hp hG hF
                refine Guarded.none rfl ?_
                have e33 : a.tmps.getD 33 undef = .agg #[.int .i64 kK, .int .i64 pK, .slice AK nK cK] := (hin 3 33 rfl (hp ⟨3, .data⟩ (by simp) rfl)).trans (hF 3 (hp ⟨3, .data⟩ (by simp) rfl))
                refine Does.val (.slice (some ⟨w.heap.size, 0, none⟩) 1 1) (w' := w.alloc (.cells #[.int .i64 kK, .int .i64 pK, .slice AK nK cK] 24)) ?_ ⟨bl_alloc w _, ⟨w.heap.size, rfl, kids_new1 (HDK0.out.keep (Keep.of_below hG)) (by have := hG.size; have := HSZ.out; omega)⟩, hG.next (bl_alloc w _)⟩
                simp only [Array.getD_eq_getD_getElem?] at e33
                go_simp
              · intro listed σ w a hin hout hl hla hs hc hp hG hF
                refine Guarded.none rfl ?_
                have e34 := hin 4 34 rfl (hp ⟨4, .data⟩ (by simp) rfl)
                obtain ⟨g4, ev4, ks4⟩ := hF 4 (hp ⟨4, .data⟩ (by simp) rfl)
                rw [ev4] at e34
                refine Does.call ?_ (of_any 3 (some ⟨g4, 0, none⟩) 1 1 w) ?_
                · go_simp
                · rintro e w' ⟨rfl, hb⟩
                  exact ⟨_, rfl, hb, ⟨g4, rfl, DIn.close 3 0 (ks4.keep (Keep.of_below hb)) (by omega) (by omega) (fun h => by cases h)⟩, hG.next hb⟩
              · intro listed σ w a hin hout hl hla hs hc hp hG hF
                refine Guarded.none rfl ?_
                have e2 : a.tmps.getD 2 undef = .pointer (some ⟨w0.heap.size, 0, none⟩) := hout 2 (outB_spec (by kernel_rfl))
                refine Does.val (.pointer (some ⟨w0.heap.size, 2, none⟩)) (w' := w) ?_ ⟨Below.refl _ _, rfl, hG⟩
                simp only [Array.getD_eq_getD_getElem?] at e2
                go_simp
              · intro listed σ w a hin hout hl hla hs hc hp hG hF
                refine Guarded.none rfl ?_
                have e36 : a.tmps.getD 36 undef = .pointer (some ⟨w0.heap.size, 2, none⟩) := (hin 6 36 rfl (hp ⟨6, .data⟩ (by simp) rfl)).trans (hF 6 (hp ⟨6, .data⟩ (by simp) rfl))
                have CC := SOF.out w hG; obtain ⟨C2, C0a, C0b, C0c, C1a, C1b, C1c⟩ := CC
                refine Does.val (.slice (some ⟨be0, oe0, none⟩) 2 c2) (w' := w) ?_ ⟨Below.refl _ _, rfl, hG⟩
                go_simp
              · intro listed σ w a hin hout hl hla hs hc hp hG hF
                refine Guarded.none rfl ?_
                have e37 : a.tmps.getD 37 undef = .slice (some ⟨be0, oe0, none⟩) 2 c2 := (hin 7 37 rfl (hp ⟨7, .data⟩ (by simp) rfl)).trans (hF 7 (hp ⟨7, .data⟩ (by simp) rfl))
                refine Does.val (.pointer (some ⟨be0, oe0 + 3, none⟩)) (w' := w) ?_ ⟨Below.refl _ _, rfl, hG⟩
                simp only [Array.getD_eq_getD_getElem?] at e37
                go_simp
                (try (intro hh; exfalso; omega))
              · intro listed σ w a hin hout hl hla hs hc hp hG hF
                refine Guarded.none rfl ?_
                have e38 : a.tmps.getD 38 undef = .pointer (some ⟨be0, oe0 + 3, none⟩) := (hin 8 38 rfl (hp ⟨8, .data⟩ (by simp) rfl)).trans (hF 8 (hp ⟨8, .data⟩ (by simp) rfl))
                have CC := SOF.out w hG; obtain ⟨C2, C0a, C0b, C0c, C1a, C1b, C1c⟩ := CC
                refine Does.val (.agg #[.int .i64 kM, .int .i64 pM, .slice AM nM cM]) (w' := w) ?_ ⟨Below.refl _ _, rfl, hG⟩
                go_simp
              · intro listed σ w a hin hout hl hla hs hc hp hG hF
                refine Guarded.none rfl ?_
                have e35 := hin 5 35 rfl (hp ⟨5, .data⟩ (by simp) rfl)
                obtain ⟨g5, ev5, d5⟩ := hF 5 (hp ⟨5, .data⟩ (by simp) rfl)
                rw [ev5] at e35
                have e39 : a.tmps.getD 39 undef = .agg #[.int .i64 kM, .int .i64 pM, .slice AM nM cM] := (hin 9 39 rfl (hp ⟨9, .data⟩ (by simp) rfl)).trans (hF 9 (hp ⟨9, .data⟩ (by simp) rfl))
                refine Does.val (.slice (some ⟨w.heap.size, 0, none⟩) 2 2) (w' := w.alloc (.cells #[.int .i64 3, .int .i64 0, .slice (some ⟨g5, 0, none⟩) 1 1, .int .i64 kM, .int .i64 pM, .slice AM nM cM] 24)) ?_ ⟨bl_alloc w _, ⟨w.heap.size, rfl, kids_new2 d5 (HDK1.out.keep (Keep.of_below hG)) (by have := hG.size; have := HSZ.out; omega)⟩, hG.next (bl_alloc w _)⟩
                simp only [Array.getD_eq_getD_getElem?] at e35 e39
                go_simp
              · intro listed σ w a hin hout hl hla hs hc hp hG hF
                refine Guarded.none rfl ?_
                have e40 := hin 10 40 rfl (hp ⟨10, .data⟩ (by simp) rfl)
                obtain ⟨g10, ev10, ks10⟩ := hF 10 (hp ⟨10, .data⟩ (by simp) rfl)
                rw [ev10] at e40
                refine Does.call ?_ (of_any 5 (some ⟨g10, 0, none⟩) 2 2 w) ?_
                · go_simp
                · rintro e w' ⟨rfl, hb⟩
                  exact ⟨_, rfl, hb, ⟨g10, rfl, ks10.keep (Keep.of_below hb)⟩, hG.next hb⟩
            · intro o ho
              injection ho with ho; subst ho
              intro listed σ w a hall hin hout hG hF
              refine Guarded.none rfl ?_
              have e2 : a.tmps.getD 2 undef = .pointer (some ⟨w0.heap.size, 0, none⟩) := hout 2 (outL (by kernel_rfl))
              have e41 := hin 11 41 rfl (by decide)
              obtain ⟨g11, ev11, ks11⟩ := hF 11 (by decide)
              rw [ev11] at e41
              refine Does.store_box (T := 24) (cells := #[.int .i64 5, .int .i64 0, .slice (some ⟨g11, 0, none⟩) 2 2]) rfl e2 e41 (X2.out.next hG) (by kernel_rfl) rfl (by simp [Value.oneCell']) (fun w5 x9 o9 => ?_)
              have hks := ks11.keep (Keep.of_only o9 (fun h => by rcases h with ⟨-, h⟩ | h <;> omega))
              have HREL := hide (show ∃ (kk : Nat) (f : LT) (p5 : Int) (A5 : Option Addr) (n5 c5 : Nat), Hid (Ready Z (plain (norm t) d) d f kk) ∧ Hid (DIn (Up (UpN S w0.heap.size) (w0.heap.size + 2)) w5 f (c3 (kk : Int) p5 A5 n5 c5)) ∧ Hid (Box 24 w5 w0.heap.size #[.int .i64 (kk : Int), .int .i64 p5, .slice A5 n5 c5]) ∧ Hid (Box 24 w5 (w0.heap.size + 1) #[.int .i64 0, .int .i64 0, .slice none 0 0]) ∧ Hid (Below w0.heap.size w0 w5) from by
                have hr := ready_imp Z (cnt t) d HK2.out.symm (HLEN.out (by decide)) hz'
                rw [norm_cnt, HKD0.out, HKD1.out] at hr
                exact ⟨5, _, 0, _, 2, 2, hide hr, hide (DIn.close 5 0 hks (by omega) (by omega) (fun h => by cases h)), hide x9, hide ((X4.out.next hG).other o9 (by omega)), hide ((HB.out.next hG).trans (o9.below (HB.out.next hG).size (Nat.le_refl _)))⟩)
              rw [show fin _ σ undef _ = (Act.put (Act.put (Act.put (Act.put (Act.put (Act.put (Act.put (Act.put (Act.put (Act.put (Act.put (Act.put (Act.put _ (some 30) (σ 0)) (some 31) (σ 1)) (some 32) (σ 2)) (some 33) (σ 3)) (some 34) (σ 4)) (some 35) (σ 5)) (some 36) (σ 6)) (some 37) (σ 7)) (some 38) (σ 8)) (some 39) (σ 9)) (some 40) (σ 10)) (some 41) (σ 11)) none undef) from (fin_all hall).trans rfl]
              simp only [Act.put, List.setIfInBounds_toArray, List.set_cons_zero, List.set_cons_succ]
              generalize σ 0 = tt0 at *; generalize σ 1 = tt1 at *; generalize σ 2 = tt2 at *; generalize σ 3 = tt3 at *; generalize σ 4 = tt4 at *; generalize σ 5 = tt5 at *; generalize σ 6 = tt6 at *; generalize σ 7 = tt7 at *; generalize σ 8 = tt8 at *; generalize σ 9 = tt9 at *; generalize σ 10 = tt10 at *; generalize σ 11 = tt11 at *
              clear hF hG hall hin hout e2 e41 hks o9 x9 SOF
              go_wp2_with fail
              go_meet
              case rel => exact HREL.out
          · have hnk : n2 = 1 := by rw [← HKS.out.1]; exact HLEN.out (by decide)
            subst hnk
            clear HMEET
            obtain ⟨be0, oe0, tK, kK, pK, AK, nK, cK, hA0, hlt0, hkid0, hdk0, e00, e01, e02⟩ := HKS.out.at_ (j := 0) (by omega)
            simp only [Nat.zero_mul, Nat.one_mul, Nat.add_zero] at e00 e01 e02
            have HKD0 := hide (show (cnt t).kid 0 = tK from by unfold LT.kid; rw [List.getD_eq_getElem?_getD, hkid0]; rfl)
            have HDK0 := hide hdk0
            clear hdk0 hkid0
            subst hA0
            have SOF := hide (show ∀ W, Below w3.heap.size w3 W → (W.cell? ⟨w0.heap.size, 2, none⟩ = some (.slice (some ⟨be0, oe0, none⟩) 1 c2) ∧ W.cell? ⟨be0, oe0, none⟩ = some (.int .i64 kK) ∧ W.cell? ⟨be0, oe0 + 1, none⟩ = some (.int .i64 pK) ∧ W.cell? ⟨be0, oe0 + 2, none⟩ = some (.slice AK nK cK)) from fun W h => ⟨(X2.out.next h).cell 2 _ rfl, (below_cell h hlt0).trans e00, (below_cell h hlt0).trans e01, (below_cell h hlt0).trans e02⟩)
            have hco := fun W => constant_any false W
            simp only [Bool.false_eq_true, if_false, if_true] at hco
            have HCO := hide hco
            clear hco
            go_upto_region 12 with fail
            refine wp_drawnL (by kernel_rfl) (by kernel_rfl) (by kernel_rfl) (by kernel_rfl) (fun w w' => Below w.heap.size w w') (fun j v w => match j with | 0 => v = .agg #[.int .i64 1, .int .i64 0, .slice none 0 0] | 1 => v = .pointer (some ⟨w0.heap.size, 2, none⟩) | 2 => v = .slice (some ⟨be0, oe0, none⟩) 1 c2 | 3 => v = .pointer (some ⟨be0, oe0, none⟩) | 4 => v = .agg #[.int .i64 kK, .int .i64 pK, .slice AK nK cK] | 5 => ∃ g, v = .slice (some ⟨g, 0, none⟩) 2 2 ∧ KsIn (Up (UpN S w0.heap.size) (w0.heap.size + 2)) w (some ⟨g, 0, none⟩) 2 [.mk 1 0 [], tK] | 6 => ∃ g, v = .agg #[.int .i64 12, .int .i64 0, .slice (some ⟨g, 0, none⟩) 2 2] ∧ KsIn (Up (UpN S w0.heap.size) (w0.heap.size + 2)) w (some ⟨g, 0, none⟩) 2 [.mk 1 0 [], tK] | _ => True) (fun _ _ w => Below w3.heap.size w3 w) ?_ (fun _ => bl_drewN w3 1) ?_ ?_
            · intro j v w w' hT h
              match j, h with
              | 0, h => exact h
              | 1, h => exact h
              | 2, h => exact h
              | 3, h => exact h
              | 4, h => exact h
              | 5, h => exact (by obtain ⟨g, e, h1⟩ := h; exact ⟨g, e, h1.keep (Keep.of_below hT)⟩)
              | 6, h => exact (by obtain ⟨g, e, h1⟩ := h; exact ⟨g, e, h1.keep (Keep.of_below hT)⟩)
              | j + 7, h => trivial
            · refine ⟨?_, ?_, ?_, ?_, ?_, ?_, ?_, trivial⟩
              · intro listed σ w a hin hout hl hla hs hc hp hG hF
                refine Guarded.none rfl ?_
                refine Does.call ?_ (HCO.out w) ?_
                · go_simp
                · rintro e w' ⟨rfl, hb⟩
                  exact ⟨_, rfl, hb, rfl, hG.next hb⟩
              · intro listed σ w a hin hout hl hla hs hc hp hG hF
                refine Guarded.none rfl ?_
                have e2 : a.tmps.getD 2 undef = .pointer (some ⟨w0.heap.size, 0, none⟩) := hout 2 (outB_spec (by kernel_rfl))
                refine Does.val (.pointer (some ⟨w0.heap.size, 2, none⟩)) (w' := w) ?_ ⟨Below.refl _ _, rfl, hG⟩
                simp only [Array.getD_eq_getD_getElem?] at e2
                go_simp
              · intro listed σ w a hin hout hl hla hs hc hp hG hF
                refine Guarded.none rfl ?_
                have e45 : a.tmps.getD 45 undef = .pointer (some ⟨w0.heap.size, 2, none⟩) := (hin 1 45 rfl (hp ⟨1, .data⟩ (by simp) rfl)).trans (hF 1 (hp ⟨1, .data⟩ (by simp) rfl))
                have CC := SOF.out w hG; obtain ⟨C2, C0a, C0b, C0c⟩ := CC
                refine Does.val (.slice (some ⟨be0, oe0, none⟩) 1 c2) (w' := w) ?_ ⟨Below.refl _ _, rfl, hG⟩
                go_simp
              · intro listed σ w a hin hout hl hla hs hc hp hG hF
                refine Guarded.none rfl ?_
                have e46 : a.tmps.getD 46 undef = .slice (some ⟨be0, oe0, none⟩) 1 c2 := (hin 2 46 rfl (hp ⟨2, .data⟩ (by simp) rfl)).trans (hF 2 (hp ⟨2, .data⟩ (by simp) rfl))
                refine Does.val (.pointer (some ⟨be0, oe0, none⟩)) (w' := w) ?_ ⟨Below.refl _ _, rfl, hG⟩
                simp only [Array.getD_eq_getD_getElem?] at e46
                go_simp
                (try (intro hh; exfalso; omega))
              · intro listed σ w a hin hout hl hla hs hc hp hG hF
                refine Guarded.none rfl ?_
                have e47 : a.tmps.getD 47 undef = .pointer (some ⟨be0, oe0, none⟩) := (hin 3 47 rfl (hp ⟨3, .data⟩ (by simp) rfl)).trans (hF 3 (hp ⟨3, .data⟩ (by simp) rfl))
                have CC := SOF.out w hG; obtain ⟨C2, C0a, C0b, C0c⟩ := CC
                refine Does.val (.agg #[.int .i64 kK, .int .i64 pK, .slice AK nK cK]) (w' := w) ?_ ⟨Below.refl _ _, rfl, hG⟩
                go_simp
              · intro listed σ w a hin hout hl hla hs hc hp hG hF
                refine Guarded.none rfl ?_
                have e44 : a.tmps.getD 44 undef = .agg #[.int .i64 1, .int .i64 0, .slice none 0 0] := (hin 0 44 rfl (hp ⟨0, .data⟩ (by simp) rfl)).trans (hF 0 (hp ⟨0, .data⟩ (by simp) rfl))
                have e48 : a.tmps.getD 48 undef = .agg #[.int .i64 kK, .int .i64 pK, .slice AK nK cK] := (hin 4 48 rfl (hp ⟨4, .data⟩ (by simp) rfl)).trans (hF 4 (hp ⟨4, .data⟩ (by simp) rfl))
                refine Does.val (.slice (some ⟨w.heap.size, 0, none⟩) 2 2) (w' := w.alloc (.cells #[.int .i64 1, .int .i64 0, .slice none 0 0, .int .i64 kK, .int .i64 pK, .slice AK nK cK] 24)) ?_ ⟨bl_alloc w _, ⟨w.heap.size, rfl, kids_new2 (DIn.leaf _ _ 1 0) (HDK0.out.keep (Keep.of_below hG)) (by have := hG.size; have := HSZ.out; omega)⟩, hG.next (bl_alloc w _)⟩
                simp only [Array.getD_eq_getD_getElem?] at e44 e48
                go_simp
              · intro listed σ w a hin hout hl hla hs hc hp hG hF
                refine Guarded.none rfl ?_
                have e49 := hin 5 49 rfl (hp ⟨5, .data⟩ (by simp) rfl)
                obtain ⟨g5, ev5, ks5⟩ := hF 5 (hp ⟨5, .data⟩ (by simp) rfl)
                rw [ev5] at e49
                refine Does.call ?_ (of_any 12 (some ⟨g5, 0, none⟩) 2 2 w) ?_
                · go_simp
                · rintro e w' ⟨rfl, hb⟩
                  exact ⟨_, rfl, hb, ⟨g5, rfl, ks5.keep (Keep.of_below hb)⟩, hG.next hb⟩
            · intro o ho
              injection ho with ho; subst ho
              intro listed σ w a hall hin hout hG hF
              refine Guarded.none rfl ?_
              have e2 : a.tmps.getD 2 undef = .pointer (some ⟨w0.heap.size, 0, none⟩) := hout 2 (outL (by kernel_rfl))
              have e50 := hin 6 50 rfl (by decide)
              obtain ⟨g6, ev6, ks6⟩ := hF 6 (by decide)
              rw [ev6] at e50
              refine Does.store_box (T := 24) (cells := #[.int .i64 12, .int .i64 0, .slice (some ⟨g6, 0, none⟩) 2 2]) rfl e2 e50 (X2.out.next hG) (by kernel_rfl) rfl (by simp [Value.oneCell']) (fun w5 x9 o9 => ?_)
              have hks := ks6.keep (Keep.of_only o9 (fun h => by rcases h with ⟨-, h⟩ | h <;> omega))
              have HREL := hide (show ∃ (kk : Nat) (f : LT) (p5 : Int) (A5 : Option Addr) (n5 c5 : Nat), Hid (Ready Z (plain (norm t) d) d f kk) ∧ Hid (DIn (Up (UpN S w0.heap.size) (w0.heap.size + 2)) w5 f (c3 (kk : Int) p5 A5 n5 c5)) ∧ Hid (Box 24 w5 w0.heap.size #[.int .i64 (kk : Int), .int .i64 p5, .slice A5 n5 c5]) ∧ Hid (Box 24 w5 (w0.heap.size + 1) #[.int .i64 0, .int .i64 0, .slice none 0 0]) ∧ Hid (Below w0.heap.size w0 w5) from by
                have hr := ready_all Z (cnt t) d HK2.out.symm (HLEN.out (by decide)) hz'
                rw [norm_cnt, HKD0.out] at hr
                exact ⟨12, _, 0, _, 2, 2, hide hr, hide (DIn.close 12 0 hks (by omega) (by omega) (fun h => by cases h)), hide x9, hide ((X4.out.next hG).other o9 (by omega)), hide ((HB.out.next hG).trans (o9.below (HB.out.next hG).size (Nat.le_refl _)))⟩)
              rw [show fin _ σ undef _ = (Act.put (Act.put (Act.put (Act.put (Act.put (Act.put (Act.put (Act.put _ (some 44) (σ 0)) (some 45) (σ 1)) (some 46) (σ 2)) (some 47) (σ 3)) (some 48) (σ 4)) (some 49) (σ 5)) (some 50) (σ 6)) none undef) from (fin_all hall).trans rfl]
              simp only [Act.put, List.setIfInBounds_toArray, List.set_cons_zero, List.set_cons_succ]
              generalize σ 0 = tt0 at *; generalize σ 1 = tt1 at *; generalize σ 2 = tt2 at *; generalize σ 3 = tt3 at *; generalize σ 4 = tt4 at *; generalize σ 5 = tt5 at *; generalize σ 6 = tt6 at *
              clear hF hG hall hin hout e2 e50 hks o9 x9 SOF
              go_wp2_with fail
              go_meet
              case rel => exact HREL.out
          · have hnk : n2 = 1 := by rw [← HKS.out.1]; exact HLEN.out (by decide)
            subst hnk
            clear HMEET
            obtain ⟨be0, oe0, tK, kK, pK, AK, nK, cK, hA0, hlt0, hkid0, hdk0, e00, e01, e02⟩ := HKS.out.at_ (j := 0) (by omega)
            simp only [Nat.zero_mul, Nat.one_mul, Nat.add_zero] at e00 e01 e02
            have HKD0 := hide (show (cnt t).kid 0 = tK from by unfold LT.kid; rw [List.getD_eq_getElem?_getD, hkid0]; rfl)
            have HDK0 := hide hdk0
            clear hdk0 hkid0
            subst hA0
            have SOF := hide (show ∀ W, Below w3.heap.size w3 W → (W.cell? ⟨w0.heap.size, 2, none⟩ = some (.slice (some ⟨be0, oe0, none⟩) 1 c2) ∧ W.cell? ⟨be0, oe0, none⟩ = some (.int .i64 kK) ∧ W.cell? ⟨be0, oe0 + 1, none⟩ = some (.int .i64 pK) ∧ W.cell? ⟨be0, oe0 + 2, none⟩ = some (.slice AK nK cK)) from fun W h => ⟨(X2.out.next h).cell 2 _ rfl, (below_cell h hlt0).trans e00, (below_cell h hlt0).trans e01, (below_cell h hlt0).trans e02⟩)
            have hco := fun W => constant_any true W
            simp only [Bool.false_eq_true, if_false, if_true] at hco
            have HCO := hide hco
            clear hco
            go_upto_region 14 with fail
            refine wp_drawnL (by kernel_rfl) (by kernel_rfl) (by kernel_rfl) (by kernel_rfl) (fun w w' => Below w.heap.size w w') (fun j v w => match j with | 0 => v = .agg #[.int .i64 0, .int .i64 0, .slice none 0 0] | 1 => v = .pointer (some ⟨w0.heap.size, 2, none⟩) | 2 => v = .slice (some ⟨be0, oe0, none⟩) 1 c2 | 3 => v = .pointer (some ⟨be0, oe0, none⟩) | 4 => v = .agg #[.int .i64 kK, .int .i64 pK, .slice AK nK cK] | 5 => ∃ g, v = .slice (some ⟨g, 0, none⟩) 2 2 ∧ KsIn (Up (UpN S w0.heap.size) (w0.heap.size + 2)) w (some ⟨g, 0, none⟩) 2 [.mk 0 0 [], tK] | 6 => ∃ g, v = .agg #[.int .i64 11, .int .i64 0, .slice (some ⟨g, 0, none⟩) 2 2] ∧ KsIn (Up (UpN S w0.heap.size) (w0.heap.size + 2)) w (some ⟨g, 0, none⟩) 2 [.mk 0 0 [], tK] | _ => True) (fun _ _ w => Below w3.heap.size w3 w) ?_ (fun _ => bl_drewN w3 1) ?_ ?_
            · intro j v w w' hT h
              match j, h with
              | 0, h => exact h
              | 1, h => exact h
              | 2, h => exact h
              | 3, h => exact h
              | 4, h => exact h
              | 5, h => exact (by obtain ⟨g, e, h1⟩ := h; exact ⟨g, e, h1.keep (Keep.of_below hT)⟩)
              | 6, h => exact (by obtain ⟨g, e, h1⟩ := h; exact ⟨g, e, h1.keep (Keep.of_below hT)⟩)
              | j + 7, h => trivial
            · refine ⟨?_, ?_, ?_, ?_, ?_, ?_, ?_, trivial⟩
              · intro listed σ w a hin hout hl hla hs hc hp hG hF
                refine Guarded.none rfl ?_
                refine Does.call ?_ (HCO.out w) ?_
                · go_simp
                · rintro e w' ⟨rfl, hb⟩
                  exact ⟨_, rfl, hb, rfl, hG.next hb⟩
              · intro listed σ w a hin hout hl hla hs hc hp hG hF
                refine Guarded.none rfl ?_
                have e2 : a.tmps.getD 2 undef = .pointer (some ⟨w0.heap.size, 0, none⟩) := hout 2 (outB_spec (by kernel_rfl))
                refine Does.val (.pointer (some ⟨w0.heap.size, 2, none⟩)) (w' := w) ?_ ⟨Below.refl _ _, rfl, hG⟩
                simp only [Array.getD_eq_getD_getElem?] at e2
                go_simp
              · intro listed σ w a hin hout hl hla hs hc hp hG hF
                refine Guarded.none rfl ?_
                have e54 : a.tmps.getD 54 undef = .pointer (some ⟨w0.heap.size, 2, none⟩) := (hin 1 54 rfl (hp ⟨1, .data⟩ (by simp) rfl)).trans (hF 1 (hp ⟨1, .data⟩ (by simp) rfl))
                have CC := SOF.out w hG; obtain ⟨C2, C0a, C0b, C0c⟩ := CC
                refine Does.val (.slice (some ⟨be0, oe0, none⟩) 1 c2) (w' := w) ?_ ⟨Below.refl _ _, rfl, hG⟩
                go_simp
              · intro listed σ w a hin hout hl hla hs hc hp hG hF
                refine Guarded.none rfl ?_
                have e55 : a.tmps.getD 55 undef = .slice (some ⟨be0, oe0, none⟩) 1 c2 := (hin 2 55 rfl (hp ⟨2, .data⟩ (by simp) rfl)).trans (hF 2 (hp ⟨2, .data⟩ (by simp) rfl))
                refine Does.val (.pointer (some ⟨be0, oe0, none⟩)) (w' := w) ?_ ⟨Below.refl _ _, rfl, hG⟩
                simp only [Array.getD_eq_getD_getElem?] at e55
                go_simp
                (try (intro hh; exfalso; omega))
              · intro listed σ w a hin hout hl hla hs hc hp hG hF
                refine Guarded.none rfl ?_
                have e56 : a.tmps.getD 56 undef = .pointer (some ⟨be0, oe0, none⟩) := (hin 3 56 rfl (hp ⟨3, .data⟩ (by simp) rfl)).trans (hF 3 (hp ⟨3, .data⟩ (by simp) rfl))
                have CC := SOF.out w hG; obtain ⟨C2, C0a, C0b, C0c⟩ := CC
                refine Does.val (.agg #[.int .i64 kK, .int .i64 pK, .slice AK nK cK]) (w' := w) ?_ ⟨Below.refl _ _, rfl, hG⟩
                go_simp
              · intro listed σ w a hin hout hl hla hs hc hp hG hF
                refine Guarded.none rfl ?_
                have e53 : a.tmps.getD 53 undef = .agg #[.int .i64 0, .int .i64 0, .slice none 0 0] := (hin 0 53 rfl (hp ⟨0, .data⟩ (by simp) rfl)).trans (hF 0 (hp ⟨0, .data⟩ (by simp) rfl))
                have e57 : a.tmps.getD 57 undef = .agg #[.int .i64 kK, .int .i64 pK, .slice AK nK cK] := (hin 4 57 rfl (hp ⟨4, .data⟩ (by simp) rfl)).trans (hF 4 (hp ⟨4, .data⟩ (by simp) rfl))
                refine Does.val (.slice (some ⟨w.heap.size, 0, none⟩) 2 2) (w' := w.alloc (.cells #[.int .i64 0, .int .i64 0, .slice none 0 0, .int .i64 kK, .int .i64 pK, .slice AK nK cK] 24)) ?_ ⟨bl_alloc w _, ⟨w.heap.size, rfl, kids_new2 (DIn.leaf _ _ 0 0) (HDK0.out.keep (Keep.of_below hG)) (by have := hG.size; have := HSZ.out; omega)⟩, hG.next (bl_alloc w _)⟩
                simp only [Array.getD_eq_getD_getElem?] at e53 e57
                go_simp
              · intro listed σ w a hin hout hl hla hs hc hp hG hF
                refine Guarded.none rfl ?_
                have e58 := hin 5 58 rfl (hp ⟨5, .data⟩ (by simp) rfl)
                obtain ⟨g5, ev5, ks5⟩ := hF 5 (hp ⟨5, .data⟩ (by simp) rfl)
                rw [ev5] at e58
                refine Does.call ?_ (of_any 11 (some ⟨g5, 0, none⟩) 2 2 w) ?_
                · go_simp
                · rintro e w' ⟨rfl, hb⟩
                  exact ⟨_, rfl, hb, ⟨g5, rfl, ks5.keep (Keep.of_below hb)⟩, hG.next hb⟩
            · intro o ho
              injection ho with ho; subst ho
              intro listed σ w a hall hin hout hG hF
              refine Guarded.none rfl ?_
              have e2 : a.tmps.getD 2 undef = .pointer (some ⟨w0.heap.size, 0, none⟩) := hout 2 (outL (by kernel_rfl))
              have e59 := hin 6 59 rfl (by decide)
              obtain ⟨g6, ev6, ks6⟩ := hF 6 (by decide)
              rw [ev6] at e59
              refine Does.store_box (T := 24) (cells := #[.int .i64 11, .int .i64 0, .slice (some ⟨g6, 0, none⟩) 2 2]) rfl e2 e59 (X2.out.next hG) (by kernel_rfl) rfl (by simp [Value.oneCell']) (fun w5 x9 o9 => ?_)
              have hks := ks6.keep (Keep.of_only o9 (fun h => by rcases h with ⟨-, h⟩ | h <;> omega))
              have HREL := hide (show ∃ (kk : Nat) (f : LT) (p5 : Int) (A5 : Option Addr) (n5 c5 : Nat), Hid (Ready Z (plain (norm t) d) d f kk) ∧ Hid (DIn (Up (UpN S w0.heap.size) (w0.heap.size + 2)) w5 f (c3 (kk : Int) p5 A5 n5 c5)) ∧ Hid (Box 24 w5 w0.heap.size #[.int .i64 (kk : Int), .int .i64 p5, .slice A5 n5 c5]) ∧ Hid (Box 24 w5 (w0.heap.size + 1) #[.int .i64 0, .int .i64 0, .slice none 0 0]) ∧ Hid (Below w0.heap.size w0 w5) from by
                have hr := ready_some Z (cnt t) d HK2.out.symm (HLEN.out (by decide)) hz'
                rw [norm_cnt, HKD0.out] at hr
                exact ⟨11, _, 0, _, 2, 2, hide hr, hide (DIn.close 11 0 hks (by omega) (by omega) (fun h => by cases h)), hide x9, hide ((X4.out.next hG).other o9 (by omega)), hide ((HB.out.next hG).trans (o9.below (HB.out.next hG).size (Nat.le_refl _)))⟩)
              rw [show fin _ σ undef _ = (Act.put (Act.put (Act.put (Act.put (Act.put (Act.put (Act.put (Act.put _ (some 53) (σ 0)) (some 54) (σ 1)) (some 55) (σ 2)) (some 56) (σ 3)) (some 57) (σ 4)) (some 58) (σ 5)) (some 59) (σ 6)) none undef) from (fin_all hall).trans rfl]
              simp only [Act.put, List.setIfInBounds_toArray, List.set_cons_zero, List.set_cons_succ]
              generalize σ 0 = tt0 at *; generalize σ 1 = tt1 at *; generalize σ 2 = tt2 at *; generalize σ 3 = tt3 at *; generalize σ 4 = tt4 at *; generalize σ 5 = tt5 at *; generalize σ 6 = tt6 at *
              clear hF hG hall hin hout e2 e59 hks o9 x9 SOF
              go_wp2_with fail
              go_meet
              case rel => exact HREL.out
    case rest =>
      obtain ⟨kk, f, p5, A5, n5, c5, HRD, HDF, X2, X4, HB⟩ := hcut
      obtain ⟨-, -, hks, -, -, hA5⟩ := HDF.out.parts
      have HKF := hide hks
      have cc0 := X2.out.cell 0 _ rfl
      have cc2 := X2.out.cell 2 _ rfl
      have HSZ := hide (show w0.heap.size + 2 ≤ wc.heap.size from by have := X4.out.lt; omega)
      have hg2 : w0.heap.size < wc.heap.size := by have := HSZ.out; omega
      have hnl : n5 ≤ 2 := by rw [← hks.1]; exact HRD.out.few
      obtain ⟨kd, hkd⟩ : ∃ kd : Nat, kd = if d = true then dualN kk else kk := ⟨_, rfl⟩
      have HOUT := hide (show tree (plain (norm t) d) = .mk (kd : Int) 0 (f.kids.map fun q => tree (plain (norm q) d)) from by rw [HRD.out.out, hkd]; cases d <;> rfl)
      clear hks hA5
      cases d
      · have hkd2 : kd = kk := hkd
        clear hkd
        subst hkd2
        go_wp2_with fail
        obtain ⟨UU5, hUU5⟩ : ∃ U, U = Up (UpN (Up (UpN S w0.heap.size) (w0.heap.size + 2)) wc.heap.size) (wc.heap.size + 1) := ⟨_, rfl⟩
        have HUU := hide (show ∀ b, wc.heap.size + 1 ≤ b → UU5 b from fun b hb => by rw [hUU5]; exact .inr hb)
        have HUN := hide (show ¬ UU5 wc.heap.size ∧ ∀ b, UU5 b → (Up (UpN S w0.heap.size) (w0.heap.size + 2)) b from ⟨fun h => by rw [hUU5] at h; rcases h with ⟨-, h⟩ | h <;> omega, fun b h => by
          rw [hUU5] at h
          have := HSZ.out
          rcases h with ⟨h, -⟩ | h
          · exact h
          · exact .inr (by omega)⟩)
        have HKF3 := hide (HKF.out.sub (fun b hlt hs => (⟨hs, hlt⟩ : UpN (Up (UpN S w0.heap.size) (w0.heap.size + 2)) wc.heap.size b)))
        have HUD := hide (show ∀ b, UpN (Up (UpN S w0.heap.size) (w0.heap.size + 2)) wc.heap.size b → UU5 b from fun b h => by rw [hUU5]; exact .inl h)
        clear hUU5
        have HST0 := hide (show ∃ (A4 : Option Addr) (c4 : Nat), Below wc.heap.size wc (wc.alloc (.cells #[.int .i64 (kd : Int), .int .i64 0, .slice none 0 0] 24)) ∧ Box 24 (wc.alloc (.cells #[.int .i64 (kd : Int), .int .i64 0, .slice none 0 0] 24)) wc.heap.size #[.int .i64 (kd : Int), .int .i64 0, .slice A4 0 c4] ∧ KRow (NotOwn UU5 (.slice A4 0 c4)) (wc.alloc (.cells #[.int .i64 (kd : Int), .int .i64 0, .slice none 0 0] 24)) (wc.heap.size + 1) (.slice A4 0 c4) 0 ((f.kids.take 0).map (fun x => tree (plain (norm x) false))) from ⟨none, 0, bl_alloc _ _, Box.new _ _ _, KRow.nil _ _ _⟩)
        generalize hWl : (wc.alloc (.cells #[.int .i64 (kd : Int), .int .i64 0, .slice none 0 0] 24)) = W1 at *
        clear hWl
        go_loopw [71, 7] (fun i m wr => ∃ q : Nat, q ≤ n5 ∧ i = .int .i64 q ∧ Hid (∃ (A4 : Option Addr) (c4 : Nat), Below wc.heap.size wc wr ∧ Box 24 wr wc.heap.size #[.int .i64 (kd : Int), .int .i64 0, .slice A4 q c4] ∧ KRow (NotOwn UU5 (.slice A4 q c4)) wr (wc.heap.size + 1) (.slice A4 q c4) q ((f.kids.take q).map (fun x => tree (plain (norm x) false))))) (fun i _ _ => n5 - (intOf i).toNat)
        case atStart => exact ⟨0, Nat.zero_le _, rfl, HST0⟩
        case round =>
          obtain ⟨q, hq, rfl, HR⟩ := hrel
          obtain ⟨A4, c4, hbw, hx5, hkr⟩ := HR.out
          by_cases hqn : q < n5
          · obtain ⟨be, oe, tK, kK, pK, AK, nK, cK, hA5, hlt, hkid, hdk, d0, d1, d2⟩ := (HKF3.out.keep (Keep.of_below hbw)).at_ hqn
            subst hA5
            have hx5l := hx5.lt
            have HLR := hide hkr
            have hrw : ∀ g, (Value.slice A4 q c4).ownBlock = some g → wc.heap.size + 1 ≤ g ∧ g < wr.heap.size := fun g hg => by
              obtain ⟨-, css, -, -, hl, -⟩ := hkr
              exact hl.lt g hg
            have HDK := hide (hdk.sub (fun b hlt hs => (⟨HUD.out b hs, fun e => by have := (hrw b e.symm).1; have := hs.2; omega⟩ : NotOwn UU5 (.slice A4 q c4) b)))
            have HTK := hide (show (f.kids.take (q + 1)).map (fun x => tree (plain (norm x) false)) = (f.kids.take q).map (fun x => tree (plain (norm x) false)) ++ [tree (plain (norm tK) false)] from by
              rw [List.take_add_one, hkid, List.map_append]; rfl)
            have HSM := hide (HRD.out.small tK (List.mem_of_getElem? hkid))
            have HBW := hide hbw
            have HX5a := hide hx5
            clear hdk hkid hbw hx5 hkr
            go_upto_region 21 with fail
            have hb6 := bl_alloc wr (.cells #[.int .i64 kK, .int .i64 pK, .slice AK nK cK] 24)
            have HX7 := hide (Box.new 24 wr #[.int .i64 kK, .int .i64 pK, .slice AK nK cK])
            have hs6 : (wr.alloc (.cells #[.int .i64 kK, .int .i64 pK, .slice AK nK cK] 24)).heap.size = wr.heap.size + 1 := size_alloc2 _ _
            generalize hW6 : wr.alloc (.cells #[.int .i64 kK, .int .i64 pK, .slice AK nK cK] 24) = W6 at *
            clear hW6 d0 d1 d2
            have HX5 := hide (HX5a.out.next hb6)
            have HKR := hide (HLR.out.below hb6)
            have HW6 := hide (show wc.heap.size + 1 ≤ W6.heap.size from by omega)
            have HRW := hide (show ∀ g, (Value.slice A4 q c4).ownBlock = some g → g < W6.heap.size from fun g hg => by have := (hrw g hg).2; omega)
            have HRW2 := hide (show ∀ g, (Value.slice A4 q c4).ownBlock = some g → wc.heap.size + 1 ≤ g from fun g hg => (hrw g hg).1)
            have HKP := hide (show ∀ w w', Below W6.heap.size W6 w → w.grownBy w' (Value.slice A4 q c4).ownBlock → Kp w w' from fun w w' hB hg => by
              obtain ⟨-, css, -, -, hl, -⟩ := HKR.out.below hB
              exact hl.kp hg)
            have HIH := hide (fun w (hB : Below W6.heap.size W6 w) => ih (NotOwn UU5 (.slice A4 q c4)) tK kK pK AK nK cK false w HSM.out ((HDK.out.keep (Keep.of_below hb6)).keep (Keep.of_below hB)))
            unfold PlainPost at HIH
            have HNEW := hide (show ∀ (w w' : World) (x : LT) vs, Below W6.heap.size W6 w → DIn (Up (NotOwn UU5 (.slice A4 q c4)) w.heap.size) w' x vs → DIn (NotOwn UU5 (.slice A4 q c4)) w' x vs from fun w w' x vs hB h => h.sub (fun b _ hs => by
              rcases hs with hs | hs
              · exact hs
              · have h1 := hB.size
                have h2 := HW6.out
                exact ⟨HUU.out b (by omega), fun e => by have := HRW.out b e.symm; omega⟩))
            have HSTEP := hide (show ∀ (w : World) (A9 : Option Addr) (c9 : Nat), Box 24 w wc.heap.size #[.int .i64 (kd : Int), .int .i64 0, .slice A4 q c4] → KRow (NotOwn UU5 (.slice A9 (q + 1) c9)) w (wc.heap.size + 1) (.slice A9 (q + 1) c9) (q + 1) ((f.kids.take q).map (fun x => tree (plain (norm x) false)) ++ [tree (plain (norm tK) false)]) → W6.grownBy w (Value.slice A4 q c4).ownBlock → ∃ (A4 : Option Addr) (c4 : Nat), Below wc.heap.size wc (w.setCell ⟨wc.heap.size, 2, none⟩ (.slice A9 (q + 1) c9)) ∧ Box 24 (w.setCell ⟨wc.heap.size, 2, none⟩ (.slice A9 (q + 1) c9)) wc.heap.size #[.int .i64 (kd : Int), .int .i64 0, .slice A4 (q + 1) c4] ∧ KRow (NotOwn UU5 (.slice A4 (q + 1) c4)) (w.setCell ⟨wc.heap.size, 2, none⟩ (.slice A9 (q + 1) c9)) (wc.heap.size + 1) (.slice A4 (q + 1) c4) (q + 1) ((f.kids.take (q + 1)).map (fun x => tree (plain (norm x) false))) from fun w A9 c9 hx hk hg => by
              have hbw := (HBW.out.next hb6).grown hg (HBW.out.next hb6).size (fun k e => by have := HRW2.out k e; omega)
              have ho := only_set1 w wc.heap.size 2 (.slice A9 (q + 1) c9)
              refine ⟨A9, c9, hbw.trans (ho.below hbw.size (Nat.le_refl _)), (box_set3 hx _).2, ?_⟩
              rw [HTK.out]
              exact hk.other ho (by omega) (fun h => HUN.out.1 h.1))
            have SOF := hide (show ∀ W, Below W6.heap.size W6 W → (W.cell? ⟨wc.heap.size, 2, none⟩ = some (.slice A4 q c4) ∧ W.cell? ⟨wr.heap.size, 0, none⟩ = some (.int .i64 kK) ∧ W.cell? ⟨wr.heap.size, 1, none⟩ = some (.int .i64 pK) ∧ W.cell? ⟨wr.heap.size, 2, none⟩ = some (.slice AK nK cK)) from fun W h => ⟨(HX5.out.next h).cell 2 _ rfl, (HX7.out.next h).cell 0 _ rfl, (HX7.out.next h).cell 1 _ rfl, (HX7.out.next h).cell 2 _ rfl⟩)
            clear hb6 hs6 hrw
            refine wp_drawnL (by kernel_rfl) (by kernel_rfl) (by kernel_rfl) (by kernel_rfl) (Tg (Value.slice A4 q c4).ownBlock) (fun j v w => match j with | 0 => v = .pointer (some ⟨wc.heap.size, 2, none⟩) | 1 => v = .slice A4 q c4 | 2 => v = .agg #[.int .i64 kK, .int .i64 pK, .slice AK nK cK] | 3 => v = .bool false | 4 => ∃ k x A n c, v = .agg #[.int .i64 k, .int .i64 x, .slice A n c] ∧ DIn (NotOwn UU5 (.slice A4 q c4)) w (tree (plain (norm tK) false)) (c3 k x A n c) | 5 => ∃ gs k x A n c, v = .slice (some ⟨gs, 0, none⟩) 1 1 ∧ W6.heap.size ≤ gs ∧ Box 24 w gs #[.int .i64 k, .int .i64 x, .slice A n c] ∧ DIn (NotOwn UU5 (.slice A4 q c4)) w (tree (plain (norm tK) false)) (c3 k x A n c) | 6 => True | 7 => v = .pointer (some ⟨wc.heap.size, 2, none⟩) | _ => True) (GA 6 W6 (fun v w => KRow (NotOwn UU5 v) w (wc.heap.size + 1) v (q + 1) ((f.kids.take q).map (fun x => tree (plain (norm x) false)) ++ [(tree (plain (norm tK) false))]) ∧ W6.grownBy w (Value.slice A4 q c4).ownBlock)) ?_ (fun _ => GA.start _ (bl_drewN W6 1)) ?_ ?_
            · intro j v w w' hT h
              match j, h with
              | 0, h => exact h
              | 1, h => exact h
              | 2, h => exact h
              | 3, h => exact h
              | 4, h => exact (by obtain ⟨k, x, A, n, c, e, d⟩ := h; exact ⟨k, x, A, n, c, e, d.keep (⟨hT.1.size, fun b hb hlt => hT.1.block b hlt hb.2⟩)⟩)
              | 5, h => exact (by obtain ⟨gs, k, x, A, n, c, e, hg, hx, d⟩ := h; exact ⟨gs, k, x, A, n, c, e, hg, hx.grown hT.1 (fun e => by have := HRW.out gs e.symm; omega), d.keep (⟨hT.1.size, fun b hb hlt => hT.1.block b hlt hb.2⟩)⟩)
              | 6, h => exact trivial
              | 7, h => exact h
              | j + 8, h => trivial
            · refine ⟨?_, ?_, ?_, ?_, ?_, ?_, ?_, ?_, trivial⟩
              · intro listed σ w a hin hout hl hla hs hc hp hG hF
                refine Guarded.none rfl ?_
                have e5 : a.tmps.getD 5 undef = .pointer (some ⟨wc.heap.size, 0, none⟩) := hout 5 (outB_spec (by kernel_rfl))
                refine Does.val (.pointer (some ⟨wc.heap.size, 2, none⟩)) (w' := w) ?_ ⟨Tg.refl _ _, rfl, hG.same (by decide)⟩
                simp only [Array.getD_eq_getD_getElem?] at e5
                go_simp
              · intro listed σ w a hin hout hl hla hs hc hp hG hF
                refine Guarded.none rfl ?_
                have e75 : a.tmps.getD 75 undef = .pointer (some ⟨wc.heap.size, 2, none⟩) := (hin 0 75 rfl (hp ⟨0, .data⟩ (by simp) rfl)).trans (hF 0 (hp ⟨0, .data⟩ (by simp) rfl))
                have CC := SOF.out w (hG.1 (un_next (k := 6) hc hl (by kernel_rfl))); obtain ⟨C0, C1, C2, C3⟩ := CC
                refine Does.val (.slice A4 q c4) (w' := w) ?_ ⟨Tg.refl _ _, rfl, hG.same (by decide)⟩
                go_simp
              · intro listed σ w a hin hout hl hla hs hc hp hG hF
                refine Guarded.none rfl ?_
                have e7 : a.tmps.getD 7 undef = .pointer (some ⟨wr.heap.size, 0, none⟩) := hout 7 (outB_spec (by kernel_rfl))
                have CC := SOF.out w (hG.1 (un_next (k := 6) hc (un_next (k := 4) hc hl (by kernel_rfl)) (by kernel_rfl))); obtain ⟨C0, C1, C2, C3⟩ := CC
                refine Does.val (.agg #[.int .i64 kK, .int .i64 pK, .slice AK nK cK]) (w' := w) ?_ ⟨Tg.refl _ _, rfl, hG.same (by decide)⟩
                go_simp
              · intro listed σ w a hin hout hl hla hs hc hp hG hF
                refine Guarded.none rfl ?_
                have e1 : a.tmps.getD 1 undef = .bool false := hout 1 (outB_spec (by kernel_rfl))
                refine Does.val (.bool false) (w' := w) ?_ ⟨Tg.refl _ _, rfl, hG.same (by decide)⟩
                simp only [Array.getD_eq_getD_getElem?] at e1
                go_simp
              · intro listed σ w a hin hout hl hla hs hc hp hG hF
                refine Guarded.none rfl ?_
                have e77 : a.tmps.getD 77 undef = .agg #[.int .i64 kK, .int .i64 pK, .slice AK nK cK] := (hin 2 77 rfl (hp ⟨2, .data⟩ (by simp) rfl)).trans (hF 2 (hp ⟨2, .data⟩ (by simp) rfl))
                have e78 : a.tmps.getD 78 undef = .bool false := (hin 3 78 rfl (hp ⟨3, .data⟩ (by simp) rfl)).trans (hF 3 (hp ⟨3, .data⟩ (by simp) rfl))
                have hB := hG.1 (un_next (k := 6) hc hl (by kernel_rfl))
                refine Does.call ?_ (HIH.out w hB) ?_
                · go_simp
                · rintro e w' ⟨k, x, A, n, c, rfl, hd, hb⟩
                  exact ⟨_, rfl, Tg.of_below hb, ⟨k, x, A, n, c, rfl, HNEW.out w w' _ _ hB hd⟩, hG.call (by decide) (un_next (k := 6) hc hl (by kernel_rfl)) hb⟩
              · intro listed σ w a hin hout hl hla hs hc hp hG hF
                refine Guarded.none rfl ?_
                have e79 := hin 4 79 rfl (hp ⟨4, .data⟩ (by simp) rfl)
                obtain ⟨k4, x4, A44, n4, c44, ev4, d4⟩ := hF 4 (hp ⟨4, .data⟩ (by simp) rfl)
                rw [ev4] at e79
                have hB := hG.1 (un_next (k := 6) hc hl (by kernel_rfl))
                refine Does.val (.slice (some ⟨w.heap.size, 0, none⟩) 1 1) (w' := w.alloc (.cells #[.int .i64 k4, .int .i64 x4, .slice A44 n4 c44] 24)) ?_ ⟨Tg.of_below (bl_alloc w _), ⟨w.heap.size, k4, x4, A44, n4, c44, rfl, hB.size, Box.new _ _ _, d4.keep (Keep.of_below (bl_alloc w _))⟩, hG.call (by decide) (un_next (k := 6) hc hl (by kernel_rfl)) (bl_alloc w _)⟩
                simp only [Array.getD_eq_getD_getElem?] at e79
                go_simp
              · intro listed σ w a hin hout hl hla hs hc hp hG hF
                refine Guarded.none rfl ?_
                have e76 : a.tmps.getD 76 undef = .slice A4 q c4 := (hin 1 76 rfl (hp ⟨1, .data⟩ (by simp) rfl)).trans (hF 1 (hp ⟨1, .data⟩ (by simp) rfl))
                have e80 := hin 5 80 rfl (hp ⟨5, .data⟩ (by simp) rfl)
                obtain ⟨g5, k5, x5, A55, n55, c55, ev5, hg5, b5, d5⟩ := hF 5 (hp ⟨5, .data⟩ (by simp) rfl)
                rw [ev5] at e80
                have hl0 := hl
                have hB := hG.1 hl
                have hkr := HKR.out.below hB
                obtain ⟨v', w', hr, h2, h3⟩ := run_append_k _ hkr b5 d5 (by omega) (by have := hB.size; have := HW6.out; omega) HUU.out
                refine Does.val v' (w' := w') ?_ ⟨⟨h3, HKP.out w w' hB h3⟩, trivial, GA.on_ hl0 (by rw [hs]; decide) ⟨h2, grown_trans hB h3⟩⟩
                exact exec_append rfl e76 e80 hr
              · intro listed σ w a hin hout hl hla hs hc hp hG hF
                refine Guarded.none rfl ?_
                have e5 : a.tmps.getD 5 undef = .pointer (some ⟨wc.heap.size, 0, none⟩) := hout 5 (outB_spec (by kernel_rfl))
                refine Does.val (.pointer (some ⟨wc.heap.size, 2, none⟩)) (w' := w) ?_ ⟨Tg.refl _ _, rfl, hG.same (by decide)⟩
                simp only [Array.getD_eq_getD_getElem?] at e5
                go_simp
            · intro o ho
              injection ho with ho; subst ho
              intro listed σ w a hall hin hout hG hF
              refine Guarded.none rfl ?_
              have e82 : a.tmps.getD 82 undef = .pointer (some ⟨wc.heap.size, 2, none⟩) := (hin 7 82 rfl (by decide)).trans (hF 7 (by decide))
              have e81 := hin 6 81 rfl (by decide)
              have z6 := hF 6 (by decide)
              obtain ⟨k2r, g2⟩ := hG.2 (hall 6 (by decide))
              have x9 := HX5.out.grown g2 (fun e => by have := HRW2.out _ e.symm; omega)
              have hkl := k2r
              obtain ⟨-, css9, -, -, hl9, -⟩ := hkl
              obtain ⟨A9, c9, hv9, -, -, -⟩ := hl9.len
              rw [hv9] at e81 k2r
              have u2 := x9.cell 2 _ rfl
              have fr := Box.fr x9 2
              refine Does.skip (w' := w.setCell ⟨wc.heap.size, 2, none⟩ (.slice A9 (q + 1) c9)) (by simp only [Array.getD_eq_getD_getElem?] at e81 e82; go_simp) ?_
              have HST2 := hide (HSTEP.out w A9 c9 x9 k2r g2)
              rw [show fin _ σ undef _ = (Act.put (Act.put (Act.put (Act.put (Act.put (Act.put (Act.put (Act.put (Act.put _ (some 75) (σ 0)) (some 76) (σ 1)) (some 77) (σ 2)) (some 78) (σ 3)) (some 79) (σ 4)) (some 80) (σ 5)) (some 81) (σ 6)) (some 82) (σ 7)) none undef) from (fin_all hall).trans rfl]
              simp only [Act.put, List.setIfInBounds_toArray, List.set_cons_zero, List.set_cons_succ]
              generalize σ 0 = tt0 at *; generalize σ 1 = tt1 at *; generalize σ 2 = tt2 at *; generalize σ 3 = tt3 at *; generalize σ 4 = tt4 at *; generalize σ 5 = tt5 at *; generalize σ 6 = tt6 at *; generalize σ 7 = tt7 at *
              clear hF hG hall hin hout SOF e81 e82 k2r hl9 x9 u2 fr g2
              go_wp2_with fail
              go_roundw
              case rel => exact ⟨q + 1, by omega, by go_num, HST2⟩
              case measure => simp [intOf]; omega
          · obtain rfl : q = n5 := by omega
            have x4 := X4.out.next hbw
            have e0 := hx5.cell 0 _ rfl
            have e1 := hx5.cell 1 _ rfl
            have e2 := hx5.cell 2 _ rfl
            have HDN := hide (show DIn (Up (UpN S w0.heap.size) (w0.heap.size + 2)) wr (tree (plain (norm t) false)) (c3 (kd : Int) 0 A4 q c4) from by
              have hk := hkr
              obtain ⟨-, css, -, -, hl, -⟩ := hk
              have hks := hkr.ksIn
              rw [List.take_of_length_le (by rw [HKF.out.1]; exact Nat.le_refl _)] at hks
              rw [HOUT.out]
              have hd := DIn.close (kd : Int) 0 hks (c := c4) (by obtain ⟨A9, c9, e, h1, -⟩ := hl.len; injection e with e1 e2 e3; omega) (by obtain ⟨A9, c9, e, -, h1, -⟩ := hl.len; injection e with e1 e2 e3; omega) (fun hA => by
                rcases hl.2 with ⟨e, hn⟩ | ⟨g, cap, cur, e, -⟩
                · injection e with e1 e2 e3; exact ⟨hn, e3⟩
                · rw [hA] at e; injection e with e1 e2 e3; cases e1)
              exact hd.sub (fun b _ hs => by
                rcases hs with hs | hs
                · exact HUN.out.2 b hs.1
                · exact HUN.out.2 b (HUU.out b hs)))
            have HBQ := hide (HB.out.trans (hbw.mono (by omega)))
            clear hx5 hkr hbw
            go_wp2_with (with_reducible refine wpList_store_box rfl 24 _ _ rfl (w0.heap.size + 1) #[.int .i64 (kd : Int), .int .i64 0, .slice A4 q c4] rfl rfl _ x4 (by kernel_rfl) rfl (by simp [Value.oneCell']) ?_; intro w9 k9 ho9)
            refine bodyPost_lt rfl rfl k9 rfl ?_
            exact HPO.out _ _ _ _ _ _ (HDN.out.keep (Keep.of_only ho9 (fun h => by rcases h with ⟨-, h⟩ | h <;> omega))) (HBQ.out.trans (ho9.below HBQ.out.size (by omega)))
      · have hkd2 : kd = dualN kk := hkd
        clear hkd
        have hdu := fun W => dual_any kk W
        rw [← hkd2] at hdu
        have HDU := hide hdu
        clear hdu hkd2
        go_wp2_with fail
        have x5 := Box.new 24 wc #[.int .i64 (kk : Int), .int .i64 0, .slice none 0 0]
        have b5 := bl_alloc wc (.cells #[.int .i64 (kk : Int), .int .i64 0, .slice none 0 0] 24)
        refine (HDU.out _).mono ?_
        rintro e wd ⟨rfl, bd⟩
        have X5 := hide (x5.next bd)
        have B5 := hide (b5.next bd)
        have cc0 := (x5.next bd).cell 0 _ rfl
        have fr := Box.fr (x5.next bd) 0
        have cc2 := (X2.out.next (b5.next bd)).cell 2 _ rfl
        have hlt5 := (x5.next bd).lt
        clear x5 b5 bd HDU
        go_wp2_with fail
        obtain ⟨UU5, hUU5⟩ : ∃ U, U = Up (UpN (Up (UpN S w0.heap.size) (w0.heap.size + 2)) wc.heap.size) (wc.heap.size + 1) := ⟨_, rfl⟩
        have HUU := hide (show ∀ b, wc.heap.size + 1 ≤ b → UU5 b from fun b hb => by rw [hUU5]; exact .inr hb)
        have HUN := hide (show ¬ UU5 wc.heap.size ∧ ∀ b, UU5 b → (Up (UpN S w0.heap.size) (w0.heap.size + 2)) b from ⟨fun h => by rw [hUU5] at h; rcases h with ⟨-, h⟩ | h <;> omega, fun b h => by
          rw [hUU5] at h
          have := HSZ.out
          rcases h with ⟨h, -⟩ | h
          · exact h
          · exact .inr (by omega)⟩)
        have HKF3 := hide (HKF.out.sub (fun b hlt hs => (⟨hs, hlt⟩ : UpN (Up (UpN S w0.heap.size) (w0.heap.size + 2)) wc.heap.size b)))
        have HUD := hide (show ∀ b, UpN (Up (UpN S w0.heap.size) (w0.heap.size + 2)) wc.heap.size b → UU5 b from fun b h => by rw [hUU5]; exact .inl h)
        clear hUU5
        have HST0 := hide (show ∃ (A4 : Option Addr) (c4 : Nat), Below wc.heap.size wc (wd.setCell ⟨wc.heap.size, 0, none⟩ (.int .i64 (kd : Int))) ∧ Box 24 (wd.setCell ⟨wc.heap.size, 0, none⟩ (.int .i64 (kd : Int))) wc.heap.size #[.int .i64 (kd : Int), .int .i64 0, .slice A4 0 c4] ∧ KRow (NotOwn UU5 (.slice A4 0 c4)) (wd.setCell ⟨wc.heap.size, 0, none⟩ (.int .i64 (kd : Int))) (wc.heap.size + 1) (.slice A4 0 c4) 0 ((f.kids.take 0).map (fun x => tree (plain (norm x) true))) from ⟨none, 0, B5.out.trans ((only_set1 wd wc.heap.size 0 (.int .i64 (kd : Int))).below B5.out.size (Nat.le_refl _)), (box_set3 X5.out _).1, KRow.nil _ _ _⟩)
        generalize hWl : (wd.setCell ⟨wc.heap.size, 0, none⟩ (.int .i64 (kd : Int))) = W1 at *
        clear hWl
        go_loopw [71, 7] (fun i m wr => ∃ q : Nat, q ≤ n5 ∧ i = .int .i64 q ∧ Hid (∃ (A4 : Option Addr) (c4 : Nat), Below wc.heap.size wc wr ∧ Box 24 wr wc.heap.size #[.int .i64 (kd : Int), .int .i64 0, .slice A4 q c4] ∧ KRow (NotOwn UU5 (.slice A4 q c4)) wr (wc.heap.size + 1) (.slice A4 q c4) q ((f.kids.take q).map (fun x => tree (plain (norm x) true))))) (fun i _ _ => n5 - (intOf i).toNat)
        case atStart => exact ⟨0, Nat.zero_le _, rfl, HST0⟩
        case round =>
          obtain ⟨q, hq, rfl, HR⟩ := hrel
          obtain ⟨A4, c4, hbw, hx5, hkr⟩ := HR.out
          by_cases hqn : q < n5
          · obtain ⟨be, oe, tK, kK, pK, AK, nK, cK, hA5, hlt, hkid, hdk, d0, d1, d2⟩ := (HKF3.out.keep (Keep.of_below hbw)).at_ hqn
            subst hA5
            have hx5l := hx5.lt
            have HLR := hide hkr
            have hrw : ∀ g, (Value.slice A4 q c4).ownBlock = some g → wc.heap.size + 1 ≤ g ∧ g < wr.heap.size := fun g hg => by
              obtain ⟨-, css, -, -, hl, -⟩ := hkr
              exact hl.lt g hg
            have HDK := hide (hdk.sub (fun b hlt hs => (⟨HUD.out b hs, fun e => by have := (hrw b e.symm).1; have := hs.2; omega⟩ : NotOwn UU5 (.slice A4 q c4) b)))
            have HTK := hide (show (f.kids.take (q + 1)).map (fun x => tree (plain (norm x) true)) = (f.kids.take q).map (fun x => tree (plain (norm x) true)) ++ [tree (plain (norm tK) true)] from by
              rw [List.take_add_one, hkid, List.map_append]; rfl)
            have HSM := hide (HRD.out.small tK (List.mem_of_getElem? hkid))
            have HBW := hide hbw
            have HX5a := hide hx5
            clear hdk hkid hbw hx5 hkr
            go_upto_region 21 with fail
            have hb6 := bl_alloc wr (.cells #[.int .i64 kK, .int .i64 pK, .slice AK nK cK] 24)
            have HX7 := hide (Box.new 24 wr #[.int .i64 kK, .int .i64 pK, .slice AK nK cK])
            have hs6 : (wr.alloc (.cells #[.int .i64 kK, .int .i64 pK, .slice AK nK cK] 24)).heap.size = wr.heap.size + 1 := size_alloc2 _ _
            generalize hW6 : wr.alloc (.cells #[.int .i64 kK, .int .i64 pK, .slice AK nK cK] 24) = W6 at *
            clear hW6 d0 d1 d2
            have HX5 := hide (HX5a.out.next hb6)
            have HKR := hide (HLR.out.below hb6)
            have HW6 := hide (show wc.heap.size + 1 ≤ W6.heap.size from by omega)
            have HRW := hide (show ∀ g, (Value.slice A4 q c4).ownBlock = some g → g < W6.heap.size from fun g hg => by have := (hrw g hg).2; omega)
            have HRW2 := hide (show ∀ g, (Value.slice A4 q c4).ownBlock = some g → wc.heap.size + 1 ≤ g from fun g hg => (hrw g hg).1)
            have HKP := hide (show ∀ w w', Below W6.heap.size W6 w → w.grownBy w' (Value.slice A4 q c4).ownBlock → Kp w w' from fun w w' hB hg => by
              obtain ⟨-, css, -, -, hl, -⟩ := HKR.out.below hB
              exact hl.kp hg)
            have HIH := hide (fun w (hB : Below W6.heap.size W6 w) => ih (NotOwn UU5 (.slice A4 q c4)) tK kK pK AK nK cK true w HSM.out ((HDK.out.keep (Keep.of_below hb6)).keep (Keep.of_below hB)))
            unfold PlainPost at HIH
            have HNEW := hide (show ∀ (w w' : World) (x : LT) vs, Below W6.heap.size W6 w → DIn (Up (NotOwn UU5 (.slice A4 q c4)) w.heap.size) w' x vs → DIn (NotOwn UU5 (.slice A4 q c4)) w' x vs from fun w w' x vs hB h => h.sub (fun b _ hs => by
              rcases hs with hs | hs
              · exact hs
              · have h1 := hB.size
                have h2 := HW6.out
                exact ⟨HUU.out b (by omega), fun e => by have := HRW.out b e.symm; omega⟩))
            have HSTEP := hide (show ∀ (w : World) (A9 : Option Addr) (c9 : Nat), Box 24 w wc.heap.size #[.int .i64 (kd : Int), .int .i64 0, .slice A4 q c4] → KRow (NotOwn UU5 (.slice A9 (q + 1) c9)) w (wc.heap.size + 1) (.slice A9 (q + 1) c9) (q + 1) ((f.kids.take q).map (fun x => tree (plain (norm x) true)) ++ [tree (plain (norm tK) true)]) → W6.grownBy w (Value.slice A4 q c4).ownBlock → ∃ (A4 : Option Addr) (c4 : Nat), Below wc.heap.size wc (w.setCell ⟨wc.heap.size, 2, none⟩ (.slice A9 (q + 1) c9)) ∧ Box 24 (w.setCell ⟨wc.heap.size, 2, none⟩ (.slice A9 (q + 1) c9)) wc.heap.size #[.int .i64 (kd : Int), .int .i64 0, .slice A4 (q + 1) c4] ∧ KRow (NotOwn UU5 (.slice A4 (q + 1) c4)) (w.setCell ⟨wc.heap.size, 2, none⟩ (.slice A9 (q + 1) c9)) (wc.heap.size + 1) (.slice A4 (q + 1) c4) (q + 1) ((f.kids.take (q + 1)).map (fun x => tree (plain (norm x) true))) from fun w A9 c9 hx hk hg => by
              have hbw := (HBW.out.next hb6).grown hg (HBW.out.next hb6).size (fun k e => by have := HRW2.out k e; omega)
              have ho := only_set1 w wc.heap.size 2 (.slice A9 (q + 1) c9)
              refine ⟨A9, c9, hbw.trans (ho.below hbw.size (Nat.le_refl _)), (box_set3 hx _).2, ?_⟩
              rw [HTK.out]
              exact hk.other ho (by omega) (fun h => HUN.out.1 h.1))
            have SOF := hide (show ∀ W, Below W6.heap.size W6 W → (W.cell? ⟨wc.heap.size, 2, none⟩ = some (.slice A4 q c4) ∧ W.cell? ⟨wr.heap.size, 0, none⟩ = some (.int .i64 kK) ∧ W.cell? ⟨wr.heap.size, 1, none⟩ = some (.int .i64 pK) ∧ W.cell? ⟨wr.heap.size, 2, none⟩ = some (.slice AK nK cK)) from fun W h => ⟨(HX5.out.next h).cell 2 _ rfl, (HX7.out.next h).cell 0 _ rfl, (HX7.out.next h).cell 1 _ rfl, (HX7.out.next h).cell 2 _ rfl⟩)
            clear hb6 hs6 hrw
            refine wp_drawnL (by kernel_rfl) (by kernel_rfl) (by kernel_rfl) (by kernel_rfl) (Tg (Value.slice A4 q c4).ownBlock) (fun j v w => match j with | 0 => v = .pointer (some ⟨wc.heap.size, 2, none⟩) | 1 => v = .slice A4 q c4 | 2 => v = .agg #[.int .i64 kK, .int .i64 pK, .slice AK nK cK] | 3 => v = .bool true | 4 => ∃ k x A n c, v = .agg #[.int .i64 k, .int .i64 x, .slice A n c] ∧ DIn (NotOwn UU5 (.slice A4 q c4)) w (tree (plain (norm tK) true)) (c3 k x A n c) | 5 => ∃ gs k x A n c, v = .slice (some ⟨gs, 0, none⟩) 1 1 ∧ W6.heap.size ≤ gs ∧ Box 24 w gs #[.int .i64 k, .int .i64 x, .slice A n c] ∧ DIn (NotOwn UU5 (.slice A4 q c4)) w (tree (plain (norm tK) true)) (c3 k x A n c) | 6 => True | 7 => v = .pointer (some ⟨wc.heap.size, 2, none⟩) | _ => True) (GA 6 W6 (fun v w => KRow (NotOwn UU5 v) w (wc.heap.size + 1) v (q + 1) ((f.kids.take q).map (fun x => tree (plain (norm x) true)) ++ [(tree (plain (norm tK) true))]) ∧ W6.grownBy w (Value.slice A4 q c4).ownBlock)) ?_ (fun _ => GA.start _ (bl_drewN W6 1)) ?_ ?_
            · intro j v w w' hT h
              match j, h with
              | 0, h => exact h
              | 1, h => exact h
              | 2, h => exact h
              | 3, h => exact h
              | 4, h => exact (by obtain ⟨k, x, A, n, c, e, d⟩ := h; exact ⟨k, x, A, n, c, e, d.keep (⟨hT.1.size, fun b hb hlt => hT.1.block b hlt hb.2⟩)⟩)
              | 5, h => exact (by obtain ⟨gs, k, x, A, n, c, e, hg, hx, d⟩ := h; exact ⟨gs, k, x, A, n, c, e, hg, hx.grown hT.1 (fun e => by have := HRW.out gs e.symm; omega), d.keep (⟨hT.1.size, fun b hb hlt => hT.1.block b hlt hb.2⟩)⟩)
              | 6, h => exact trivial
              | 7, h => exact h
              | j + 8, h => trivial
            · refine ⟨?_, ?_, ?_, ?_, ?_, ?_, ?_, ?_, trivial⟩
              · intro listed σ w a hin hout hl hla hs hc hp hG hF
                refine Guarded.none rfl ?_
                have e5 : a.tmps.getD 5 undef = .pointer (some ⟨wc.heap.size, 0, none⟩) := hout 5 (outB_spec (by kernel_rfl))
                refine Does.val (.pointer (some ⟨wc.heap.size, 2, none⟩)) (w' := w) ?_ ⟨Tg.refl _ _, rfl, hG.same (by decide)⟩
                simp only [Array.getD_eq_getD_getElem?] at e5
                go_simp
              · intro listed σ w a hin hout hl hla hs hc hp hG hF
                refine Guarded.none rfl ?_
                have e75 : a.tmps.getD 75 undef = .pointer (some ⟨wc.heap.size, 2, none⟩) := (hin 0 75 rfl (hp ⟨0, .data⟩ (by simp) rfl)).trans (hF 0 (hp ⟨0, .data⟩ (by simp) rfl))
                have CC := SOF.out w (hG.1 (un_next (k := 6) hc hl (by kernel_rfl))); obtain ⟨C0, C1, C2, C3⟩ := CC
                refine Does.val (.slice A4 q c4) (w' := w) ?_ ⟨Tg.refl _ _, rfl, hG.same (by decide)⟩
                go_simp
              · intro listed σ w a hin hout hl hla hs hc hp hG hF
                refine Guarded.none rfl ?_
                have e7 : a.tmps.getD 7 undef = .pointer (some ⟨wr.heap.size, 0, none⟩) := hout 7 (outB_spec (by kernel_rfl))
                have CC := SOF.out w (hG.1 (un_next (k := 6) hc (un_next (k := 4) hc hl (by kernel_rfl)) (by kernel_rfl))); obtain ⟨C0, C1, C2, C3⟩ := CC
                refine Does.val (.agg #[.int .i64 kK, .int .i64 pK, .slice AK nK cK]) (w' := w) ?_ ⟨Tg.refl _ _, rfl, hG.same (by decide)⟩
                go_simp
              · intro listed σ w a hin hout hl hla hs hc hp hG hF
                refine Guarded.none rfl ?_
                have e1 : a.tmps.getD 1 undef = .bool true := hout 1 (outB_spec (by kernel_rfl))
                refine Does.val (.bool true) (w' := w) ?_ ⟨Tg.refl _ _, rfl, hG.same (by decide)⟩
                simp only [Array.getD_eq_getD_getElem?] at e1
                go_simp
              · intro listed σ w a hin hout hl hla hs hc hp hG hF
                refine Guarded.none rfl ?_
                have e77 : a.tmps.getD 77 undef = .agg #[.int .i64 kK, .int .i64 pK, .slice AK nK cK] := (hin 2 77 rfl (hp ⟨2, .data⟩ (by simp) rfl)).trans (hF 2 (hp ⟨2, .data⟩ (by simp) rfl))
                have e78 : a.tmps.getD 78 undef = .bool true := (hin 3 78 rfl (hp ⟨3, .data⟩ (by simp) rfl)).trans (hF 3 (hp ⟨3, .data⟩ (by simp) rfl))
                have hB := hG.1 (un_next (k := 6) hc hl (by kernel_rfl))
                refine Does.call ?_ (HIH.out w hB) ?_
                · go_simp
                · rintro e w' ⟨k, x, A, n, c, rfl, hd, hb⟩
                  exact ⟨_, rfl, Tg.of_below hb, ⟨k, x, A, n, c, rfl, HNEW.out w w' _ _ hB hd⟩, hG.call (by decide) (un_next (k := 6) hc hl (by kernel_rfl)) hb⟩
              · intro listed σ w a hin hout hl hla hs hc hp hG hF
                refine Guarded.none rfl ?_
                have e79 := hin 4 79 rfl (hp ⟨4, .data⟩ (by simp) rfl)
                obtain ⟨k4, x4, A44, n4, c44, ev4, d4⟩ := hF 4 (hp ⟨4, .data⟩ (by simp) rfl)
                rw [ev4] at e79
                have hB := hG.1 (un_next (k := 6) hc hl (by kernel_rfl))
                refine Does.val (.slice (some ⟨w.heap.size, 0, none⟩) 1 1) (w' := w.alloc (.cells #[.int .i64 k4, .int .i64 x4, .slice A44 n4 c44] 24)) ?_ ⟨Tg.of_below (bl_alloc w _), ⟨w.heap.size, k4, x4, A44, n4, c44, rfl, hB.size, Box.new _ _ _, d4.keep (Keep.of_below (bl_alloc w _))⟩, hG.call (by decide) (un_next (k := 6) hc hl (by kernel_rfl)) (bl_alloc w _)⟩
                simp only [Array.getD_eq_getD_getElem?] at e79
                go_simp
              · intro listed σ w a hin hout hl hla hs hc hp hG hF
                refine Guarded.none rfl ?_
                have e76 : a.tmps.getD 76 undef = .slice A4 q c4 := (hin 1 76 rfl (hp ⟨1, .data⟩ (by simp) rfl)).trans (hF 1 (hp ⟨1, .data⟩ (by simp) rfl))
                have e80 := hin 5 80 rfl (hp ⟨5, .data⟩ (by simp) rfl)
                obtain ⟨g5, k5, x5, A55, n55, c55, ev5, hg5, b5, d5⟩ := hF 5 (hp ⟨5, .data⟩ (by simp) rfl)
                rw [ev5] at e80
                have hl0 := hl
                have hB := hG.1 hl
                have hkr := HKR.out.below hB
                obtain ⟨v', w', hr, h2, h3⟩ := run_append_k _ hkr b5 d5 (by omega) (by have := hB.size; have := HW6.out; omega) HUU.out
                refine Does.val v' (w' := w') ?_ ⟨⟨h3, HKP.out w w' hB h3⟩, trivial, GA.on_ hl0 (by rw [hs]; decide) ⟨h2, grown_trans hB h3⟩⟩
                exact exec_append rfl e76 e80 hr
              · intro listed σ w a hin hout hl hla hs hc hp hG hF
                refine Guarded.none rfl ?_
                have e5 : a.tmps.getD 5 undef = .pointer (some ⟨wc.heap.size, 0, none⟩) := hout 5 (outB_spec (by kernel_rfl))
                refine Does.val (.pointer (some ⟨wc.heap.size, 2, none⟩)) (w' := w) ?_ ⟨Tg.refl _ _, rfl, hG.same (by decide)⟩
                simp only [Array.getD_eq_getD_getElem?] at e5
                go_simp
            · intro o ho
              injection ho with ho; subst ho
              intro listed σ w a hall hin hout hG hF
              refine Guarded.none rfl ?_
              have e82 : a.tmps.getD 82 undef = .pointer (some ⟨wc.heap.size, 2, none⟩) := (hin 7 82 rfl (by decide)).trans (hF 7 (by decide))
              have e81 := hin 6 81 rfl (by decide)
              have z6 := hF 6 (by decide)
              obtain ⟨k2r, g2⟩ := hG.2 (hall 6 (by decide))
              have x9 := HX5.out.grown g2 (fun e => by have := HRW2.out _ e.symm; omega)
              have hkl := k2r
              obtain ⟨-, css9, -, -, hl9, -⟩ := hkl
              obtain ⟨A9, c9, hv9, -, -, -⟩ := hl9.len
              rw [hv9] at e81 k2r
              have u2 := x9.cell 2 _ rfl
              have fr := Box.fr x9 2
              refine Does.skip (w' := w.setCell ⟨wc.heap.size, 2, none⟩ (.slice A9 (q + 1) c9)) (by simp only [Array.getD_eq_getD_getElem?] at e81 e82; go_simp) ?_
              have HST2 := hide (HSTEP.out w A9 c9 x9 k2r g2)
              rw [show fin _ σ undef _ = (Act.put (Act.put (Act.put (Act.put (Act.put (Act.put (Act.put (Act.put (Act.put _ (some 75) (σ 0)) (some 76) (σ 1)) (some 77) (σ 2)) (some 78) (σ 3)) (some 79) (σ 4)) (some 80) (σ 5)) (some 81) (σ 6)) (some 82) (σ 7)) none undef) from (fin_all hall).trans rfl]
              simp only [Act.put, List.setIfInBounds_toArray, List.set_cons_zero, List.set_cons_succ]
              generalize σ 0 = tt0 at *; generalize σ 1 = tt1 at *; generalize σ 2 = tt2 at *; generalize σ 3 = tt3 at *; generalize σ 4 = tt4 at *; generalize σ 5 = tt5 at *; generalize σ 6 = tt6 at *; generalize σ 7 = tt7 at *
              clear hF hG hall hin hout SOF e81 e82 k2r hl9 x9 u2 fr g2
              go_wp2_with fail
              go_roundw
              case rel => exact ⟨q + 1, by omega, by go_num, HST2⟩
              case measure => simp [intOf]; omega
          · obtain rfl : q = n5 := by omega
            have x4 := X4.out.next hbw
            have e0 := hx5.cell 0 _ rfl
            have e1 := hx5.cell 1 _ rfl
            have e2 := hx5.cell 2 _ rfl
            have HDN := hide (show DIn (Up (UpN S w0.heap.size) (w0.heap.size + 2)) wr (tree (plain (norm t) true)) (c3 (kd : Int) 0 A4 q c4) from by
              have hk := hkr
              obtain ⟨-, css, -, -, hl, -⟩ := hk
              have hks := hkr.ksIn
              rw [List.take_of_length_le (by rw [HKF.out.1]; exact Nat.le_refl _)] at hks
              rw [HOUT.out]
              have hd := DIn.close (kd : Int) 0 hks (c := c4) (by obtain ⟨A9, c9, e, h1, -⟩ := hl.len; injection e with e1 e2 e3; omega) (by obtain ⟨A9, c9, e, -, h1, -⟩ := hl.len; injection e with e1 e2 e3; omega) (fun hA => by
                rcases hl.2 with ⟨e, hn⟩ | ⟨g, cap, cur, e, -⟩
                · injection e with e1 e2 e3; exact ⟨hn, e3⟩
                · rw [hA] at e; injection e with e1 e2 e3; cases e1)
              exact hd.sub (fun b _ hs => by
                rcases hs with hs | hs
                · exact HUN.out.2 b hs.1
                · exact HUN.out.2 b (HUU.out b hs)))
            have HBQ := hide (HB.out.trans (hbw.mono (by omega)))
            clear hx5 hkr hbw
            go_wp2_with (with_reducible refine wpList_store_box rfl 24 _ _ rfl (w0.heap.size + 1) #[.int .i64 (kd : Int), .int .i64 0, .slice A4 q c4] rfl rfl _ x4 (by kernel_rfl) rfl (by simp [Value.oneCell']) ?_; intro w9 k9 ho9)
            refine bodyPost_lt rfl rfl k9 rfl ?_
            exact HPO.out _ _ _ _ _ _ (HDN.out.keep (Keep.of_only ho9 (fun h => by rcases h with ⟨-, h⟩ | h <;> omega))) (HBQ.out.trans (ho9.below HBQ.out.size (by omega)))

end Go.Proofs.Ytljocjjdfgpbaaa
