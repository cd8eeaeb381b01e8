/- Texts of one seat, put together: WordN. -/
import Derived.Test.YtljocjjdfgpbaaaB16
import Derived.Sort.CutIn
set_option linter.unusedVariables false
/- track.truths. -/
namespace Go.Proofs.Ytljocjjdfgpbaaa
open Go.RowKit Go.Shelf
open Wo
attribute [local go_sem] Oper.semAt_some

set_option maxRecDepth 100000 in
set_option maxHeartbeats 16000000 in
theorem truths_any (L : List (List Bool)) (b : Nat) (hbL : b < L.length) (h9 : L.length ≤ 1000000) (Z : Nat) : ∀ (S : Nat → Prop) (t : LT) (k p : Int) (A : Option Addr) (n c : Nat) (A1 : Option Addr) (c1 : Nat) (w0 : World), (norm t).size ≤ Z → DIn S w0 t (c3 k p A n c) → LsIn S w0 A1 L.length L →
    Calls Try.prog 31 #[.agg #[.slice A1 L.length c1, .int .i64 (b : Int)], .agg #[.int .i64 k, .int .i64 p, .slice A n c]] w0 (TruthsPost L b t w0) := by
  induction Z with
  | zero => intro S t k p A n c A1 c1 w0 hz; have := (norm t).size_pos; omega
  | succ Z ih =>
    intro S t k p A n c A1 c1 w0 hz hd hls
    obtain ⟨x2, x3, hb, hbz⟩ := bstart2 53 24 w0 #[.slice A1 L.length c1, .int .i64 (b : Int)] #[.int .i64 k, .int .i64 p, .slice A n c]
    have cc0 := x3.cell 0 _ rfl
    have cc1 := x3.cell 1 _ rfl
    have cc2 := x3.cell 2 _ rfl
    have X2 := hide x2
    have X3 := hide x3
    have HB := hide hb
    have HM := hide hbz
    have HCN := hide (counted_any (UpN S w0.heap.size) t k p A n c _ ((hd.sub (fun b hlt hs => (⟨hs, hlt⟩ : UpN S w0.heap.size b))).keep (Keep.of_below hb)))
    have HLS := hide ((hls.sub (fun b hlt hs => (⟨hs, hlt⟩ : UpN S w0.heap.size b))).keep (Keep.of_below hb))
    have HPO := hide (show ∀ w' g, ABox w' g (row L b (norm t)) → w0.heap.size ≤ g → Below w0.heap.size w0 w' → TruthsPost L b t w0 (.returned (.slice (some ⟨g, 0, none⟩) L.length L.length)) w' from fun w' g h1 h2 h3 => ⟨g, rfl, h1, h2, h3⟩)
    clear hb hbz hd hls
    refine (callsIn_wide (n := 1)).1 (callsIn_of_wp_marks Try.func31 rfl trivial (wpIn_wide.2 ?_) rfl)
    simp only [Try.ntmps31, List.size_toArray, List.length_cons, List.length_nil, Nat.reduceAdd, Nat.reduceSub, Array.replicate_succ, Array.replicate_zero, List.push_toArray, List.append_toArray, List.nil_append, List.cons_append]
    go_wp2_with fail
    generalize hW : (w0.alloc (.cells #[.slice A1 L.length c1, .int .i64 (b : Int)] 53)).alloc (.cells #[.int .i64 k, .int .i64 p, .slice A n c] 24) = W1 at *
    clear hW cc0 cc1 cc2 x2 x3
    refine HCN.out.mono ?_
    rintro e w2 ⟨k2, p2, A2, n2, c2, rfl, hd2, b2⟩
    rw [HM.out] at hd2
    obtain ⟨x3, X2, HD, HL, HB⟩ : Box 24 w2 (w0.heap.size + 1) #[.int .i64 k, .int .i64 p, .slice A n c] ∧ Hid (Box 53 w2 w0.heap.size #[.slice A1 L.length c1, .int .i64 (b : Int)]) ∧ Hid (DIn (Up (UpN S w0.heap.size) (w0.heap.size + 2)) w2 (cnt t) (c3 k2 p2 A2 n2 c2)) ∧ Hid (LsIn (Up (UpN S w0.heap.size) (w0.heap.size + 2)) w2 A1 L.length L) ∧ Hid (Below w0.heap.size w0 w2) :=
      ⟨X3.out.next b2, hide (X2.out.next b2), hide hd2, hide ((HLS.out.keep (Keep.of_below b2)).sub (fun b _ h => .inl h)), hide (HB.out.next b2)⟩
    clear hd2 b2 HLS HCN X3
    go_upto_region 2 with (with_reducible refine wpList_store_box rfl 24 _ _ rfl (w0.heap.size + 1) #[.int .i64 k2, .int .i64 p2, .slice A2 n2 c2] rfl rfl _ x3 (by kernel_rfl) rfl (by simp [Value.oneCell']) ?_; intro w3 k3 ho3)
    obtain ⟨HK2, HP2, HKS, -, -, -⟩ := (HD.out.keep (Keep.of_only ho3 (fun h => by rcases h with ⟨-, h⟩ | h <;> omega))).parts
    have HKN := hide HK2
    have HPN := hide HP2
    have hn2 := HKS.1
    have hsz3 : w0.heap.size + 2 ≤ w3.heap.size := by have := k3.lt; omega
    have HLB := HL.out.keep (Keep.of_only ho3 (fun h => by rcases h with ⟨-, h⟩ | h <;> omega))
    have hb4 := bl_alloc w3 (.cells #[.slice none 0 0, .slice none 0 0] 63)
    have HT0 := hide (show TK1 (UpN (Up (UpN S w0.heap.size) (w0.heap.size + 2)) w3.heap.size) L b A1 c1 (cnt t) k2 p2 A2 n2 c2 w0.heap.size w3.heap.size 0 (w3.alloc (.cells #[.slice none 0 0, .slice none 0 0] 63)) (.slice none 0 0) (.slice none 0 0) ∧ Below w0.heap.size w0 (w3.alloc (.cells #[.slice none 0 0, .slice none 0 0] 63)) from
      ⟨⟨(X2.out.other ho3 (by omega)).next hb4, k3.next hb4, Box.new 63 w3 _, rfl, rfl, (HKS.sub (fun b hlt hs => (⟨hs, hlt⟩ : UpN _ w3.heap.size b))).keep (Keep.of_below hb4), (HLB.sub (fun b hlt hs => (⟨hs, hlt⟩ : UpN _ w3.heap.size b))).keep (Keep.of_below hb4), fun h => absurd h.2 (by omega)⟩, (HB.out.trans (ho3.below HB.out.size (by omega))).next hb4⟩)
    have HS4 := hide (show (w3.alloc (.cells #[.slice none 0 0, .slice none 0 0] 63)).heap.size = w3.heap.size + 1 from size_alloc2 _ _)
    have cc2 := HT0.out.1.x3.cell 2 _ rfl
    have hnl : n2 ≤ 2 := by rw [← hn2]; exact cnt_few t
    have HNL := hide hn2
    clear X2 HD HL HB k3 ho3 x3 HK2 HP2 HKS HLB hb4 hn2
    go_wp2_with fail
    generalize hW : w3.alloc (.cells #[.slice none 0 0, .slice none 0 0] 63) = W4 at *
    clear hW cc2
    obtain ⟨S5, hS5⟩ : ∃ S5, S5 = UpN (Up (UpN S w0.heap.size) (w0.heap.size + 2)) w3.heap.size := ⟨_, rfl⟩
    rw [← hS5] at HT0
    clear hS5
    generalize w3.heap.size = g5 at *
    have H0 := hide (show ∃ s0 s1, TK1 S5 L b A1 c1 (cnt t) k2 p2 A2 n2 c2 w0.heap.size g5 0 W4 s0 s1 ∧ Below w0.heap.size w0 W4 ∧ g5 < W4.heap.size from ⟨_, _, HT0.out.1, HT0.out.2, by rw [HS4.out]; omega⟩)
    have HQ0 := hide HNL.out
    clear HT0 HS4 HB X2
    go_loopw [17, 6, 7] (fun i j m wr => ∃ q : Nat, q ≤ n2 ∧ i = .int .i64 q ∧ Hid (∃ s0 s1, TK1 S5 L b A1 c1 (cnt t) k2 p2 A2 n2 c2 w0.heap.size g5 q wr s0 s1 ∧ Below w0.heap.size w0 wr ∧ g5 < wr.heap.size)) (fun i _ _ _ => n2 - (intOf i).toNat)
    case atStart => exact ⟨0, Nat.zero_le _, rfl, H0⟩
    case round =>
      obtain ⟨q, hq, rfl, HR⟩ := hrel
      clear H0
      by_cases hqn : q < n2
      · obtain ⟨s0, s1, hT, hB, hg5⟩ := HR.out
        obtain ⟨be, oe, tk, k9, p9, A9, n9, c9, hA2, hlt, hkid, hdk, d0, d1, d2⟩ := hT.ks.at_ hqn
        have hq2 : q < 2 := by omega
        have HKD := hide (show (cnt t).kid q = tk from by unfold LT.kid; rw [List.getD_eq_getElem?_getD, hkid]; rfl)
        have HIH := hide (fun W (h : Below wr.heap.size wr W) => ih S5 tk k9 p9 A9 n9 c9 A1 c1 W (by rw [← HKD.out]; exact cnt_small hz (by rw [HNL.out]; exact hqn)) (hdk.keep (Keep.of_below h)) (hT.ls.keep (Keep.of_below h)))
        have cc0 := hT.x2.cell 0 _ rfl
        have cc1 := hT.x2.cell 1 _ rfl
        have hN1 := hT.x3.lt
        have hN0 := hT.x2.lt
        have HT := hide hT
        have HB := hide hB
        subst hA2
        clear hT hB hkid hdk
        go_wp2_with fail
        generalize hW9 : wr.alloc (.cells #[.int .i64 k9, .int .i64 p9, .slice A9 n9 c9] 24) = W9 at *
        have HB9 := hide (show Below wr.heap.size wr W9 ∧ wr.heap.size < W9.heap.size from by rw [← hW9]; exact ⟨bl_alloc _ _, by rw [size_alloc2]; omega⟩)
        clear hW9 d0 d1 d2 cc0 cc1
        refine (HIH.out _ HB9.out.1).mono ?_
        rintro e W8 ⟨g, rfl, ha8, hg8, b8⟩
        have hT8 := (HT.out.next HB9.out.1).next b8
        rw [← HKD.out] at ha8
        have ho8 := only_set1 W8 g5 q (.slice (some ⟨g, 0, none⟩) L.length L.length)
        have hs8 := b8.size
        have hs9 := HB9.out.2
        have HST := hide (hT8.step (by have := HT.out.x5.lt; omega) hq2 (by omega) ha8)
        have HBS := hide (show Below w0.heap.size w0 (W8.setCell ⟨g5, q, none⟩ (.slice (some ⟨g, 0, none⟩) L.length L.length)) ∧ g5 < (W8.setCell ⟨g5, q, none⟩ (.slice (some ⟨g, 0, none⟩) L.length L.length)).heap.size from ⟨((HB.out.next HB9.out.1).next b8).trans (ho8.below ((HB.out.next HB9.out.1).next b8).size (by omega)), by have := ho8.size; omega⟩)
        have fr := Box.fr hT8.x5 q
        have cc0 := hT8.x5.cell 0 _ rfl
        have cc1 := hT8.x5.cell 1 _ rfl
        clear ha8 hT8 ho8 b8 HIH HR HT
        obtain rfl | rfl : q = 0 ∨ q = 1 := by omega
        · go_wp2_with fail
          go_roundw
          case rel => exact ⟨1, by omega, by go_num, hide (by obtain ⟨a, b, h⟩ := HST.out; exact ⟨a, b, h, HBS.out.1, HBS.out.2⟩)⟩
          case measure => simp [intOf]; omega
        · go_wp2_with fail
          go_roundw
          case rel => exact ⟨2, by omega, by go_num, hide (by obtain ⟨a, b, h⟩ := HST.out; exact ⟨a, b, h, HBS.out.1, HBS.out.2⟩)⟩
          case measure => simp [intOf]; omega
      · obtain rfl : q = n2 := by omega
        obtain ⟨s0, s1, hT, hB, hg5⟩ := HR.out
        have cc0 := hT.x3.cell 0 _ rfl
        have dd0 := hT.x2.cell 0 _ rfl
        have dd1 := hT.x2.cell 1 _ rfl
        have HT := hide hT
        have HB := hide hB
        have HRW := hide (show ∀ K, (∀ j, j < L.length → K j = H L.length (ltrOf L b) (norm t) j) → (List.range L.length).map K = row L b (norm t) from fun K h => List.map_congr_left (fun j hj => h j (List.mem_range.1 hj)))
        have HLT := hide (show ∀ j, j < L.length → ltrOf L b j = L.getD j [] from fun j hj => by unfold ltrOf; rw [pos_self (by omega)])
        clear hT hB HR
        by_cases h2 : k2 = 2
        · subst h2
          have HEA := hide (fun W (h : Below wr.heap.size wr W) => each_any 44 #[.pointer (some ⟨w0.heap.size, 0, none⟩), .pointer (some ⟨w0.heap.size + 1, 0, none⟩)] (fun _ _ => rfl) (fun i => hasB (L.getD i []) p2) A1 L.length c1 b W h9 (fun i W' hi hb' => truths1_any S5 w0.heap.size (w0.heap.size + 1) A1 L.length c1 b L 2 p2 (.slice A2 q c2) i W' (HT.out.x2.next (h.next hb')) (HT.out.x3.next (h.next hb')) (HT.out.ls.keep (Keep.of_below (h.next hb'))) hi))
          have HFI := hide (show (List.range L.length).map (fun i => hasB (L.getD i []) p2) = row L b (norm t) from HRW.out _ (fun j hj => by rw [← norm_cnt t, norm_k2 (cnt t) HKN.out.symm, H, HLT.out j hj, HPN.out]))
          rw [HFI.out] at HEA
          clear HRW HLT
          go_wp2_with fail
          refine (HEA.out _ (Below.refl _ _)).mono ?_
          rintro e W8 ⟨g, rfl, ha8, hg8, b8⟩
          have HPF := hide (HPO.out W8 g ha8 (by have := HB.out.size; omega) (HB.out.next b8))
          clear ha8 b8 HEA HT
          go_wp2_with fail
          exact ⟨_, results_tmp (t := 4) rfl _ _ _, HPF.out⟩
        · have g2 : (k2 == 2) = false := by simp; omega
          by_cases h8 : k2 = 8
          · subst h8
            have hq1 : q = 1 := by
              rcases cnt_kinds t with ⟨h, -⟩ | ⟨h, -⟩ | ⟨h, -⟩ | ⟨-, h⟩
              · have := HKN.out; omega
              · have := HKN.out; omega
              · have := HKN.out; omega
              · rw [← HKN.out, HNL.out] at h; exact h
            subst hq1
            obtain ⟨g, rfl, ha0, hg0⟩ := HT.out.k0
            have HA0 := hide ha0
            have HEA := hide (fun W (h : Below wr.heap.size wr W) => each_any 46 #[.pointer (some ⟨g5, 0, none⟩), .pointer (some ⟨w0.heap.size, 0, none⟩)] (fun _ _ => rfl) (fun i => (row L b (norm ((cnt t).kid 0))).getD (nxt b L.length i) false) A1 L.length c1 b W h9 (fun i W' hi hb' => truths2_any w0.heap.size g5 g A1 L.length c1 b _ s1 i W' (HT.out.x2.next (h.next hb')) (HT.out.x5.next (h.next hb')) (Box.next HA0.out (h.next hb')) (row_len _ _ _) hi hbL h9))
            have HFI := hide (show (List.range L.length).map (fun i => (row L b (norm ((cnt t).kid 0))).getD (nxt b L.length i) false) = row L b (norm t) from HRW.out _ (fun j hj => by
              rw [row_getD (by unfold nxt; split <;> omega), ← norm_cnt t, norm_eq (cnt t), ← HKN.out, if_neg (by decide), if_neg (by decide), if_pos (by decide)]
              show H L.length (ltrOf L b) (norm ((cnt t).kid 0)) (nxt b L.length j) = H L.length (ltrOf L b) (norm ((cnt t).kid 0)) (j + 1)
              unfold nxt
              split
              · rename_i he
                have := H_per (n := L.length) (ltrOf_per L b) (norm ((cnt t).kid 0)) b (Nat.le_refl b)
                rw [he, ← this]
                congr 1
                omega
              · rfl))
            rw [HFI.out] at HEA
            clear HRW HLT ha0
            go_wp2_with fail
            refine (HEA.out _ (Below.refl _ _)).mono ?_
            rintro e W8 ⟨g, rfl, ha8, hg8, b8⟩
            have HPF := hide (HPO.out W8 g ha8 (by have := HB.out.size; omega) (HB.out.next b8))
            clear ha8 b8 HEA HT
            go_wp2_with fail
            exact ⟨_, results_tmp (t := 4) rfl _ _ _, HPF.out⟩
          · have g8 : (k2 == 8) = false := by simp; omega
            obtain ⟨kk, hkk, HKK⟩ : ∃ kk : Nat, k2 = (kk : Int) ∧ Hid ((cnt t).k.toNat = kk) := by
              refine ⟨(cnt t).k.toNat, ?_, hide rfl⟩
              rw [HKN.out]
              rcases cnt_kinds t with ⟨h, -⟩ | ⟨h, -⟩ | ⟨h, -⟩ | ⟨h, -⟩
              · rw [h]; rfl
              · rw [h]; rfl
              · rw [h]; rfl
              · by_cases h1 : arity (cnt t).k = 1
                · have := arity_one h1; omega
                · have := arity_two (k := (cnt t).k) (by have := arity_le (cnt t).k; omega); omega
            have HFIN := hide (show (List.range L.length).map (fun j => GE kk (H L.length (ltrOf L b) (norm ((cnt t).kid 0))) (H L.length (ltrOf L b) (norm ((cnt t).kid 1))) (GE kk (H L.length (ltrOf L b) (norm ((cnt t).kid 0))) (H L.length (ltrOf L b) (norm ((cnt t).kid 1))) (e0 kk) (L.length - b) b) (L.length - j) j) = row L b (norm t) from HRW.out _ (fun j hj => by rw [← HKK.out]; exact two_cnt hbL hj t (by rw [← HKN.out]; exact h2) (by rw [← HKN.out]; exact h8)))
            have HAK := hide (show ∀ j, 1 < q ∨ H L.length (ltrOf L b) (norm ((cnt t).kid 1)) j = false from fun j => by
              rcases Nat.lt_or_ge 1 q with h | h
              · exact .inl h
              · exact .inr (kid_ff (by rw [HNL.out]; exact h) _ _ _))
            have HAJ := hide (show ∀ j, 0 < q ∨ H L.length (ltrOf L b) (norm ((cnt t).kid 0)) j = false from fun j => by
              rcases Nat.lt_or_ge 0 q with h | h
              · exact .inl h
              · exact .inr (kid_ff (by rw [HNL.out]; exact h) _ _ _))
            subst hkk
            have HEA := hide (fun W (h : Below wr.heap.size wr W) => each_any 48 #[.pointer (some ⟨w0.heap.size + 1, 0, none⟩)] (fun _ _ => rfl) (fun _ => decide ((kk : Int) = 9 ∨ (kk : Int) = 12)) A1 L.length c1 b W h9 (fun i W' hi hb' => truths3_any (w0.heap.size + 1) kk i W' ((HT.out.x3.next (h.next hb')).cell 0 _ rfl)))
            rw [show decide ((kk : Int) = 9 ∨ (kk : Int) = 12) = e0 kk from by unfold e0; congr 1; apply propext; omega] at HEA
            clear HRW HLT h2 h8
            go_wp2_with fail
            refine (HEA.out _ (Below.refl _ _)).mono ?_
            rintro e W8 ⟨g, rfl, ha8, hg8, b8⟩
            have HPT := hide (show TP wr g W8.heap.size L.length ((List.range L.length).map fun _ => e0 kk) (W8.alloc (.cells #[.slice (some ⟨g, 0, none⟩) L.length L.length] 47)) from ⟨b8.next (bl_alloc _ _), Box.new _ _ _, Box.next ha8 (bl_alloc _ _), hg8, Box.lt ha8⟩)
            clear ha8 hg8 b8 HEA cc0 dd0 dd1
            go_wp2_with fail
            generalize hW : W8.alloc (.cells #[.slice (some ⟨g, 0, none⟩) L.length L.length] 47) = Wc at *
            clear hW
            generalize W8.heap.size = g8 at *
            have HBK := hide (fun W => backward_any (some ⟨g, 0, none⟩) L.length L.length W)
            obtain ⟨wq, hwq⟩ : ∃ x, x = wr := ⟨_, rfl⟩
            subst hwq
            obtain ⟨l0, hl0⟩ : ∃ l0, l0 = ((List.range L.length).map fun _ => e0 kk) := ⟨_, rfl⟩
            rw [← hl0] at HPT
            have HLL0 := hide (show l0.length = L.length from by rw [hl0]; simp)
            have HLE0 := hide (show l0.getD b false = e0 kk from by rw [hl0]; simp [List.getD_eq_getElem?_getD, hbL])
            have HPT0 := hide HPT.out
            clear hl0 HPT
            generalize Wc = Wc0 at *
            refine wp_loop_rounds 3 ?_
            rw [rounds_succ]
            have cc8 := HPT0.out.x8.cell 0 _ rfl
            go_wp2_with fail
            refine (HBK.out _).mono ?_
            rintro e w7 ⟨rfl, rfl⟩
            have HPA := hide (show TP wq g g8 L.length l0 (Wc0.alloc (.cells #[.slice (some ⟨g, 0, none⟩) L.length L.length] 47)) ∧ Wc0.heap.size < (Wc0.alloc (.cells #[.slice (some ⟨g, 0, none⟩) L.length L.length] 47)).heap.size ∧ (Wc0.alloc (.cells #[.slice (some ⟨g, 0, none⟩) L.length L.length] 47)).cell? ⟨Wc0.heap.size, 0, none⟩ = some (.slice (some ⟨g, 0, none⟩) L.length L.length) ∧ g8 < Wc0.heap.size from ⟨HPT0.out.next (bl_alloc _ _), by rw [size_alloc2]; omega, (Box.new _ Wc0 _).cell 0 _ rfl, HPT0.out.x8.lt⟩)
            generalize hW : Wc0.alloc (.cells #[.slice (some ⟨g, 0, none⟩) L.length L.length] 47) = Wa at *
            clear hW cc8
            generalize Wc0.heap.size = Bs at *
            go_wp2_with fail
            refine' (wpIn_wide (n := 5)).1 (wpIn_rangeFunc_ownF (F := Fence.wide) (n := 5) (α := {x : Nat × Bool // x.1 < L.length}) rfl (by decide) (gf := 52) (lb := #[.pointer (some ⟨Bs, 0, none⟩)]) rfl trivial (fun _ _ => rfl) (backward_stops 4 Bs g L.length h9 Wa HPA.out.2.1 (Box.lt HPA.out.1.a) HPA.out.2.2.1 ⟨_, HLL0.out, HPA.out.1.a⟩)
              (fun h k => KpB.trans h k) (fun W l o o' hl _ _ _ => KpB.put o' (Nat.lt_of_lt_of_le HPA.out.2.1 hl) (Nat.lt_of_lt_of_le (Box.lt HPA.out.1.a) hl)) (Below.refl _ _) (fun _ => rfl)
              (fun pre W => ∃ lst, TP wq g g8 L.length lst W ∧ lst.length = L.length ∧ Bs < W.heap.size ∧ (pre.map (·.1.1) = downs L.length pre.length → lst = stage L.length kk (H L.length (ltrOf L b) (norm ((cnt t).kid 0))) (H L.length (ltrOf L b) (norm ((cnt t).kid 1))) (l0.getD b false) l0 pre.length)) (fun _ _ _ => False) ?_ (fun _ _ _ _ _ h _ _ => h) ⟨_, HPA.out.1, HLL0.out, HPA.out.2.1, fun _ => (stage_zero HLL0.out).symm⟩ _ ?_ ?_ ?_ (fun _ _ _ _ _ _ h _ => h.elim))
            · rintro pre W W' row ⟨lst, h1, h2, h3, h4⟩ hg hr
              exact ⟨lst, h1.own hg (by have := HPA.out.1.x8.lt; omega) (fun r e => (hr r e).1), h2, Nat.lt_of_lt_of_le h3 hg.size, h4⟩
            rotate_left
            · intro l x W K hK
              gi_wp2
              exact hK
            · rintro l pre ⟨⟨i, vv⟩, hi⟩ W ⟨lst, hT1, hl1, hBs, hord⟩ hlen
              try dsimp only
              have cc2 := (HT.out.next hT1.b).x3.cell 2 _ rfl
              have hN1 := (HT.out.next hT1.b).x3.lt
              have HTP := hide hT1
              have HORD := hide hord
              have HL1 := hide hl1
              have hi9 : i < L.length := hi
              clear hT1 hord hl1
            
            
              gi_wp2
              have HM1 := hide (show Box 70 (W.alloc (.cells #[.bool false, .bool false] 70)) W.heap.size #[.bool (decide (0 < 0) && (H L.length (ltrOf L b) (norm ((cnt t).kid 0))) i), .bool (decide (1 < 0) && (H L.length (ltrOf L b) (norm ((cnt t).kid 1))) i)] ∧ Below W.heap.size W (W.alloc (.cells #[.bool false, .bool false] 70)) from ⟨Box.new _ _ _, bl_alloc _ _⟩)
              generalize hW : W.alloc (.cells #[.bool false, .bool false] 70) = W1 at *
              clear hW
              gi_loopw [52, 11] (fun k m wr => ∃ j : Nat, j ≤ q ∧ k = .int .i64 j ∧ Hid (Box 70 wr W.heap.size #[.bool (decide (0 < j) && (H L.length (ltrOf L b) (norm ((cnt t).kid 0))) i), .bool (decide (1 < j) && (H L.length (ltrOf L b) (norm ((cnt t).kid 1))) i)] ∧ Below W.heap.size W wr)) (fun k _ _ => q - (intOf k).toNat)
              case atStart => exact ⟨0, Nat.zero_le _, rfl, HM1⟩
              case round =>
                obtain ⟨j, hj, rfl, HR2⟩ := hrel
                by_cases hjq : j < q
                · obtain ⟨ga, hc5, hag⟩ := (HT.out.next (HTP.out.next HR2.out.2).b).kid hjq hnl
                  have hcv := hag.cell (i := i) (b := H L.length (ltrOf L b) (norm ((cnt t).kid j)) i) (by simp [row, hi9])
                  have fr := Box.fr HR2.out.1 j
                  have cc0 := HR2.out.1.cell 0 _ rfl
                  have cc1 := HR2.out.1.cell 1 _ rfl
                  have hj2 : j < 2 := by omega
                  have ho := only_set1 wr W.heap.size j (.bool (H L.length (ltrOf L b) (norm ((cnt t).kid j)) i))
                  have HB3 := hide (show Below W.heap.size W (wr.setCell ⟨W.heap.size, j, none⟩ (.bool (H L.length (ltrOf L b) (norm ((cnt t).kid j)) i))) from HR2.out.2.trans (ho.below HR2.out.2.size (Nat.le_refl _)))
                  have HX3 := hide (box_set2 HR2.out.1 (.bool (H L.length (ltrOf L b) (norm ((cnt t).kid j)) i)))
                  clear ho hag
                  obtain rfl | rfl : j = 0 ∨ j = 1 := by omega
                  · generalize H L.length (ltrOf L b) (norm ((cnt t).kid 0)) i = va at *
                    generalize H L.length (ltrOf L b) (norm ((cnt t).kid 1)) i = vb at *
                    gi_wp2
                    go_roundw
                    case rel => exact ⟨1, by omega, by go_num, hide ⟨by simpa using HX3.out.1, HB3.out⟩⟩
                    case measure => simp [intOf]; omega
                  · generalize H L.length (ltrOf L b) (norm ((cnt t).kid 0)) i = va at *
                    generalize H L.length (ltrOf L b) (norm ((cnt t).kid 1)) i = vb at *
                    gi_wp2
                    go_roundw
                    case rel => exact ⟨2, by omega, by go_num, hide ⟨by simpa using HX3.out.2, HB3.out⟩⟩
                    case measure => simp [intOf]; omega
                · obtain rfl : j = q := by omega
                  have HNOW := hide (show Box 70 wr W.heap.size #[.bool ((H L.length (ltrOf L b) (norm ((cnt t).kid 0))) i), .bool ((H L.length (ltrOf L b) (norm ((cnt t).kid 1))) i)] from by
                    have h0 : (decide (0 < j) && (H L.length (ltrOf L b) (norm ((cnt t).kid 0))) i) = (H L.length (ltrOf L b) (norm ((cnt t).kid 0))) i := by rcases HAJ.out i with h | h <;> simp [h]
                    have h1 : (decide (1 < j) && (H L.length (ltrOf L b) (norm ((cnt t).kid 1))) i) = (H L.length (ltrOf L b) (norm ((cnt t).kid 1))) i := by rcases HAK.out i with h | h <;> simp [h]
                    have := HR2.out.1
                    rwa [h0, h1] at this)
                  gi_upto_region 24 with fail
                  have HB4 := hide HR2.out.2
                  have HTR := hide (HTP.out.next HR2.out.2)
                  have HTK := hide (HT.out.next HTR.out.b)
                  have HNXT := hide (fun W => next_any A1 L.length c1 b i W h9 hi9)
                  have hy9 : nxt b L.length i < L.length := by unfold nxt; split <;> omega
                  obtain ⟨y, hy⟩ : ∃ y, y = nxt b L.length i := ⟨_, rfl⟩
                  rw [← hy] at hy9 HNXT
                  obtain ⟨nx, hnx⟩ : ∃ v, lst[y]? = some v := ⟨lst[y]'(by rw [HL1.out]; exact hy9), List.getElem?_eq_getElem (by rw [HL1.out]; exact hy9)⟩
                  obtain ⟨ov, hov⟩ : ∃ v, lst[i]? = some v := ⟨lst[i]'(by rw [HL1.out]; exact hi9), List.getElem?_eq_getElem (by rw [HL1.out]; exact hi9)⟩
                  have HY := hide (show nxt b L.length i = y ∧ lst.getD y false = nx from ⟨hy.symm, by rw [List.getD_eq_getElem?_getD, hnx]; rfl⟩)
                  have SOF := hide (show ∀ W9, Below wr.heap.size wr W9 → (W9.cell? ⟨g8, 0, none⟩ = some (.slice (some ⟨g, 0, none⟩) L.length L.length) ∧ W9.cell? ⟨w0.heap.size + 1, 0, none⟩ = some (.int .i64 (kk : Int)) ∧ W9.cell? ⟨W.heap.size, 0, none⟩ = some (.bool ((H L.length (ltrOf L b) (norm ((cnt t).kid 0))) i)) ∧ W9.cell? ⟨W.heap.size, 1, none⟩ = some (.bool ((H L.length (ltrOf L b) (norm ((cnt t).kid 1))) i)) ∧ W9.cell? ⟨w0.heap.size, 0, none⟩ = some (.slice A1 L.length c1) ∧ W9.cell? ⟨w0.heap.size, 1, none⟩ = some (.int .i64 (b : Int)) ∧ W9.cell? ⟨g, y, none⟩ = some (.bool nx) ∧ W9.cell? ⟨g, i, none⟩ = some (.bool ov)) from
                    fun W9 h => ⟨(HTR.out.next h).x8.cell 0 _ rfl, (HTK.out.next h).x3.cell 0 _ rfl, (HNOW.out.next h).cell 0 _ rfl, (HNOW.out.next h).cell 1 _ rfl, (HTK.out.next h).x2.cell 0 _ rfl, (HTK.out.next h).x2.cell 1 _ rfl, (HTR.out.next h).a.cell hnx, (HTR.out.next h).a.cell hov⟩)
                  obtain ⟨va, hva⟩ : ∃ v, v = (H L.length (ltrOf L b) (norm ((cnt t).kid 0))) i := ⟨_, rfl⟩
                  obtain ⟨vb, hvb⟩ : ∃ v, v = (H L.length (ltrOf L b) (norm ((cnt t).kid 1))) i := ⟨_, rfl⟩
                  rw [← hva, ← hvb] at SOF
                  obtain ⟨res, hres⟩ : ∃ v, v = truthB kk va vb nx := ⟨_, rfl⟩
                  have HTT := hide (fun W => truth_any kk va vb nx W)
                  rw [← hres] at HTT
                  have HRES := hide (show res = truthB kk ((H L.length (ltrOf L b) (norm ((cnt t).kid 0))) i) ((H L.length (ltrOf L b) (norm ((cnt t).kid 1))) i) (lst.getD (nxt b L.length i) false) from by rw [hres, hva, hvb, HY.out.1, HY.out.2])
                  clear hy hnx hov hva hvb hres HR2 HTP
                  refine wpIn_drawnL (by kernel_rfl) (by kernel_rfl) (by kernel_rfl) (by kernel_rfl) (by kernel_rfl) (fun w w' => Below w.heap.size w w') (fun j v w => match j with | 0 => v = .slice (some ⟨g, 0, none⟩) L.length L.length | 1 => v = .int .i64 (i : Int) | 2 => v = .pointer (some ⟨w0.heap.size + 1, 0, none⟩) | 3 => v = .int .i64 (kk : Int) | 4 => v = .agg #[.bool va, .bool vb] | 5 => v = .slice (some ⟨g, 0, none⟩) L.length L.length | 6 => v = .agg #[.slice A1 L.length c1, .int .i64 (b : Int)] | 7 => v = .int .i64 (i : Int) | 8 => v = .int .i64 (y : Int) | 9 => v = .pointer (some ⟨g, y, none⟩) | 10 => v = .bool nx | 11 => v = .bool res | 12 => v = .pointer (some ⟨g, i, none⟩) | _ => True) (fun _ _ w => Below wr.heap.size wr w) ?_ (fun _ => bl_drewN wr 1) ?_ ?_
                  · intro j v w w' hT h
                    match j, h with
                    | 0, h => exact h
                    | 1, h => exact h
                    | 2, h => exact h
                    | 3, h => exact h
                    | 4, h => exact h
                    | 5, h => exact h
                    | 6, h => exact h
                    | 7, h => exact h
                    | 8, h => exact h
                    | 9, h => exact h
                    | 10, h => exact h
                    | 11, h => exact h
                    | 12, h => exact h
                    | j + 13, h => trivial
                  · refine ⟨?_, ?_, ?_, ?_, ?_, ?_, ?_, ?_, ?_, ?_, ?_, ?_, ?_, trivial⟩
                    · intro listed σ w a hin hout hl hla hs hc hp hG hF
                      refine Guarded.none rfl ?_
                      have e8 : a.tmps.getD 8 undef = .pointer (some ⟨g8, 0, none⟩) := hout 8 (outB_spec (by kernel_rfl))
                      have CC := SOF.out w hG; obtain ⟨C0, C1, C2, C3, C4, C5, C6, C7⟩ := CC
                      refine Does.val (.slice (some ⟨g, 0, none⟩) L.length L.length) (w' := w) ?_ ⟨Below.refl _ _, rfl, hG⟩
                      go_simp
                    · intro listed σ w a hin hout hl hla hs hc hp hG hF
                      refine Guarded.none rfl ?_
                      have e9 : a.tmps.getD 9 undef = .int .i64 (i : Int) := hout 9 (outB_spec (by kernel_rfl))
                      refine Does.val (.int .i64 (i : Int)) (w' := w) ?_ ⟨Below.refl _ _, rfl, hG⟩
                      simp only [Array.getD_eq_getD_getElem?] at e9
                      go_simp
                    · intro listed σ w a hin hout hl hla hs hc hp hG hF
                      refine Guarded.none rfl ?_
                      have e3 : a.tmps.getD 3 undef = .pointer (some ⟨w0.heap.size + 1, 0, none⟩) := hout 3 (outB_spec (by kernel_rfl))
                      refine Does.val (.pointer (some ⟨w0.heap.size + 1, 0, none⟩)) (w' := w) ?_ ⟨Below.refl _ _, rfl, hG⟩
                      simp only [Array.getD_eq_getD_getElem?] at e3
                      go_simp
                    · intro listed σ w a hin hout hl hla hs hc hp hG hF
                      refine Guarded.none rfl ?_
                      have e66 : a.tmps.getD 66 undef = .pointer (some ⟨w0.heap.size + 1, 0, none⟩) := (hin 2 66 rfl (hp ⟨2, .data⟩ (by simp) rfl)).trans (hF 2 (hp ⟨2, .data⟩ (by simp) rfl))
                      have CC := SOF.out w hG; obtain ⟨C0, C1, C2, C3, C4, C5, C6, C7⟩ := CC
                      refine Does.val (.int .i64 (kk : Int)) (w' := w) ?_ ⟨Below.refl _ _, rfl, hG⟩
                      go_simp
                    · intro listed σ w a hin hout hl hla hs hc hp hG hF
                      refine Guarded.none rfl ?_
                      have e10 : a.tmps.getD 10 undef = .pointer (some ⟨W.heap.size, 0, none⟩) := hout 10 (outB_spec (by kernel_rfl))
                      have CC := SOF.out w hG; obtain ⟨C0, C1, C2, C3, C4, C5, C6, C7⟩ := CC
                      refine Does.val (.agg #[.bool va, .bool vb]) (w' := w) ?_ ⟨Below.refl _ _, rfl, hG⟩
                      go_simp
                    · intro listed σ w a hin hout hl hla hs hc hp hG hF
                      refine Guarded.none rfl ?_
                      have e8 : a.tmps.getD 8 undef = .pointer (some ⟨g8, 0, none⟩) := hout 8 (outB_spec (by kernel_rfl))
                      have CC := SOF.out w hG; obtain ⟨C0, C1, C2, C3, C4, C5, C6, C7⟩ := CC
                      refine Does.val (.slice (some ⟨g, 0, none⟩) L.length L.length) (w' := w) ?_ ⟨Below.refl _ _, rfl, hG⟩
                      go_simp
                    · intro listed σ w a hin hout hl hla hs hc hp hG hF
                      refine Guarded.none rfl ?_
                      have e2 : a.tmps.getD 2 undef = .pointer (some ⟨w0.heap.size, 0, none⟩) := hout 2 (outB_spec (by kernel_rfl))
                      have CC := SOF.out w hG; obtain ⟨C0, C1, C2, C3, C4, C5, C6, C7⟩ := CC
                      refine Does.val (.agg #[.slice A1 L.length c1, .int .i64 (b : Int)]) (w' := w) ?_ ⟨Below.refl _ _, rfl, hG⟩
                      go_simp
                    · intro listed σ w a hin hout hl hla hs hc hp hG hF
                      refine Guarded.none rfl ?_
                      have e9 : a.tmps.getD 9 undef = .int .i64 (i : Int) := hout 9 (outB_spec (by kernel_rfl))
                      refine Does.val (.int .i64 (i : Int)) (w' := w) ?_ ⟨Below.refl _ _, rfl, hG⟩
                      simp only [Array.getD_eq_getD_getElem?] at e9
                      go_simp
                    · intro listed σ w a hin hout hl hla hs hc hp hG hF
                      refine Guarded.none rfl ?_
                      have e70 : a.tmps.getD 70 undef = .agg #[.slice A1 L.length c1, .int .i64 (b : Int)] := (hin 6 70 rfl (hp ⟨6, .data⟩ (by simp) rfl)).trans (hF 6 (hp ⟨6, .data⟩ (by simp) rfl))
                      have e71 : a.tmps.getD 71 undef = .int .i64 (i : Int) := (hin 7 71 rfl (hp ⟨7, .data⟩ (by simp) rfl)).trans (hF 7 (hp ⟨7, .data⟩ (by simp) rfl))
                      refine Does.call ?_ (HNXT.out w) ?_
                      · go_simp
                      · rintro e w' ⟨rfl, hb⟩
                        exact ⟨_, rfl, hb, rfl, hG.next hb⟩
                    · intro listed σ w a hin hout hl hla hs hc hp hG hF
                      refine Guarded.none rfl ?_
                      have e69 : a.tmps.getD 69 undef = .slice (some ⟨g, 0, none⟩) L.length L.length := (hin 5 69 rfl (hp ⟨5, .data⟩ (by simp) rfl)).trans (hF 5 (hp ⟨5, .data⟩ (by simp) rfl))
                      have e72 : a.tmps.getD 72 undef = .int .i64 (y : Int) := (hin 8 72 rfl (hp ⟨8, .data⟩ (by simp) rfl)).trans (hF 8 (hp ⟨8, .data⟩ (by simp) rfl))
                      refine Does.val (.pointer (some ⟨g, y, none⟩)) (w' := w) ?_ ⟨Below.refl _ _, rfl, hG⟩
                      simp only [Array.getD_eq_getD_getElem?] at e69 e72
                      go_simp
                      (try (intro hh; exfalso; omega))
                    · intro listed σ w a hin hout hl hla hs hc hp hG hF
                      refine Guarded.none rfl ?_
                      have e73 : a.tmps.getD 73 undef = .pointer (some ⟨g, y, none⟩) := (hin 9 73 rfl (hp ⟨9, .data⟩ (by simp) rfl)).trans (hF 9 (hp ⟨9, .data⟩ (by simp) rfl))
                      have CC := SOF.out w hG; obtain ⟨C0, C1, C2, C3, C4, C5, C6, C7⟩ := CC
                      refine Does.val (.bool nx) (w' := w) ?_ ⟨Below.refl _ _, rfl, hG⟩
                      go_simp
                    · intro listed σ w a hin hout hl hla hs hc hp hG hF
                      refine Guarded.none rfl ?_
                      have e67 : a.tmps.getD 67 undef = .int .i64 (kk : Int) := (hin 3 67 rfl (hp ⟨3, .data⟩ (by simp) rfl)).trans (hF 3 (hp ⟨3, .data⟩ (by simp) rfl))
                      have e68 : a.tmps.getD 68 undef = .agg #[.bool va, .bool vb] := (hin 4 68 rfl (hp ⟨4, .data⟩ (by simp) rfl)).trans (hF 4 (hp ⟨4, .data⟩ (by simp) rfl))
                      have e74 : a.tmps.getD 74 undef = .bool nx := (hin 10 74 rfl (hp ⟨10, .data⟩ (by simp) rfl)).trans (hF 10 (hp ⟨10, .data⟩ (by simp) rfl))
                      refine Does.call ?_ (HTT.out w) ?_
                      · go_simp
                      · rintro e w' ⟨rfl, hb⟩
                        exact ⟨_, rfl, hb, rfl, hG.next hb⟩
                    · intro listed σ w a hin hout hl hla hs hc hp hG hF
                      refine Guarded.none rfl ?_
                      have e64 : a.tmps.getD 64 undef = .slice (some ⟨g, 0, none⟩) L.length L.length := (hin 0 64 rfl (hp ⟨0, .data⟩ (by simp) rfl)).trans (hF 0 (hp ⟨0, .data⟩ (by simp) rfl))
                      have e65 : a.tmps.getD 65 undef = .int .i64 (i : Int) := (hin 1 65 rfl (hp ⟨1, .data⟩ (by simp) rfl)).trans (hF 1 (hp ⟨1, .data⟩ (by simp) rfl))
                      refine Does.val (.pointer (some ⟨g, i, none⟩)) (w' := w) ?_ ⟨Below.refl _ _, rfl, hG⟩
                      simp only [Array.getD_eq_getD_getElem?] at e64 e65
                      go_simp
                      (try (intro hh; exfalso; omega))
                  · intro o ho
                    injection ho with ho; subst ho
                    intro listed σ w a hall hin hout hG hF
                    refine Guarded.none rfl ?_
                    have e76 : a.tmps.getD 76 undef = .pointer (some ⟨g, i, none⟩) := (hin 12 76 rfl (by decide)).trans (hF 12 (by decide))
                    have e75 : a.tmps.getD 75 undef = .bool res := (hin 11 75 rfl (by decide)).trans (hF 11 (by decide))
                    have CC := SOF.out w hG; obtain ⟨C0, C1, C2, C3, C4, C5, C6, C7⟩ := CC
                    have fr := Box.fr (HTR.out.next hG).a i
                    refine Does.skip (w' := w.setCell ⟨g, i, none⟩ (.bool res)) ?_ ?_
                    · simp only [Array.getD_eq_getD_getElem?] at e75 e76
                      go_simp
                    · rw [show fin _ σ undef _ = (Act.put (Act.put (Act.put (Act.put (Act.put (Act.put (Act.put (Act.put (Act.put (Act.put (Act.put (Act.put (Act.put (Act.put _ (some 64) (σ 0)) (some 65) (σ 1)) (some 66) (σ 2)) (some 67) (σ 3)) (some 68) (σ 4)) (some 69) (σ 5)) (some 70) (σ 6)) (some 71) (σ 7)) (some 72) (σ 8)) (some 73) (σ 9)) (some 74) (σ 10)) (some 75) (σ 11)) (some 76) (σ 12)) none undef) from (fin_all hall).trans rfl]
                      simp only [Act.put, List.setIfInBounds_toArray, List.set_cons_zero, List.set_cons_succ]
                      generalize σ 0 = tt0 at *; generalize σ 1 = tt1 at *; generalize σ 2 = tt2 at *; generalize σ 3 = tt3 at *; generalize σ 4 = tt4 at *; generalize σ 5 = tt5 at *; generalize σ 6 = tt6 at *; generalize σ 7 = tt7 at *; generalize σ 8 = tt8 at *; generalize σ 9 = tt9 at *; generalize σ 10 = tt10 at *; generalize σ 11 = tt11 at *; generalize σ 12 = tt12 at *
                      have TG := hG
                      clear hF hG hall hin hout e75 e76 SOF C0 C1 C2 C3 C4 C5 C6 C7 fr
                      refine And.intro ((keepsOthers_below (HB4.out.next TG)).trans (KeepsOthers.setCell _ _ _)) (And.intro (KpB.step (HB4.out.next TG) (only_set1 w g i (.bool res)) (by have := HPA.out.2.2.2; have := HTR.out.h8; omega) (by rw [List.length_set]; exact HL1.out) ((HTR.out.next TG).set i res).a) ⟨_, (HTR.out.next TG).set i res, by rw [List.length_set]; exact HL1.out, ?_, fun hh => ?_⟩)
                      · have := (HB4.out.next TG).size
                        have h3 := (only_set1 w g i (.bool res)).size
                        omega
                      · have h1 : pre.map (·.1.1) ++ [i] = downs L.length (pre.length + 1) := by simpa using hh
                        obtain ⟨h2, h3⟩ := downs_snoc (by simp) h1
                        have h4 := HORD.out h2
                        simp only [List.length_append, List.length_singleton]
                        rw [HRES.out, h4, h3]
                        exact stage_step hbL hlen
            · rintro D0 xs Wc1 hD hxs ⟨lst, hT1, hl1, hBs, hord⟩ hdef
              have hlen : xs.length = L.length := by
                have := congrArg List.length hxs
                simpa [downs] using this
              have hl9 := hord (by rw [hlen]; exact hxs)
              rw [hlen] at hl9
              have HPT1 := hide hT1
              have HLL1 := hide hl1
              have HLE1 := hide hl9
              have HD0 := hide (show Wc1.heap[D0]? = some (.deferred (some [])) ∧ g8 < D0 from ⟨hdef, by have := HPA.out.2.2.2; have := HPA.out.2.1; omega⟩)
              
              clear hT1 hl1 hl9 hord hdef hxs hlen hBs hD HPA 
              generalize lst = l1 at *
              simp only [Exit.inBlock, Exit.then]
              go_wp2_with fail
              rw [rounds_succ]
              have cc8 := HPT1.out.x8.cell 0 _ rfl
              go_wp2_with fail
              refine (HBK.out _).mono ?_
              rintro e w7 ⟨rfl, rfl⟩
              have HPA := hide (show TP wq g g8 L.length l1 (Wc1.alloc (.cells #[.slice (some ⟨g, 0, none⟩) L.length L.length] 47)) ∧ Wc1.heap.size < (Wc1.alloc (.cells #[.slice (some ⟨g, 0, none⟩) L.length L.length] 47)).heap.size ∧ (Wc1.alloc (.cells #[.slice (some ⟨g, 0, none⟩) L.length L.length] 47)).cell? ⟨Wc1.heap.size, 0, none⟩ = some (.slice (some ⟨g, 0, none⟩) L.length L.length) ∧ g8 < Wc1.heap.size ∧ (Wc1.alloc (.cells #[.slice (some ⟨g, 0, none⟩) L.length L.length] 47)).heap[D0]? = some (.deferred (some [])) from ⟨HPT1.out.next (bl_alloc _ _), by rw [size_alloc2]; omega, (Box.new _ Wc1 _).cell 0 _ rfl, HPT1.out.x8.lt, ((bl_alloc Wc1 _).block D0 (Array.getElem?_eq_some_iff.1 HD0.out.1).1).trans HD0.out.1⟩)
              generalize hW : Wc1.alloc (.cells #[.slice (some ⟨g, 0, none⟩) L.length L.length] 47) = Wa at *
              clear hW cc8
              generalize Wc1.heap.size = Bs at *
              go_wp2_with fail
              refine' (wpIn_wide (n := 5)).1 (wpIn_rangeFunc_ownF (F := Fence.wide) (n := 5) (α := {x : Nat × Bool // x.1 < L.length}) rfl (by decide) (gf := 52) (lb := #[.pointer (some ⟨Bs, 0, none⟩)]) rfl trivial (fun _ _ => rfl) (backward_stops 4 Bs g L.length h9 Wa HPA.out.2.1 (Box.lt HPA.out.1.a) HPA.out.2.2.1 ⟨_, HLL1.out, HPA.out.1.a⟩)
                (fun h k => KpB.trans h k) (fun W l o o' hl _ _ _ => KpB.put o' (Nat.lt_of_lt_of_le HPA.out.2.1 hl) (Nat.lt_of_lt_of_le (Box.lt HPA.out.1.a) hl)) (Below.refl _ _) (fun _ => rfl)
                (fun pre W => ∃ lst, TP wq g g8 L.length lst W ∧ lst.length = L.length ∧ Bs < W.heap.size ∧ (pre.map (·.1.1) = downs L.length pre.length → lst = stage L.length kk (H L.length (ltrOf L b) (norm ((cnt t).kid 0))) (H L.length (ltrOf L b) (norm ((cnt t).kid 1))) (l1.getD b false) l1 pre.length) ∧ W.heap[D0]? = some (.deferred (some []))) (fun _ _ _ => False) ?_ (fun _ _ _ _ _ h _ _ => h) ⟨_, HPA.out.1, HLL1.out, HPA.out.2.1, fun _ => (stage_zero HLL1.out).symm, HPA.out.2.2.2.2⟩ _ ?_ ?_ ?_ (fun _ _ _ _ _ _ h _ => h.elim))
              · rintro pre W W' row ⟨lst, h1, h2, h3, h4, h5⟩ hg hr
                exact ⟨lst, h1.own hg (by have := HPA.out.1.x8.lt; omega) (fun r e => (hr r e).1), h2, Nat.lt_of_lt_of_le h3 hg.size, h4, (hg.block D0 (Array.getElem?_eq_some_iff.1 h5).1 (fun e => by have := (hr _ e.symm).1; have := (Array.getElem?_eq_some_iff.1 HPA.out.2.2.2.2).1; omega)).trans h5⟩
              rotate_left
              · intro l x W K hK
                gi_wp2
                exact hK
              · rintro l pre ⟨⟨i, vv⟩, hi⟩ W ⟨lst, hT1, hl1, hBs, hord, hdm⟩ hlen
                try dsimp only
                have cc2 := (HT.out.next hT1.b).x3.cell 2 _ rfl
                have hN1 := (HT.out.next hT1.b).x3.lt
                have HTP := hide hT1
                have HORD := hide hord
                have HL1 := hide hl1
                have hi9 : i < L.length := hi
                clear hT1 hord hl1
                have HDM := hide hdm
                clear hdm
                gi_wp2
                have HM1 := hide (show Box 70 (W.alloc (.cells #[.bool false, .bool false] 70)) W.heap.size #[.bool (decide (0 < 0) && (H L.length (ltrOf L b) (norm ((cnt t).kid 0))) i), .bool (decide (1 < 0) && (H L.length (ltrOf L b) (norm ((cnt t).kid 1))) i)] ∧ Below W.heap.size W (W.alloc (.cells #[.bool false, .bool false] 70)) from ⟨Box.new _ _ _, bl_alloc _ _⟩)
                generalize hW : W.alloc (.cells #[.bool false, .bool false] 70) = W1 at *
                clear hW
                gi_loopw [52, 11] (fun k m wr => ∃ j : Nat, j ≤ q ∧ k = .int .i64 j ∧ Hid (Box 70 wr W.heap.size #[.bool (decide (0 < j) && (H L.length (ltrOf L b) (norm ((cnt t).kid 0))) i), .bool (decide (1 < j) && (H L.length (ltrOf L b) (norm ((cnt t).kid 1))) i)] ∧ Below W.heap.size W wr)) (fun k _ _ => q - (intOf k).toNat)
                case atStart => exact ⟨0, Nat.zero_le _, rfl, HM1⟩
                case round =>
                  obtain ⟨j, hj, rfl, HR2⟩ := hrel
                  by_cases hjq : j < q
                  · obtain ⟨ga, hc5, hag⟩ := (HT.out.next (HTP.out.next HR2.out.2).b).kid hjq hnl
                    have hcv := hag.cell (i := i) (b := H L.length (ltrOf L b) (norm ((cnt t).kid j)) i) (by simp [row, hi9])
                    have fr := Box.fr HR2.out.1 j
                    have cc0 := HR2.out.1.cell 0 _ rfl
                    have cc1 := HR2.out.1.cell 1 _ rfl
                    have hj2 : j < 2 := by omega
                    have ho := only_set1 wr W.heap.size j (.bool (H L.length (ltrOf L b) (norm ((cnt t).kid j)) i))
                    have HB3 := hide (show Below W.heap.size W (wr.setCell ⟨W.heap.size, j, none⟩ (.bool (H L.length (ltrOf L b) (norm ((cnt t).kid j)) i))) from HR2.out.2.trans (ho.below HR2.out.2.size (Nat.le_refl _)))
                    have HX3 := hide (box_set2 HR2.out.1 (.bool (H L.length (ltrOf L b) (norm ((cnt t).kid j)) i)))
                    clear ho hag
                    obtain rfl | rfl : j = 0 ∨ j = 1 := by omega
                    · generalize H L.length (ltrOf L b) (norm ((cnt t).kid 0)) i = va at *
                      generalize H L.length (ltrOf L b) (norm ((cnt t).kid 1)) i = vb at *
                      gi_wp2
                      go_roundw
                      case rel => exact ⟨1, by omega, by go_num, hide ⟨by simpa using HX3.out.1, HB3.out⟩⟩
                      case measure => simp [intOf]; omega
                    · generalize H L.length (ltrOf L b) (norm ((cnt t).kid 0)) i = va at *
                      generalize H L.length (ltrOf L b) (norm ((cnt t).kid 1)) i = vb at *
                      gi_wp2
                      go_roundw
                      case rel => exact ⟨2, by omega, by go_num, hide ⟨by simpa using HX3.out.2, HB3.out⟩⟩
                      case measure => simp [intOf]; omega
                  · obtain rfl : j = q := by omega
                    have HNOW := hide (show Box 70 wr W.heap.size #[.bool ((H L.length (ltrOf L b) (norm ((cnt t).kid 0))) i), .bool ((H L.length (ltrOf L b) (norm ((cnt t).kid 1))) i)] from by
                      have h0 : (decide (0 < j) && (H L.length (ltrOf L b) (norm ((cnt t).kid 0))) i) = (H L.length (ltrOf L b) (norm ((cnt t).kid 0))) i := by rcases HAJ.out i with h | h <;> simp [h]
                      have h1 : (decide (1 < j) && (H L.length (ltrOf L b) (norm ((cnt t).kid 1))) i) = (H L.length (ltrOf L b) (norm ((cnt t).kid 1))) i := by rcases HAK.out i with h | h <;> simp [h]
                      have := HR2.out.1
                      rwa [h0, h1] at this)
                    gi_upto_region 24 with fail
                    have HB4 := hide HR2.out.2
                    have HTR := hide (HTP.out.next HR2.out.2)
                    have HTK := hide (HT.out.next HTR.out.b)
                    have HNXT := hide (fun W => next_any A1 L.length c1 b i W h9 hi9)
                    have hy9 : nxt b L.length i < L.length := by unfold nxt; split <;> omega
                    obtain ⟨y, hy⟩ : ∃ y, y = nxt b L.length i := ⟨_, rfl⟩
                    rw [← hy] at hy9 HNXT
                    obtain ⟨nx, hnx⟩ : ∃ v, lst[y]? = some v := ⟨lst[y]'(by rw [HL1.out]; exact hy9), List.getElem?_eq_getElem (by rw [HL1.out]; exact hy9)⟩
                    obtain ⟨ov, hov⟩ : ∃ v, lst[i]? = some v := ⟨lst[i]'(by rw [HL1.out]; exact hi9), List.getElem?_eq_getElem (by rw [HL1.out]; exact hi9)⟩
                    have HY := hide (show nxt b L.length i = y ∧ lst.getD y false = nx from ⟨hy.symm, by rw [List.getD_eq_getElem?_getD, hnx]; rfl⟩)
                    have SOF := hide (show ∀ W9, Below wr.heap.size wr W9 → (W9.cell? ⟨g8, 0, none⟩ = some (.slice (some ⟨g, 0, none⟩) L.length L.length) ∧ W9.cell? ⟨w0.heap.size + 1, 0, none⟩ = some (.int .i64 (kk : Int)) ∧ W9.cell? ⟨W.heap.size, 0, none⟩ = some (.bool ((H L.length (ltrOf L b) (norm ((cnt t).kid 0))) i)) ∧ W9.cell? ⟨W.heap.size, 1, none⟩ = some (.bool ((H L.length (ltrOf L b) (norm ((cnt t).kid 1))) i)) ∧ W9.cell? ⟨w0.heap.size, 0, none⟩ = some (.slice A1 L.length c1) ∧ W9.cell? ⟨w0.heap.size, 1, none⟩ = some (.int .i64 (b : Int)) ∧ W9.cell? ⟨g, y, none⟩ = some (.bool nx) ∧ W9.cell? ⟨g, i, none⟩ = some (.bool ov)) from
                      fun W9 h => ⟨(HTR.out.next h).x8.cell 0 _ rfl, (HTK.out.next h).x3.cell 0 _ rfl, (HNOW.out.next h).cell 0 _ rfl, (HNOW.out.next h).cell 1 _ rfl, (HTK.out.next h).x2.cell 0 _ rfl, (HTK.out.next h).x2.cell 1 _ rfl, (HTR.out.next h).a.cell hnx, (HTR.out.next h).a.cell hov⟩)
                    obtain ⟨va, hva⟩ : ∃ v, v = (H L.length (ltrOf L b) (norm ((cnt t).kid 0))) i := ⟨_, rfl⟩
                    obtain ⟨vb, hvb⟩ : ∃ v, v = (H L.length (ltrOf L b) (norm ((cnt t).kid 1))) i := ⟨_, rfl⟩
                    rw [← hva, ← hvb] at SOF
                    obtain ⟨res, hres⟩ : ∃ v, v = truthB kk va vb nx := ⟨_, rfl⟩
                    have HTT := hide (fun W => truth_any kk va vb nx W)
                    rw [← hres] at HTT
                    have HRES := hide (show res = truthB kk ((H L.length (ltrOf L b) (norm ((cnt t).kid 0))) i) ((H L.length (ltrOf L b) (norm ((cnt t).kid 1))) i) (lst.getD (nxt b L.length i) false) from by rw [hres, hva, hvb, HY.out.1, HY.out.2])
                    clear hy hnx hov hva hvb hres HR2 HTP
                    refine wpIn_drawnL (by kernel_rfl) (by kernel_rfl) (by kernel_rfl) (by kernel_rfl) (by kernel_rfl) (fun w w' => Below w.heap.size w w') (fun j v w => match j with | 0 => v = .slice (some ⟨g, 0, none⟩) L.length L.length | 1 => v = .int .i64 (i : Int) | 2 => v = .pointer (some ⟨w0.heap.size + 1, 0, none⟩) | 3 => v = .int .i64 (kk : Int) | 4 => v = .agg #[.bool va, .bool vb] | 5 => v = .slice (some ⟨g, 0, none⟩) L.length L.length | 6 => v = .agg #[.slice A1 L.length c1, .int .i64 (b : Int)] | 7 => v = .int .i64 (i : Int) | 8 => v = .int .i64 (y : Int) | 9 => v = .pointer (some ⟨g, y, none⟩) | 10 => v = .bool nx | 11 => v = .bool res | 12 => v = .pointer (some ⟨g, i, none⟩) | _ => True) (fun _ _ w => Below wr.heap.size wr w) ?_ (fun _ => bl_drewN wr 1) ?_ ?_
                    · intro j v w w' hT h
                      match j, h with
                      | 0, h => exact h
                      | 1, h => exact h
                      | 2, h => exact h
                      | 3, h => exact h
                      | 4, h => exact h
                      | 5, h => exact h
                      | 6, h => exact h
                      | 7, h => exact h
                      | 8, h => exact h
                      | 9, h => exact h
                      | 10, h => exact h
                      | 11, h => exact h
                      | 12, h => exact h
                      | j + 13, h => trivial
                    · refine ⟨?_, ?_, ?_, ?_, ?_, ?_, ?_, ?_, ?_, ?_, ?_, ?_, ?_, trivial⟩
                      · intro listed σ w a hin hout hl hla hs hc hp hG hF
                        refine Guarded.none rfl ?_
                        have e8 : a.tmps.getD 8 undef = .pointer (some ⟨g8, 0, none⟩) := hout 8 (outB_spec (by kernel_rfl))
                        have CC := SOF.out w hG; obtain ⟨C0, C1, C2, C3, C4, C5, C6, C7⟩ := CC
                        refine Does.val (.slice (some ⟨g, 0, none⟩) L.length L.length) (w' := w) ?_ ⟨Below.refl _ _, rfl, hG⟩
                        go_simp
                      · intro listed σ w a hin hout hl hla hs hc hp hG hF
                        refine Guarded.none rfl ?_
                        have e9 : a.tmps.getD 9 undef = .int .i64 (i : Int) := hout 9 (outB_spec (by kernel_rfl))
                        refine Does.val (.int .i64 (i : Int)) (w' := w) ?_ ⟨Below.refl _ _, rfl, hG⟩
                        simp only [Array.getD_eq_getD_getElem?] at e9
                        go_simp
                      · intro listed σ w a hin hout hl hla hs hc hp hG hF
                        refine Guarded.none rfl ?_
                        have e3 : a.tmps.getD 3 undef = .pointer (some ⟨w0.heap.size + 1, 0, none⟩) := hout 3 (outB_spec (by kernel_rfl))
                        refine Does.val (.pointer (some ⟨w0.heap.size + 1, 0, none⟩)) (w' := w) ?_ ⟨Below.refl _ _, rfl, hG⟩
                        simp only [Array.getD_eq_getD_getElem?] at e3
                        go_simp
                      · intro listed σ w a hin hout hl hla hs hc hp hG hF
                        refine Guarded.none rfl ?_
                        have e66 : a.tmps.getD 66 undef = .pointer (some ⟨w0.heap.size + 1, 0, none⟩) := (hin 2 66 rfl (hp ⟨2, .data⟩ (by simp) rfl)).trans (hF 2 (hp ⟨2, .data⟩ (by simp) rfl))
                        have CC := SOF.out w hG; obtain ⟨C0, C1, C2, C3, C4, C5, C6, C7⟩ := CC
                        refine Does.val (.int .i64 (kk : Int)) (w' := w) ?_ ⟨Below.refl _ _, rfl, hG⟩
                        go_simp
                      · intro listed σ w a hin hout hl hla hs hc hp hG hF
                        refine Guarded.none rfl ?_
                        have e10 : a.tmps.getD 10 undef = .pointer (some ⟨W.heap.size, 0, none⟩) := hout 10 (outB_spec (by kernel_rfl))
                        have CC := SOF.out w hG; obtain ⟨C0, C1, C2, C3, C4, C5, C6, C7⟩ := CC
                        refine Does.val (.agg #[.bool va, .bool vb]) (w' := w) ?_ ⟨Below.refl _ _, rfl, hG⟩
                        go_simp
                      · intro listed σ w a hin hout hl hla hs hc hp hG hF
                        refine Guarded.none rfl ?_
                        have e8 : a.tmps.getD 8 undef = .pointer (some ⟨g8, 0, none⟩) := hout 8 (outB_spec (by kernel_rfl))
                        have CC := SOF.out w hG; obtain ⟨C0, C1, C2, C3, C4, C5, C6, C7⟩ := CC
                        refine Does.val (.slice (some ⟨g, 0, none⟩) L.length L.length) (w' := w) ?_ ⟨Below.refl _ _, rfl, hG⟩
                        go_simp
                      · intro listed σ w a hin hout hl hla hs hc hp hG hF
                        refine Guarded.none rfl ?_
                        have e2 : a.tmps.getD 2 undef = .pointer (some ⟨w0.heap.size, 0, none⟩) := hout 2 (outB_spec (by kernel_rfl))
                        have CC := SOF.out w hG; obtain ⟨C0, C1, C2, C3, C4, C5, C6, C7⟩ := CC
                        refine Does.val (.agg #[.slice A1 L.length c1, .int .i64 (b : Int)]) (w' := w) ?_ ⟨Below.refl _ _, rfl, hG⟩
                        go_simp
                      · intro listed σ w a hin hout hl hla hs hc hp hG hF
                        refine Guarded.none rfl ?_
                        have e9 : a.tmps.getD 9 undef = .int .i64 (i : Int) := hout 9 (outB_spec (by kernel_rfl))
                        refine Does.val (.int .i64 (i : Int)) (w' := w) ?_ ⟨Below.refl _ _, rfl, hG⟩
                        simp only [Array.getD_eq_getD_getElem?] at e9
                        go_simp
                      · intro listed σ w a hin hout hl hla hs hc hp hG hF
                        refine Guarded.none rfl ?_
                        have e70 : a.tmps.getD 70 undef = .agg #[.slice A1 L.length c1, .int .i64 (b : Int)] := (hin 6 70 rfl (hp ⟨6, .data⟩ (by simp) rfl)).trans (hF 6 (hp ⟨6, .data⟩ (by simp) rfl))
                        have e71 : a.tmps.getD 71 undef = .int .i64 (i : Int) := (hin 7 71 rfl (hp ⟨7, .data⟩ (by simp) rfl)).trans (hF 7 (hp ⟨7, .data⟩ (by simp) rfl))
                        refine Does.call ?_ (HNXT.out w) ?_
                        · go_simp
                        · rintro e w' ⟨rfl, hb⟩
                          exact ⟨_, rfl, hb, rfl, hG.next hb⟩
                      · intro listed σ w a hin hout hl hla hs hc hp hG hF
                        refine Guarded.none rfl ?_
                        have e69 : a.tmps.getD 69 undef = .slice (some ⟨g, 0, none⟩) L.length L.length := (hin 5 69 rfl (hp ⟨5, .data⟩ (by simp) rfl)).trans (hF 5 (hp ⟨5, .data⟩ (by simp) rfl))
                        have e72 : a.tmps.getD 72 undef = .int .i64 (y : Int) := (hin 8 72 rfl (hp ⟨8, .data⟩ (by simp) rfl)).trans (hF 8 (hp ⟨8, .data⟩ (by simp) rfl))
                        refine Does.val (.pointer (some ⟨g, y, none⟩)) (w' := w) ?_ ⟨Below.refl _ _, rfl, hG⟩
                        simp only [Array.getD_eq_getD_getElem?] at e69 e72
                        go_simp
                        (try (intro hh; exfalso; omega))
                      · intro listed σ w a hin hout hl hla hs hc hp hG hF
                        refine Guarded.none rfl ?_
                        have e73 : a.tmps.getD 73 undef = .pointer (some ⟨g, y, none⟩) := (hin 9 73 rfl (hp ⟨9, .data⟩ (by simp) rfl)).trans (hF 9 (hp ⟨9, .data⟩ (by simp) rfl))
                        have CC := SOF.out w hG; obtain ⟨C0, C1, C2, C3, C4, C5, C6, C7⟩ := CC
                        refine Does.val (.bool nx) (w' := w) ?_ ⟨Below.refl _ _, rfl, hG⟩
                        go_simp
                      · intro listed σ w a hin hout hl hla hs hc hp hG hF
                        refine Guarded.none rfl ?_
                        have e67 : a.tmps.getD 67 undef = .int .i64 (kk : Int) := (hin 3 67 rfl (hp ⟨3, .data⟩ (by simp) rfl)).trans (hF 3 (hp ⟨3, .data⟩ (by simp) rfl))
                        have e68 : a.tmps.getD 68 undef = .agg #[.bool va, .bool vb] := (hin 4 68 rfl (hp ⟨4, .data⟩ (by simp) rfl)).trans (hF 4 (hp ⟨4, .data⟩ (by simp) rfl))
                        have e74 : a.tmps.getD 74 undef = .bool nx := (hin 10 74 rfl (hp ⟨10, .data⟩ (by simp) rfl)).trans (hF 10 (hp ⟨10, .data⟩ (by simp) rfl))
                        refine Does.call ?_ (HTT.out w) ?_
                        · go_simp
                        · rintro e w' ⟨rfl, hb⟩
                          exact ⟨_, rfl, hb, rfl, hG.next hb⟩
                      · intro listed σ w a hin hout hl hla hs hc hp hG hF
                        refine Guarded.none rfl ?_
                        have e64 : a.tmps.getD 64 undef = .slice (some ⟨g, 0, none⟩) L.length L.length := (hin 0 64 rfl (hp ⟨0, .data⟩ (by simp) rfl)).trans (hF 0 (hp ⟨0, .data⟩ (by simp) rfl))
                        have e65 : a.tmps.getD 65 undef = .int .i64 (i : Int) := (hin 1 65 rfl (hp ⟨1, .data⟩ (by simp) rfl)).trans (hF 1 (hp ⟨1, .data⟩ (by simp) rfl))
                        refine Does.val (.pointer (some ⟨g, i, none⟩)) (w' := w) ?_ ⟨Below.refl _ _, rfl, hG⟩
                        simp only [Array.getD_eq_getD_getElem?] at e64 e65
                        go_simp
                        (try (intro hh; exfalso; omega))
                    · intro o ho
                      injection ho with ho; subst ho
                      intro listed σ w a hall hin hout hG hF
                      refine Guarded.none rfl ?_
                      have e76 : a.tmps.getD 76 undef = .pointer (some ⟨g, i, none⟩) := (hin 12 76 rfl (by decide)).trans (hF 12 (by decide))
                      have e75 : a.tmps.getD 75 undef = .bool res := (hin 11 75 rfl (by decide)).trans (hF 11 (by decide))
                      have CC := SOF.out w hG; obtain ⟨C0, C1, C2, C3, C4, C5, C6, C7⟩ := CC
                      have fr := Box.fr (HTR.out.next hG).a i
                      refine Does.skip (w' := w.setCell ⟨g, i, none⟩ (.bool res)) ?_ ?_
                      · simp only [Array.getD_eq_getD_getElem?] at e75 e76
                        go_simp
                      · rw [show fin _ σ undef _ = (Act.put (Act.put (Act.put (Act.put (Act.put (Act.put (Act.put (Act.put (Act.put (Act.put (Act.put (Act.put (Act.put (Act.put _ (some 64) (σ 0)) (some 65) (σ 1)) (some 66) (σ 2)) (some 67) (σ 3)) (some 68) (σ 4)) (some 69) (σ 5)) (some 70) (σ 6)) (some 71) (σ 7)) (some 72) (σ 8)) (some 73) (σ 9)) (some 74) (σ 10)) (some 75) (σ 11)) (some 76) (σ 12)) none undef) from (fin_all hall).trans rfl]
                        simp only [Act.put, List.setIfInBounds_toArray, List.set_cons_zero, List.set_cons_succ]
                        generalize σ 0 = tt0 at *; generalize σ 1 = tt1 at *; generalize σ 2 = tt2 at *; generalize σ 3 = tt3 at *; generalize σ 4 = tt4 at *; generalize σ 5 = tt5 at *; generalize σ 6 = tt6 at *; generalize σ 7 = tt7 at *; generalize σ 8 = tt8 at *; generalize σ 9 = tt9 at *; generalize σ 10 = tt10 at *; generalize σ 11 = tt11 at *; generalize σ 12 = tt12 at *
                        have TG := hG
                        clear hF hG hall hin hout e75 e76 SOF C0 C1 C2 C3 C4 C5 C6 C7 fr
                        refine And.intro ((keepsOthers_below (HB4.out.next TG)).trans (KeepsOthers.setCell _ _ _)) (And.intro (KpB.step (HB4.out.next TG) (only_set1 w g i (.bool res)) (by have := HPA.out.2.2.2.1; have := HTR.out.h8; omega) (by rw [List.length_set]; exact HL1.out) ((HTR.out.next TG).set i res).a) ⟨_, (HTR.out.next TG).set i res, by rw [List.length_set]; exact HL1.out, ?_, fun hh => ?_, ((keepsOthers_below (HB4.out.next TG)).trans (KeepsOthers.setCell _ _ _)).same D0 _ HDM.out rfl⟩)
                        · have := (HB4.out.next TG).size
                          have h3 := (only_set1 w g i (.bool res)).size
                          omega
                        · have h1 : pre.map (·.1.1) ++ [i] = downs L.length (pre.length + 1) := by simpa using hh
                          obtain ⟨h2, h3⟩ := downs_snoc (by simp) h1
                          have h4 := HORD.out h2
                          simp only [List.length_append, List.length_singleton]
                          rw [HRES.out, h4, h3]
                          exact stage_step hbL hlen
              · rintro D1 xs Wc2 hD hxs ⟨lst, hT1, hl1, hBs, hord, hdm⟩ hdef
                have hlen : xs.length = L.length := by
                  have := congrArg List.length hxs
                  simpa [downs] using this
                have hl9 := hord (by rw [hlen]; exact hxs)
                rw [hlen] at hl9
                have HPT2 := hide hT1
                have HLL2 := hide hl1
                have HLE2 := hide hl9
                have HD1 := hide (show Wc2.heap[D1]? = some (.deferred (some [])) ∧ D0 ≠ D1 ∧ g8 < D1 from ⟨hdef, by have := (Array.getElem?_eq_some_iff.1 HPA.out.2.2.2.2).1; omega, by have := HPA.out.2.2.2.1; have := HPA.out.2.1; omega⟩)
                have HD2 := hide hdm
                clear hT1 hl1 hl9 hord hdef hxs hlen hBs hD HPA hdm
                generalize lst = l2 at *
                simp only [Exit.inBlock, Exit.then]
                go_wp2_with fail
                rw [rounds_succ]
                have cc8 := HPT2.out.x8.cell 0 _ rfl
                go_wp2_with fail
                have hp1 := HPT2.out.own (grownBy_putObj' Wc2 D1 (.deferred none)) (B := g8 + 1) (by omega) (fun r e => by cases e; have := HD1.out.2.2; omega)
                have hp2 := hp1.own (grownBy_putObj' _ D0 (.deferred none)) (B := g8 + 1) (by omega) (fun r e => by cases e; have := HD0.out.2; omega)
                have he : l2 = row L b (norm t) := by
                  rw [HLE2.out, stage_all, ← HFIN.out]
                  have h1 : l1.getD b false = GE kk (H L.length (ltrOf L b) (norm ((cnt t).kid 0))) (H L.length (ltrOf L b) (norm ((cnt t).kid 1))) (e0 kk) (L.length - b) b := by
                    rw [HLE1.out, stage_getD hbL, if_neg (by omega), HLE0.out]
                  rw [h1]
                rw [he] at hp2
                refine ⟨by simp, .inl ⟨_, _, rfl, run_takeDeferred HD1.out.1, ?_⟩⟩
                refine ⟨by simp, .inl ⟨_, _, rfl, run_takeDeferred ((World.putObj_heap_other HD1.out.2.1).trans HD2.out), ?_⟩⟩
                exact ⟨_, results_tmp (t := 4) rfl _ _ _, HPO.out _ g hp2.a (Nat.le_trans HB.out.size hp2.hg) (HB.out.next hp2.b)⟩
end Go.Proofs.Ytljocjjdfgpbaaa
