/- 'LexBetween', walked. -/
import Derived.Test.YtifikcaiknnjfaaLexBetM
import Derived.Test.YtifikcaiknnjfaaLexOpenI
namespace Go.Proofs.Ytifikcaiknnjfaa
open Go.RowKit
open Lx

set_option maxRecDepth 100000 in
set_option maxHeartbeats 16000000 in
theorem lexBetween_walk (s r : ByteArray) (Ac : Option Addr) (nc cc : Nat) (cuts : List Int) (w0 : World) (hs : s.size ≤ 9223372036854775807) (hr : r.size ≤ 9223372036854775807) (hcu : LIn w0 Ac nc cuts) (hcc : nc ≤ cc) (hcm : cc ≤ 9223372036854775807) :
    Calls Try.prog 4 #[.string s, .string r, .slice Ac nc cc] w0 (LexYes w0) := by
  have h0 := lexalive_yes w0
  by_cases h1 : 2000 < s.size
  · have g1 : (2000 : Int) < (s.size : Int) := by omega
    clear h1 hcu
    go_enter Try.func4, Try.ntmps4
    go_wp2_with fail
    refine h0.mono ?_
    rintro e w1 ⟨rfl, b1⟩
    have B1 := hide b1
    clear h0 b1
    go_wp2_with fail
    go_ret
    exact ⟨rfl, B1.out⟩
  have g1 : ¬ (2000 : Int) < (s.size : Int) := by omega
  by_cases h2 : 50 < r.size
  · have g2 : (50 : Int) < (r.size : Int) := by omega
    clear h1 h2 hcu
    go_enter Try.func4, Try.ntmps4
    go_wp2_with fail
    refine h0.mono ?_
    rintro e w1 ⟨rfl, b1⟩
    have B1 := hide b1
    clear h0 b1
    go_wp2_with fail
    go_ret
    exact ⟨rfl, B1.out⟩
  have g2 : ¬ (50 : Int) < (r.size : Int) := by omega
  by_cases h3 : 20 < nc
  · have g3 : (20 : Int) < (nc : Int) := by omega
    clear h1 h2 h3 hcu
    go_enter Try.func4, Try.ntmps4
    go_wp2_with fail
    refine h0.mono ?_
    rintro e w1 ⟨rfl, b1⟩
    have B1 := hide b1
    clear h0 b1
    go_wp2_with fail
    go_ret
    exact ⟨rfl, B1.out⟩
  have g3 : ¬ (20 : Int) < (nc : Int) := by omega
  have H1 := hide (fun W => all_any s W hs)
  unfold AllPost at H1
  by_cases hc : (lexAll (byteAt s) s.size).code = 0
  · have hp0 : resPos s (lexAll (byteAt s) s.size) = (0, 0) := by unfold resPos; rw [if_pos hc]
    rw [hc, hp0] at H1
    obtain ⟨T, hT⟩ : ∃ T, (lexAll (byteAt s) s.size).toks.map (tk s) = T := ⟨_, rfl⟩
    have hl1 : (lexAll (byteAt s) s.size).toks.length = T.length := by rw [← hT, List.length_map]
    rw [hT, hl1] at H1
    have HT := hide hT
    have HC := hide hc
    have HCU := hide hcu
    obtain ⟨n, hn⟩ : ∃ n, T.length = n := ⟨_, rfl⟩
    rw [hn] at H1
    have HNL := hide hn
    clear hp0 hT hl1 hn hc hcu
    go_enter Try.func4, Try.ntmps4
    go_wp2_with fail
    refine h0.mono ?_
    rintro e w1 ⟨rfl, b1⟩
    have B1 := hide b1
    clear h0 b1
    go_wp2_with fail
    refine (H1.out _).mono ?_
    rintro e w2 ⟨v, rfl, b2, l2⟩
    have l2' : LRow 33 4 w2 w1.heap.size v T.length (flatK T) := by rw [HNL.out]; exact l2
    obtain ⟨A, cA, rfl, hc1, hc2, k2⟩ := l2'.kin
    rw [HNL.out] at k2 ⊢
    have A2 := bl_alloc w2 (.cells #[.int .i64 0, .int .i64 0] 25)
    have B2 := hide ((B1.out.next b2).next A2)
    have K2 := hide (k2.below A2)
    clear b2 l2 l2' k2 A2 B1 H1 hc1
    go_wp2_with fail
    generalize w2.alloc (.cells #[.int .i64 0, .int .i64 0] 25) = W2 at *
    go_loopw [10] (fun i wr => ∃ q : Nat, q ≤ r.size ∧ i = .int .i64 (q : Int) ∧ wr = W2 ∧ Hid (∀ j, j < q → byteAt r j ≠ 10)) (fun i _ => r.size - (intOf i).toNat)
    case atStart => exact ⟨0, Nat.zero_le _, rfl, by first | rfl | trivial, hide (fun j hj => absurd hj (Nat.not_lt_zero _))⟩
    case round =>
      obtain ⟨q, hq, rfl, rfl, HJ⟩ := hrel
      by_cases hqr : q < r.size
      · have hbe := byteAt_eq r q hqr
        by_cases h10 : byteAt r q = 10
        · have b10 : (((r[q]'hqr).toNat : Int) == 10) = true := by rw [beq_iff_eq]; omega
          clear hbe h10
          go_wp2_with fail
          go_ret
          exact ⟨rfl, B2.out⟩
        · have b10 : (((r[q]'hqr).toNat : Int) == 10) = false := by rw [beq_eq_false_iff_ne]; omega
          have HJ2 := hide (show ∀ j, j < q + 1 → byteAt r j ≠ 10 from fun j hj => by
            rcases Nat.lt_or_ge j q with h | h
            · exact HJ.out j h
            · have : j = q := by omega
              rw [this]; exact h10)
          clear hbe h10
          go_wp2_with fail
          go_roundw
          case rel => exact ⟨q + 1, by omega, by go_num, by first | rfl | trivial, HJ2⟩
          case measure => simp [intOf]; omega
      · obtain rfl : q = r.size := by omega
        obtain ⟨T2, T', o, e1, e2, e3, e4, e5, e6, e7⟩ := between_math s r cuts (by omega) (by omega) (by rw [HCU.out.1]; omega) HJ.out HC.out
        rw [HT.out] at e1
        subst e1
        rw [HNL.out] at e4 e7
        have H2 := hide (fun W => all_any o W (by omega))
        unfold AllPost at H2
        have hp1 : resPos o (lexAll (byteAt o) o.size) = (0, 0) := by unfold resPos; rw [if_pos e3]
        have hl2 : (lexAll (byteAt o) o.size).toks.length = T'.length := by rw [← e2, List.length_map]
        have hTl : T'.length = n := by have := congrArg List.length e5; rw [List.length_map, List.length_map] at this; exact this.trans HNL.out
        rw [e3, hp1, e2, hl2, hTl] at H2
        have HTT := hide e5
        have HNL' := hide hTl
        have HOZ := hide e6
        have HO := hide e4
        have z1 : 2 + r.size ≤ 9223372036854775807 := by omega
        have z2 : ((⟨#[32, 35]⟩ : ByteArray) ++ r).size + 1 ≤ 9223372036854775807 := by rw [ByteArray.size_append]; show 2 + r.size + 1 ≤ _; omega
        have A3 := bl_alloc wr (.cells #[.string ⟨#[32]⟩, .string ⟨#[9, 9]⟩, .string ⟨#[10]⟩, .string ((⟨#[32, 35]⟩ ++ r) ++ ⟨#[10]⟩), .string ⟨#[35, 10, 10, 32]⟩] 9)
        have HBT := hide (show ∀ (i : Nat) (b : ByteArray), (btw r)[i]? = some b → (wr.alloc (.cells #[.string ⟨#[32]⟩, .string ⟨#[9, 9]⟩, .string ⟨#[10]⟩, .string ((⟨#[32, 35]⟩ ++ r) ++ ⟨#[10]⟩), .string ⟨#[35, 10, 10, 32]⟩] 9)).cell? ⟨wr.heap.size, i, none⟩ = some (.string b) from fun i b hb => by
          rw [cell_of_row _ wr.heap.size i _ _ _ (heap_alloc_new wr _)]
          have h5 : (([⟨#[32]⟩, ⟨#[9, 9]⟩, ⟨#[10]⟩, (⟨#[32, 35]⟩ ++ r) ++ ⟨#[10]⟩, ⟨#[35, 10, 10, 32]⟩] : List ByteArray).map Value.string)[i]? = some (.string b) := by rw [List.getElem?_map]; unfold btw at hb; rw [hb]; rfl
          simpa using h5)
        have B3 := hide (B2.out.next A3)
        have K3 := hide (K2.out.below A3)
        have HGB := hide (show wr.heap.size < (wr.alloc (.cells #[.string ⟨#[32]⟩, .string ⟨#[9, 9]⟩, .string ⟨#[10]⟩, .string ((⟨#[32, 35]⟩ ++ r) ++ ⟨#[10]⟩), .string ⟨#[35, 10, 10, 32]⟩] 9)).heap.size by rw [size_alloc']; omega)
        clear e2 e3 e4 e5 e6 hp1 hl2 hTl A3 B2 K2 HT HC HJ
        go_wp2_with fail
        generalize hW3 : wr.alloc (.cells #[.string ⟨#[32]⟩, .string ⟨#[9, 9]⟩, .string ⟨#[10]⟩, .string ((⟨#[32, 35]⟩ ++ r) ++ ⟨#[10]⟩), .string ⟨#[35, 10, 10, 32]⟩] 9) = W3 at *
        generalize wr.heap.size = gb at *
        clear hW3 z1 z2
        go_loopw [12, 59] (fun x i wq => ∃ q : Nat, q ≤ n ∧ i = .int .i64 (q : Int) ∧ x = .string (mixB (spB r cuts) T q) ∧ Hid (Below W3.heap.size W3 wq)) (fun _ i _ => n - (intOf i).toNat)
        case atStart => exact ⟨0, Nat.zero_le _, rfl, rfl, hide (Below.refl _ _)⟩
        case round =>
          obtain ⟨q, hq, rfl, rfl, HR⟩ := hrel
          by_cases hqn : q < n
          · obtain ⟨ba, oa, t, hA, hlt, ht, c0, c1, c2, c3⟩ := (K3.out.below HR.out).at_ hqn
            subst hA
            have hm := mixB_mono (spB r cuts) T (q + 1) (n - (q + 1))
            rw [show q + 1 + (n - (q + 1)) = n by omega, HO.out] at hm
            have hstep : mixB (spB r cuts) T (q + 1) = (mixB (spB r cuts) T q ++ spB r cuts q) ++ t.text := by rw [mixB, ht]; rfl
            have hoz := HOZ.out
            have HST := hide hstep
            rw [hstep, ByteArray.size_append, ByteArray.size_append] at hm
            have HR2 := hide (HR.out.next (bl_alloc _ (.cells (TK.cells t).toArray 33)))
            clear hstep ht
            by_cases hqc : q < nc
            · obtain ⟨bc, oc, z, hAc, hltc, hz, d0⟩ := (HCU.out.below (B3.out.next HR.out)).at_ hqc
              subst hAc
              have hb1 := i64_low1023 z
              have hix : idxB z < 5 := by unfold idxB; omega
              have hty : Int.tmod (z % 1024) 5 = ((idxB z : Nat) : Int) := by
                rw [Int.tmod_eq_emod_of_nonneg (by omega)]; unfold idxB; omega
              have hbt : (btw r)[idxB z]? = some (spB r cuts q) := by
                unfold spB
                rw [hz]
                dsimp only
                rw [List.getD_eq_getElem?_getD, List.getElem?_eq_getElem (show idxB z < (btw r).length from hix)]
                rfl
              have hlq : gb < W3.heap.size := HGB.out
              have f0 : wr.cell? ⟨gb, idxB z, none⟩ = some (.string (spB r cuts q)) := (below_cell HR.out hlq).trans (HBT.out _ _ hbt)
              have hlg : gb < wr.heap.size := Nat.lt_of_lt_of_le hlq HR.out.size
              clear hlq
              generalize spB r cuts q = bq at *
              generalize idxB z = ix at *
              have hy0 : 0 ≤ z % 1024 := by omega
              have hy1 : z % 1024 < 1024 := by omega
              generalize z % 1024 = y at *
              generalize mixB (spB r cuts) T q = sq at *
              have z3 : sq.size + bq.size ≤ 9223372036854775807 := by omega
              have z4 : (sq ++ bq).size + t.text.size ≤ 9223372036854775807 := by rw [ByteArray.size_append]; omega
              clear hbt hz hm hoz
              go_wp2_with fail
              go_roundw
              case rel => exact ⟨q + 1, by omega, by go_num, by rw [HST.out], HR2⟩
              case measure => simp [intOf]; omega
            · have hsp : spB r cuts q = ⟨#[32]⟩ := by
                unfold spB
                rw [List.getElem?_eq_none (by rw [HCU.out.1]; omega)]
              rw [hsp] at HST hm
              generalize mixB (spB r cuts) T q = sq at *
              have z3 : sq.size + 1 ≤ 9223372036854775807 := by omega
              have z4 : (sq ++ ⟨#[32]⟩).size + t.text.size ≤ 9223372036854775807 := by rw [ByteArray.size_append]; omega
              clear hsp hm hoz
              go_wp2_with fail
              go_roundw
              case rel => exact ⟨q + 1, by omega, by go_num, by rw [HST.out], HR2⟩
              case measure => simp [intOf]; omega
          · obtain rfl : n = q := by omega
            rw [HO.out]
            have B4 := hide (B3.out.next HR.out)
            have K4 := hide (K3.out.below HR.out)
            clear HO HBT HGB HR B3 K3
            go_wp2_with fail
            refine (H2.out _).mono ?_
            rintro e w4 ⟨v4, rfl, b4, l4⟩
            have l4' := l4
            rw [← HNL'.out] at l4'
            obtain ⟨A4, cB, rfl, hc3, hc4, k4⟩ := l4'.kin
            rw [HNL'.out] at k4 ⊢
            have A5 := bl_alloc w4 (.cells #[.int .i64 0, .int .i64 0] 25)
            have B5 := hide ((B4.out.next b4).next A5)
            have KA := hide ((K4.out.below b4).below A5)
            have KB := hide (k4.below A5)
            clear b4 l4 l4' k4 A5 B4 K4 H2 hc3
            go_wp2_with fail
            generalize w4.alloc (.cells #[.int .i64 0, .int .i64 0] 25) = W4 at *
            go_loopw [101] (fun i wr => ∃ q : Nat, q ≤ n ∧ i = .int .i64 (q : Int) ∧ Hid (Below W4.heap.size W4 wr)) (fun i _ => n - (intOf i).toNat)
            case atStart => exact ⟨0, Nat.zero_le _, rfl, hide (Below.refl _ _)⟩
            case round =>
              obtain ⟨q, hq, rfl, HR⟩ := hrel
              by_cases hqn : q < n
              · obtain ⟨ba, oa, t, hA, hlt, ht, c0, c1, -, -⟩ := (KA.out.below HR.out).at_ hqn
                obtain ⟨bb, ob, t2, hB, hlt2, ht2, d0, d1, -, -⟩ := (KB.out.below HR.out).at_ hqn
                subst hA hB
                have htt : t2.kind = t.kind ∧ t2.text = t.text := by
                  have h1 : (T'.map (fun u : TK => (u.kind, u.text)))[q]? = some (t2.kind, t2.text) := by rw [List.getElem?_map, ht2]; rfl
                  have h2 : (T.map (fun u : TK => (u.kind, u.text)))[q]? = some (t.kind, t.text) := by rw [List.getElem?_map, ht]; rfl
                  rw [HTT.out, h2] at h1
                  injection h1 with h1
                  injection h1 with h1 h3
                  exact ⟨h1.symm, h3.symm⟩
                rw [htt.1] at d0
                rw [htt.2] at d1
                have SOF := hide (show ∀ W, Below wr.heap.size wr W → (W.cell? ⟨ba, oa + q * 4, none⟩ = some (.int .i64 (t.kind : Nat)) ∧ W.cell? ⟨ba, oa + q * 4 + 1, none⟩ = some (.string t.text) ∧ W.cell? ⟨bb, ob + q * 4, none⟩ = some (.int .i64 (t.kind : Nat)) ∧ W.cell? ⟨bb, ob + q * 4 + 1, none⟩ = some (.string t.text)) from fun W h => ⟨(below_cell h hlt).trans c0, (below_cell h hlt).trans c1, (below_cell h hlt2).trans d0, (below_cell h hlt2).trans d1⟩)
                clear ht ht2 c0 c1 d0 d1 htt
                go_upto_region 29 with fail
                refine wp_drawn (by kernel_rfl) (by kernel_rfl) (by kernel_rfl) (fun w w' => Below w.heap.size w w') (fun j v w => match j with | 0 => v = .slice (some ⟨ba, oa, none⟩) n cA | 1 => v = .int .i64 (q : Int) | 2 => v = .pointer (some ⟨ba, oa + q * 4, none⟩) | 3 => v = .pointer (some ⟨ba, oa + q * 4, none⟩) | 4 => v = .int .i64 (t.kind : Nat) | 5 => v = .slice (some ⟨bb, ob, none⟩) n cB | 6 => v = .int .i64 (q : Int) | 7 => v = .pointer (some ⟨bb, ob + q * 4, none⟩) | 8 => v = .pointer (some ⟨bb, ob + q * 4, none⟩) | 9 => v = .int .i64 (t.kind : Nat) | 10 => v = .bool false | 11 => v = .bool false | 12 => v = .slice (some ⟨ba, oa, none⟩) n cA | 13 => v = .int .i64 (q : Int) | 14 => v = .pointer (some ⟨ba, oa + q * 4, none⟩) | 15 => v = .pointer (some ⟨ba, oa + q * 4 + 1, none⟩) | 16 => v = .string t.text | 17 => v = .slice (some ⟨bb, ob, none⟩) n cB | 18 => v = .int .i64 (q : Int) | 19 => v = .pointer (some ⟨bb, ob + q * 4, none⟩) | 20 => v = .pointer (some ⟨bb, ob + q * 4 + 1, none⟩) | 21 => v = .string t.text | 22 => v = .bool false | 23 => v = .bool false | _ => True) (fun _ _ w => Below wr.heap.size wr w) ?_ (fun _ => bl_drewN wr 1) ?_ ?_
                · intro j v w w' hT h
                  match j, h with
                  | 0, h => exact h
                  | 1, h => exact h
                  | 2, h => exact h
                  | 3, h => exact h
                  | 4, h => exact h
                  | 5, h => exact h
                  | 6, h => exact h
                  | 7, h => exact h
                  | 8, h => exact h
                  | 9, h => exact h
                  | 10, h => exact h
                  | 11, h => exact h
                  | 12, h => exact h
                  | 13, h => exact h
                  | 14, h => exact h
                  | 15, h => exact h
                  | 16, h => exact h
                  | 17, h => exact h
                  | 18, h => exact h
                  | 19, h => exact h
                  | 20, h => exact h
                  | 21, h => exact h
                  | 22, h => exact h
                  | 23, h => exact h
                  | j + 24, h => trivial
                · refine ⟨?_, ?_, ?_, ?_, ?_, ?_, ?_, ?_, ?_, ?_, ?_, ?_, ?_, ?_, ?_, ?_, ?_, ?_, ?_, ?_, ?_, ?_, ?_, ?_, trivial⟩
                  · intro listed σ w a hin hout hl hc hp hG hF
                    refine Guarded.none rfl ?_
                    have e7 : a.tmps.getD 7 undef = .slice (some ⟨ba, oa, none⟩) n cA := hout 7 (outB_spec (by kernel_rfl))
                    refine Does.val (.slice (some ⟨ba, oa, none⟩) n cA) (w' := w) ?_ ⟨Below.refl _ _, rfl, hG⟩
                    simp only [Array.getD_eq_getD_getElem?] at e7
                    go_simp
                  · intro listed σ w a hin hout hl hc hp hG hF
                    refine Guarded.none rfl ?_
                    have e19 : a.tmps.getD 19 undef = .int .i64 (q : Int) := hout 19 (outB_spec (by kernel_rfl))
                    refine Does.val (.int .i64 (q : Int)) (w' := w) ?_ ⟨Below.refl _ _, rfl, hG⟩
                    simp only [Array.getD_eq_getD_getElem?] at e19
                    go_simp
                  · intro listed σ w a hin hout hl hc hp hG hF
                    refine Guarded.none rfl ?_
                    have e104 : a.tmps.getD 104 undef = .slice (some ⟨ba, oa, none⟩) n cA := (hin 0 104 rfl (hp ⟨0, .data⟩ (by simp) rfl)).trans (hF 0 (hp ⟨0, .data⟩ (by simp) rfl))
                    have e105 : a.tmps.getD 105 undef = .int .i64 (q : Int) := (hin 1 105 rfl (hp ⟨1, .data⟩ (by simp) rfl)).trans (hF 1 (hp ⟨1, .data⟩ (by simp) rfl))
                    refine Does.val (.pointer (some ⟨ba, oa + q * 4, none⟩)) (w' := w) ?_ ⟨Below.refl _ _, rfl, hG⟩
                    simp only [Array.getD_eq_getD_getElem?] at e104 e105
                    go_simp
                    (try (intro hh; exfalso; omega))
                    (try (intro hh; exfalso; omega))
                  · intro listed σ w a hin hout hl hc hp hG hF
                    refine Guarded.none rfl ?_
                    have e106 : a.tmps.getD 106 undef = .pointer (some ⟨ba, oa + q * 4, none⟩) := (hin 2 106 rfl (hp ⟨2, .data⟩ (by simp) rfl)).trans (hF 2 (hp ⟨2, .data⟩ (by simp) rfl))
                    refine Does.val (.pointer (some ⟨ba, oa + q * 4, none⟩)) (w' := w) ?_ ⟨Below.refl _ _, rfl, hG⟩
                    simp only [Array.getD_eq_getD_getElem?] at e106
                    go_simp
                  · intro listed σ w a hin hout hl hc hp hG hF
                    refine Guarded.none rfl ?_
                    have e107 : a.tmps.getD 107 undef = .pointer (some ⟨ba, oa + q * 4, none⟩) := (hin 3 107 rfl (hp ⟨3, .data⟩ (by simp) rfl)).trans (hF 3 (hp ⟨3, .data⟩ (by simp) rfl))
                    have CC := SOF.out w hG; obtain ⟨C0, C1, D0, D1⟩ := CC
                    refine Does.val (.int .i64 (t.kind : Nat)) (w' := w) ?_ ⟨Below.refl _ _, rfl, hG⟩
                    go_simp
                  · intro listed σ w a hin hout hl hc hp hG hF
                    refine Guarded.none rfl ?_
                    have e16 : a.tmps.getD 16 undef = .slice (some ⟨bb, ob, none⟩) n cB := hout 16 (outB_spec (by kernel_rfl))
                    refine Does.val (.slice (some ⟨bb, ob, none⟩) n cB) (w' := w) ?_ ⟨Below.refl _ _, rfl, hG⟩
                    simp only [Array.getD_eq_getD_getElem?] at e16
                    go_simp
                  · intro listed σ w a hin hout hl hc hp hG hF
                    refine Guarded.none rfl ?_
                    have e19 : a.tmps.getD 19 undef = .int .i64 (q : Int) := hout 19 (outB_spec (by kernel_rfl))
                    refine Does.val (.int .i64 (q : Int)) (w' := w) ?_ ⟨Below.refl _ _, rfl, hG⟩
                    simp only [Array.getD_eq_getD_getElem?] at e19
                    go_simp
                  · intro listed σ w a hin hout hl hc hp hG hF
                    refine Guarded.none rfl ?_
                    have e109 : a.tmps.getD 109 undef = .slice (some ⟨bb, ob, none⟩) n cB := (hin 5 109 rfl (hp ⟨5, .data⟩ (by simp) rfl)).trans (hF 5 (hp ⟨5, .data⟩ (by simp) rfl))
                    have e110 : a.tmps.getD 110 undef = .int .i64 (q : Int) := (hin 6 110 rfl (hp ⟨6, .data⟩ (by simp) rfl)).trans (hF 6 (hp ⟨6, .data⟩ (by simp) rfl))
                    refine Does.val (.pointer (some ⟨bb, ob + q * 4, none⟩)) (w' := w) ?_ ⟨Below.refl _ _, rfl, hG⟩
                    simp only [Array.getD_eq_getD_getElem?] at e109 e110
                    go_simp
                    (try (intro hh; exfalso; omega))
                    (try (intro hh; exfalso; omega))
                  · intro listed σ w a hin hout hl hc hp hG hF
                    refine Guarded.none rfl ?_
                    have e111 : a.tmps.getD 111 undef = .pointer (some ⟨bb, ob + q * 4, none⟩) := (hin 7 111 rfl (hp ⟨7, .data⟩ (by simp) rfl)).trans (hF 7 (hp ⟨7, .data⟩ (by simp) rfl))
                    refine Does.val (.pointer (some ⟨bb, ob + q * 4, none⟩)) (w' := w) ?_ ⟨Below.refl _ _, rfl, hG⟩
                    simp only [Array.getD_eq_getD_getElem?] at e111
                    go_simp
                  · intro listed σ w a hin hout hl hc hp hG hF
                    refine Guarded.none rfl ?_
                    have e112 : a.tmps.getD 112 undef = .pointer (some ⟨bb, ob + q * 4, none⟩) := (hin 8 112 rfl (hp ⟨8, .data⟩ (by simp) rfl)).trans (hF 8 (hp ⟨8, .data⟩ (by simp) rfl))
                    have CC := SOF.out w hG; obtain ⟨C0, C1, D0, D1⟩ := CC
                    refine Does.val (.int .i64 (t.kind : Nat)) (w' := w) ?_ ⟨Below.refl _ _, rfl, hG⟩
                    go_simp
                  · intro listed σ w a hin hout hl hc hp hG hF
                    refine Guarded.none rfl ?_
                    have e108 : a.tmps.getD 108 undef = .int .i64 (t.kind : Nat) := (hin 4 108 rfl (hp ⟨4, .data⟩ (by simp) rfl)).trans (hF 4 (hp ⟨4, .data⟩ (by simp) rfl))
                    have e113 : a.tmps.getD 113 undef = .int .i64 (t.kind : Nat) := (hin 9 113 rfl (hp ⟨9, .data⟩ (by simp) rfl)).trans (hF 9 (hp ⟨9, .data⟩ (by simp) rfl))
                    refine Does.val (.bool false) (w' := w) ?_ ⟨Below.refl _ _, rfl, hG⟩
                    simp only [Array.getD_eq_getD_getElem?] at e108 e113
                    go_simp
                  · intro listed σ w a hin hout hl hc hp hG hF
                    refine Guarded.none rfl ?_
                    have e114 : a.tmps.getD 114 undef = .bool false := (hin 10 114 rfl (hp ⟨10, .data⟩ (by simp) rfl)).trans (hF 10 (hp ⟨10, .data⟩ (by simp) rfl))
                    refine Does.val (.bool false) (w' := w) ?_ ⟨Below.refl _ _, rfl, hG⟩
                    simp only [Array.getD_eq_getD_getElem?] at e114
                    go_simp
                  · intro listed σ w a hin hout hl hc hp hG hF
                    refine Guarded.some (d := 115) (b := false) rfl rfl ((hin 11 115 rfl (hp ⟨11, .guard⟩ (by simp) rfl)).trans (hF 11 (hp ⟨11, .guard⟩ (by simp) rfl))) ?_
                    refine Or.inl ⟨rfl, ?_⟩
                    have e7 : a.tmps.getD 7 undef = .slice (some ⟨ba, oa, none⟩) n cA := hout 7 (outB_spec (by kernel_rfl))
                    refine Does.val (.slice (some ⟨ba, oa, none⟩) n cA) (w' := w) ?_ ⟨Below.refl _ _, rfl, hG⟩
                    simp only [Array.getD_eq_getD_getElem?] at e7
                    go_simp
                  · intro listed σ w a hin hout hl hc hp hG hF
                    refine Guarded.some (d := 115) (b := false) rfl rfl ((hin 11 115 rfl (hp ⟨11, .guard⟩ (by simp) rfl)).trans (hF 11 (hp ⟨11, .guard⟩ (by simp) rfl))) ?_
                    refine Or.inl ⟨rfl, ?_⟩
                    have e19 : a.tmps.getD 19 undef = .int .i64 (q : Int) := hout 19 (outB_spec (by kernel_rfl))
                    refine Does.val (.int .i64 (q : Int)) (w' := w) ?_ ⟨Below.refl _ _, rfl, hG⟩
                    simp only [Array.getD_eq_getD_getElem?] at e19
                    go_simp
                  · intro listed σ w a hin hout hl hc hp hG hF
                    refine Guarded.some (d := 115) (b := false) rfl rfl ((hin 11 115 rfl (hp ⟨11, .guard⟩ (by simp) rfl)).trans (hF 11 (hp ⟨11, .guard⟩ (by simp) rfl))) ?_
                    refine Or.inl ⟨rfl, ?_⟩
                    have e116 : a.tmps.getD 116 undef = .slice (some ⟨ba, oa, none⟩) n cA := (hin 12 116 rfl (hp ⟨12, .data⟩ (by simp) rfl)).trans (hF 12 (hp ⟨12, .data⟩ (by simp) rfl))
                    have e117 : a.tmps.getD 117 undef = .int .i64 (q : Int) := (hin 13 117 rfl (hp ⟨13, .data⟩ (by simp) rfl)).trans (hF 13 (hp ⟨13, .data⟩ (by simp) rfl))
                    refine Does.val (.pointer (some ⟨ba, oa + q * 4, none⟩)) (w' := w) ?_ ⟨Below.refl _ _, rfl, hG⟩
                    simp only [Array.getD_eq_getD_getElem?] at e116 e117
                    go_simp
                    (try (intro hh; exfalso; omega))
                    (try (intro hh; exfalso; omega))
                  · intro listed σ w a hin hout hl hc hp hG hF
                    refine Guarded.some (d := 115) (b := false) rfl rfl ((hin 11 115 rfl (hp ⟨11, .guard⟩ (by simp) rfl)).trans (hF 11 (hp ⟨11, .guard⟩ (by simp) rfl))) ?_
                    refine Or.inl ⟨rfl, ?_⟩
                    have e118 : a.tmps.getD 118 undef = .pointer (some ⟨ba, oa + q * 4, none⟩) := (hin 14 118 rfl (hp ⟨14, .data⟩ (by simp) rfl)).trans (hF 14 (hp ⟨14, .data⟩ (by simp) rfl))
                    refine Does.val (.pointer (some ⟨ba, oa + q * 4 + 1, none⟩)) (w' := w) ?_ ⟨Below.refl _ _, rfl, hG⟩
                    simp only [Array.getD_eq_getD_getElem?] at e118
                    go_simp
                  · intro listed σ w a hin hout hl hc hp hG hF
                    refine Guarded.some (d := 115) (b := false) rfl rfl ((hin 11 115 rfl (hp ⟨11, .guard⟩ (by simp) rfl)).trans (hF 11 (hp ⟨11, .guard⟩ (by simp) rfl))) ?_
                    refine Or.inl ⟨rfl, ?_⟩
                    have e119 : a.tmps.getD 119 undef = .pointer (some ⟨ba, oa + q * 4 + 1, none⟩) := (hin 15 119 rfl (hp ⟨15, .data⟩ (by simp) rfl)).trans (hF 15 (hp ⟨15, .data⟩ (by simp) rfl))
                    have CC := SOF.out w hG; obtain ⟨C0, C1, D0, D1⟩ := CC
                    refine Does.val (.string t.text) (w' := w) ?_ ⟨Below.refl _ _, rfl, hG⟩
                    go_simp
                  · intro listed σ w a hin hout hl hc hp hG hF
                    refine Guarded.some (d := 115) (b := false) rfl rfl ((hin 11 115 rfl (hp ⟨11, .guard⟩ (by simp) rfl)).trans (hF 11 (hp ⟨11, .guard⟩ (by simp) rfl))) ?_
                    refine Or.inl ⟨rfl, ?_⟩
                    have e16 : a.tmps.getD 16 undef = .slice (some ⟨bb, ob, none⟩) n cB := hout 16 (outB_spec (by kernel_rfl))
                    refine Does.val (.slice (some ⟨bb, ob, none⟩) n cB) (w' := w) ?_ ⟨Below.refl _ _, rfl, hG⟩
                    simp only [Array.getD_eq_getD_getElem?] at e16
                    go_simp
                  · intro listed σ w a hin hout hl hc hp hG hF
                    refine Guarded.some (d := 115) (b := false) rfl rfl ((hin 11 115 rfl (hp ⟨11, .guard⟩ (by simp) rfl)).trans (hF 11 (hp ⟨11, .guard⟩ (by simp) rfl))) ?_
                    refine Or.inl ⟨rfl, ?_⟩
                    have e19 : a.tmps.getD 19 undef = .int .i64 (q : Int) := hout 19 (outB_spec (by kernel_rfl))
                    refine Does.val (.int .i64 (q : Int)) (w' := w) ?_ ⟨Below.refl _ _, rfl, hG⟩
                    simp only [Array.getD_eq_getD_getElem?] at e19
                    go_simp
                  · intro listed σ w a hin hout hl hc hp hG hF
                    refine Guarded.some (d := 115) (b := false) rfl rfl ((hin 11 115 rfl (hp ⟨11, .guard⟩ (by simp) rfl)).trans (hF 11 (hp ⟨11, .guard⟩ (by simp) rfl))) ?_
                    refine Or.inl ⟨rfl, ?_⟩
                    have e121 : a.tmps.getD 121 undef = .slice (some ⟨bb, ob, none⟩) n cB := (hin 17 121 rfl (hp ⟨17, .data⟩ (by simp) rfl)).trans (hF 17 (hp ⟨17, .data⟩ (by simp) rfl))
                    have e122 : a.tmps.getD 122 undef = .int .i64 (q : Int) := (hin 18 122 rfl (hp ⟨18, .data⟩ (by simp) rfl)).trans (hF 18 (hp ⟨18, .data⟩ (by simp) rfl))
                    refine Does.val (.pointer (some ⟨bb, ob + q * 4, none⟩)) (w' := w) ?_ ⟨Below.refl _ _, rfl, hG⟩
                    simp only [Array.getD_eq_getD_getElem?] at e121 e122
                    go_simp
                    (try (intro hh; exfalso; omega))
                    (try (intro hh; exfalso; omega))
                  · intro listed σ w a hin hout hl hc hp hG hF
                    refine Guarded.some (d := 115) (b := false) rfl rfl ((hin 11 115 rfl (hp ⟨11, .guard⟩ (by simp) rfl)).trans (hF 11 (hp ⟨11, .guard⟩ (by simp) rfl))) ?_
                    refine Or.inl ⟨rfl, ?_⟩
                    have e123 : a.tmps.getD 123 undef = .pointer (some ⟨bb, ob + q * 4, none⟩) := (hin 19 123 rfl (hp ⟨19, .data⟩ (by simp) rfl)).trans (hF 19 (hp ⟨19, .data⟩ (by simp) rfl))
                    refine Does.val (.pointer (some ⟨bb, ob + q * 4 + 1, none⟩)) (w' := w) ?_ ⟨Below.refl _ _, rfl, hG⟩
                    simp only [Array.getD_eq_getD_getElem?] at e123
                    go_simp
                  · intro listed σ w a hin hout hl hc hp hG hF
                    refine Guarded.some (d := 115) (b := false) rfl rfl ((hin 11 115 rfl (hp ⟨11, .guard⟩ (by simp) rfl)).trans (hF 11 (hp ⟨11, .guard⟩ (by simp) rfl))) ?_
                    refine Or.inl ⟨rfl, ?_⟩
                    have e124 : a.tmps.getD 124 undef = .pointer (some ⟨bb, ob + q * 4 + 1, none⟩) := (hin 20 124 rfl (hp ⟨20, .data⟩ (by simp) rfl)).trans (hF 20 (hp ⟨20, .data⟩ (by simp) rfl))
                    have CC := SOF.out w hG; obtain ⟨C0, C1, D0, D1⟩ := CC
                    refine Does.val (.string t.text) (w' := w) ?_ ⟨Below.refl _ _, rfl, hG⟩
                    go_simp
                  · intro listed σ w a hin hout hl hc hp hG hF
                    refine Guarded.some (d := 115) (b := false) rfl rfl ((hin 11 115 rfl (hp ⟨11, .guard⟩ (by simp) rfl)).trans (hF 11 (hp ⟨11, .guard⟩ (by simp) rfl))) ?_
                    refine Or.inl ⟨rfl, ?_⟩
                    have e120 : a.tmps.getD 120 undef = .string t.text := (hin 16 120 rfl (hp ⟨16, .data⟩ (by simp) rfl)).trans (hF 16 (hp ⟨16, .data⟩ (by simp) rfl))
                    have e125 : a.tmps.getD 125 undef = .string t.text := (hin 21 125 rfl (hp ⟨21, .data⟩ (by simp) rfl)).trans (hF 21 (hp ⟨21, .data⟩ (by simp) rfl))
                    refine Does.val (.bool false) (w' := w) ?_ ⟨Below.refl _ _, rfl, hG⟩
                    simp only [Array.getD_eq_getD_getElem?] at e120 e125
                    go_simp
                  · intro listed σ w a hin hout hl hc hp hG hF
                    refine Guarded.none rfl ?_
                    have e115 : a.tmps.getD 115 undef = .bool false := (hin 11 115 rfl (hp ⟨11, .data⟩ (by simp) rfl)).trans (hF 11 (hp ⟨11, .data⟩ (by simp) rfl))
                    have e126 : a.tmps.getD 126 undef = .bool false := (hin 22 126 rfl (hp ⟨22, .data⟩ (by simp) rfl)).trans (hF 22 (hp ⟨22, .data⟩ (by simp) rfl))
                    refine Does.val (.bool false) (w' := w) ?_ ⟨Below.refl _ _, rfl, hG⟩
                    simp only [Array.getD_eq_getD_getElem?] at e115 e126
                    go_simp
                · intro listed σ W9 hall hG hF
                  rw [show mid _ σ listed _ = (Act.put (Act.put (Act.put (Act.put (Act.put (Act.put (Act.put (Act.put (Act.put (Act.put (Act.put (Act.put (Act.put (Act.put (Act.put (Act.put (Act.put (Act.put (Act.put (Act.put (Act.put (Act.put (Act.put (Act.put _ (some 104) (σ 0)) (some 105) (σ 1)) (some 106) (σ 2)) (some 107) (σ 3)) (some 108) (σ 4)) (some 109) (σ 5)) (some 110) (σ 6)) (some 111) (σ 7)) (some 112) (σ 8)) (some 113) (σ 9)) (some 114) (σ 10)) (some 115) (σ 11)) (some 116) (σ 12)) (some 117) (σ 13)) (some 118) (σ 14)) (some 119) (σ 15)) (some 120) (σ 16)) (some 121) (σ 17)) (some 122) (σ 18)) (some 123) (σ 19)) (some 124) (σ 20)) (some 125) (σ 21)) (some 126) (σ 22)) (some 127) (σ 23)) from (mid_all hall).trans rfl]
                  generalize σ 0 = tt0
                  generalize σ 1 = tt1
                  generalize σ 2 = tt2
                  generalize σ 3 = tt3
                  generalize σ 4 = tt4
                  generalize σ 5 = tt5
                  generalize σ 6 = tt6
                  generalize σ 7 = tt7
                  generalize σ 8 = tt8
                  generalize σ 9 = tt9
                  generalize σ 10 = tt10
                  generalize σ 11 = tt11
                  generalize σ 12 = tt12
                  generalize σ 13 = tt13
                  generalize σ 14 = tt14
                  generalize σ 15 = tt15
                  generalize σ 16 = tt16
                  generalize σ 17 = tt17
                  generalize σ 18 = tt18
                  generalize σ 19 = tt19
                  generalize σ 20 = tt20
                  generalize σ 21 = tt21
                  generalize σ 22 = tt22
                  rw [show σ 23 = .bool false from hF 23 (by decide)]
                  simp only [Act.put, List.setIfInBounds_toArray, List.set_cons_zero, List.set_cons_succ]
                  have TG := hG
                  clear hF hG hall
                  clear σ
                  have HR2 := hide (HR.out.next TG)
                  clear SOF TG
                  go_wp2_with fail
                  go_roundw
                  case rel => exact ⟨q + 1, by omega, by go_num, HR2⟩
                  case measure => simp [intOf]; omega
              · have B6 := hide (B5.out.next HR.out)
                go_wp2_with fail
                go_ret
                exact ⟨rfl, B6.out⟩
  · have bc : (((lexAll (byteAt s) s.size).code : Int) != 0) = true := by simp; omega
    generalize resPos s (lexAll (byteAt s) s.size) = p at *
    generalize (lexAll (byteAt s) s.size).code = cd at *
    clear hc h1 h2 h3 hs hr hcu
    go_enter Try.func4, Try.ntmps4
    go_wp2_with fail
    refine h0.mono ?_
    rintro e w1 ⟨rfl, b1⟩
    have B1 := hide b1
    clear h0 b1
    go_wp2_with fail
    refine (H1.out _).mono ?_
    rintro e w2 ⟨v, rfl, b2, l2⟩
    have B2 := hide ((B1.out.next b2).next (bl_alloc w2 (.cells #[.int .i64 (p.1 : Nat), .int .i64 (p.2 : Nat)] 25)))
    clear b2 l2 B1 H1
    go_wp2_with fail
    go_ret
    exact ⟨rfl, B2.out⟩
end Go.Proofs.Ytifikcaiknnjfaa
