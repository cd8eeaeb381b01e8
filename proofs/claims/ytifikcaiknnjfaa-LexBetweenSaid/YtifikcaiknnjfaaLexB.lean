/- lex: pos, blank, isWordPart, check. -/
import Derived.Test.YtifikcaiknnjfaaLexA
namespace Go.Proofs.Ytifikcaiknnjfaa
open Go.RowKit
open Lx

theorem bl_fresh (w : World) (o : Obj) (cs : Array Value) : Below w.heap.size w ((w.alloc o).setRow w.heap.size cs) :=
  (bl_alloc w o).trans ⟨rfl, rfl, rfl, by simp [World.setRow], fun k hk => setRow_other (w.alloc o) w.heap.size k cs (by omega)⟩
set_option maxHeartbeats 1000000 in
theorem pos_any (p : Nat × Nat) (w : World) (h1 : p.1 ≤ 1000000) (h2 : p.2 ≤ 1000000) :
    Calls Try.prog 21 #[cx p] w (fun e w' => e = .returned (.agg #[.int .i64 (p.1 : Int), .int .i64 (p.2 : Int)]) ∧ Below w.heap.size w w') := by
  have r1 : ∀ W, (convert 55 3 (.float .f64 (FL (p.1 : Int)))).run Try.prog W = .ok (.int .i64 (p.1 : Int)) W := fun W => run_convert_float_int W _ _ _ _ _ _ (by kernel_rfl) (by kernel_rfl) (toInt_FL (by omega))
  have r2 : ∀ W, (convert 55 3 (.float .f64 (FL (p.2 : Int)))).run Try.prog W = .ok (.int .i64 (p.2 : Int)) W := fun W => run_convert_float_int W _ _ _ _ _ _ (by kernel_rfl) (by kernel_rfl) (toInt_FL (by omega))
  unfold cx
  go_enter Try.func21, Try.ntmps21
  go_wp2_with (with_reducible refine wpList_store_row rfl 25 _ _ rfl w.heap.size #[.int .i64 (p.1 : Int), .int .i64 (p.2 : Int)] rfl rfl 25 #[.int .i64 0, .int .i64 0] (heap_alloc_new _ _) (by kernel_rfl) rfl (by simp [Value.oneCell']) ?_)
  refine bodyPost_ret (results_cell_row rfl _ _ w.heap.size 25 #[.int .i64 (p.1 : Int), .int .i64 (p.2 : Int)] (0, 0) _ rfl (setRow_heap _ _ _ _ _ _ (heap_alloc_new _ _)) Try.underlying25 rfl (by kernel_rfl)) rfl ?_
  exact ⟨rfl, bl_fresh _ _ _⟩
set_option maxHeartbeats 4000000 in
theorem blank_any (s : ByteArray) (w : World) (hs : s.size ≤ 4611686018427387904) :
    Calls Try.prog 22 #[.string s] w (Draws (.int .i64 (skip (byteAt s) s.size 0 false : Nat)) w) := by
  go_enter Try.func22, Try.ntmps22
  go_wp2_with fail
  go_loop [3, 8] (fun a i => ∃ (k : Nat) (com : Bool), k ≤ s.size ∧ i = .int .i64 (k : Int) ∧ a = .bool com ∧ Hid (skip (byteAt s) s.size 0 false = skip (byteAt s) s.size k com)) (fun _ i => s.size - (intOf i).toNat)
  case atStart => exact ⟨0, false, Nat.zero_le _, rfl, rfl, hide rfl⟩
  case round =>
    obtain ⟨k, com, hk, rfl, rfl, HE⟩ := hrel
    by_cases hkn : k < s.size
    · have hbe := byteAt_eq s k hkn
      have HS := hide (skip_step (byteAt s) com hkn)
      by_cases hb : byteAt s k = 10
      · have g : ((s[k]'hkn).toNat : Int) = 10 := by omega
        have HF := hide (HE.out.trans (HS.out.trans (if_pos hb)))
        clear hb hbe
        go_wp2_with fail
        go_round
        case rel => exact ⟨k + 1, false, by omega, by go_num, rfl, HF⟩
        case measure => simp [intOf]; omega
      · have g : ¬ ((s[k]'hkn).toNat : Int) = 10 := by omega
        by_cases hb2 : byteAt s k = 35
        · have g2 : ((s[k]'hkn).toNat : Int) = 35 := by omega
          have HF := hide (HE.out.trans (HS.out.trans ((if_neg hb).trans (if_pos hb2))))
          clear hb hbe hb2 g
          go_wp2_with fail
          go_round
          case rel => exact ⟨k + 1, true, by omega, by go_num, rfl, HF⟩
          case measure => simp [intOf]; omega
        · have g2 : ¬ ((s[k]'hkn).toNat : Int) = 35 := by omega
          cases com with
          | true =>
            have HF := hide (HE.out.trans (HS.out.trans ((if_neg hb).trans ((if_neg hb2).trans (if_neg (by simp))))))
            clear hb hbe hb2
            go_wp2_with fail
            go_round
            case rel => exact ⟨k + 1, true, by omega, by go_num, rfl, HF⟩
            case measure => simp [intOf]; omega
          | false =>
            by_cases hb3 : byteAt s k = 32
            · have g3 : ((s[k]'hkn).toNat : Int) = 32 := by omega
              have HF := hide (HE.out.trans (HS.out.trans ((if_neg hb).trans ((if_neg hb2).trans (if_neg (by simp [hb3]))))))
              clear hb hbe hb2 hb3 g g2
              go_wp2_with fail
              go_round
              case rel => exact ⟨k + 1, false, by omega, by go_num, rfl, HF⟩
              case measure => simp [intOf]; omega
            · have g3 : ¬ ((s[k]'hkn).toNat : Int) = 32 := by omega
              by_cases hb4 : byteAt s k = 9
              · have g4 : ((s[k]'hkn).toNat : Int) = 9 := by omega
                have HF := hide (HE.out.trans (HS.out.trans ((if_neg hb).trans ((if_neg hb2).trans (if_neg (by simp [hb4]))))))
                clear hb hbe hb2 hb3 hb4 g g2 g3
                go_wp2_with fail
                go_round
                case rel => exact ⟨k + 1, false, by omega, by go_num, rfl, HF⟩
                case measure => simp [intOf]; omega
              · have g4 : ¬ ((s[k]'hkn).toNat : Int) = 9 := by omega
                have HF := hide (HE.out.trans (HS.out.trans ((if_neg hb).trans ((if_neg hb2).trans (if_pos ⟨rfl, hb3, hb4⟩)))))
                have b3 : (((s[k]'hkn).toNat : Int) != 32) = true := by simpa using g3
                have b4 : (((s[k]'hkn).toNat : Int) != 9) = true := by simpa using g4
                clear g3 g4
                clear hb hbe hb2 hb3 hb4
                go_wp2_with fail
                go_ret
                exact ⟨by rw [HF.out] <;> rfl, 0, rfl⟩
    · obtain rfl : k = s.size := by omega
      have HF := hide (HE.out.trans (skip_end _ _ _))
      go_wp2_with fail
      go_ret
      exact ⟨by rw [HF.out] <;> rfl, 0, rfl⟩
set_option maxHeartbeats 2000000 in
theorem isWordPart_any (c : Int) (w : World) : Calls Try.prog 32 #[.int .i32 c] w (Draws (.bool ((decide (97 ≤ c) && decide (c ≤ 122)) || (decide (48 ≤ c) && decide (c ≤ 57)) || (c == 95))) w) := by
  have hl := isLetter_any c w
  have hd := fun W => isDigit_any c W
  generalize (decide (97 ≤ c) && decide (c ≤ 122)) = L at hl ⊢
  generalize (decide (48 ≤ c) && decide (c ≤ 57)) = D at hd ⊢
  go_enter Try.func32, Try.ntmps32
  go_wp2_with fail
  refine hl.mono ?_
  rintro e w1 ⟨rfl, k1, rfl⟩
  cases L with
  | true =>
    go_wp2_with fail
    go_ret
    exact ⟨by rfl, k1, rfl⟩
  | false =>
    go_wp2_with fail
    refine (hd _).mono ?_
    rintro e w1 ⟨rfl, k2, rfl⟩
    cases D with
    | true =>
      go_wp2_with fail
      go_ret
      exact ⟨by rfl, k1 + k2, rfl⟩
    | false =>
      go_wp2_with fail
      go_ret
      exact ⟨by rfl, k1 + k2, rfl⟩
end Go.Proofs.Ytifikcaiknnjfaa
