/- lex: after, pos, blank, isLetter, isDigit, isWordPart, check. -/
import Derived.Test.YtifikcaiknnjfaaBase
import Derived.Test.YtifikcaiknnjfaaLexMath
import Derived.Test.YtifikcaiknnjfaaLexCx
namespace Go.Proofs.Ytifikcaiknnjfaa
open Go.RowKit
open Lx

/-- Byte i of a text. -/
def byteAt (s : ByteArray) (i : Nat) : Nat := if h : i < s.size then (s[i]'h).toNat else 0
theorem byteAt_eq (s : ByteArray) (i : Nat) (h : i < s.size) : byteAt s i = (s[i]'h).toNat := by unfold byteAt; rw [dif_pos h]
theorem byteAt_lt (s : ByteArray) (i : Nat) : byteAt s i < 256 := by
  unfold byteAt
  split
  · exact UInt8.toNat_lt _
  · omega
def cx (p : Nat × Nat) : Value := .complex .f64 (FL p.1) (FL p.2)
def Draws (v : Value) (w : World) (e : Ending) (w' : World) : Prop := e = .returned v ∧ ∃ k, w' = w.drewN k
set_option maxHeartbeats 1000000 in
theorem isLetter_any (c : Int) (w : World) : Calls Try.prog 30 #[.int .i32 c] w (Draws (.bool (decide (97 ≤ c) && decide (c ≤ 122))) w) := by
  go_enter Try.func30, Try.ntmps30
  by_cases h1 : 97 ≤ c
  · by_cases h2 : c ≤ 122
    · go_wp2_with fail
      go_ret
      exact ⟨by simp [h1, h2], 0, rfl⟩
    · go_wp2_with fail
      go_ret
      exact ⟨by simp [h1, h2], 0, rfl⟩
  · go_wp2_with fail
    go_ret
    exact ⟨by rw [decide_eq_false (show ¬ _ ≤ c by omega)]; rfl, 0, rfl⟩
set_option maxHeartbeats 1000000 in
theorem isDigit_any (c : Int) (w : World) : Calls Try.prog 33 #[.int .i32 c] w (Draws (.bool (decide (48 ≤ c) && decide (c ≤ 57))) w) := by
  go_enter Try.func33, Try.ntmps33
  by_cases h1 : 48 ≤ c
  · by_cases h2 : c ≤ 57
    · go_wp2_with fail
      go_ret
      exact ⟨by simp [h1, h2], 0, rfl⟩
    · go_wp2_with fail
      go_ret
      exact ⟨by simp [h1, h2], 0, rfl⟩
  · go_wp2_with fail
    go_ret
    exact ⟨by rw [decide_eq_false (show ¬ _ ≤ c by omega)]; rfl, 0, rfl⟩
theorem foldP_le (g : Nat → Nat) (k : Nat) (p : Nat × Nat) (h1 : 1 ≤ p.1) (h2 : 1 ≤ p.2) :
    1 ≤ ((List.range k).foldl (fun q i => stepP q (g i)) p).1 ∧ ((List.range k).foldl (fun q i => stepP q (g i)) p).1 ≤ p.1 + k ∧ 1 ≤ ((List.range k).foldl (fun q i => stepP q (g i)) p).2 ∧ ((List.range k).foldl (fun q i => stepP q (g i)) p).2 ≤ p.2 + k := by
  induction k with
  | zero => simp; omega
  | succ k ih =>
    rw [List.range_succ, List.foldl_append]
    simp only [List.foldl_cons, List.foldl_nil]
    generalize (List.range k).foldl (fun q i => stepP q (g i)) p = q at *
    unfold stepP
    split <;> (dsimp only; omega)
set_option maxHeartbeats 4000000 in
/-- The place behind a text. -/
theorem after_any (s : ByteArray) (p : Nat × Nat) (w : World) (hs : s.size ≤ 4611686018427387904) (h1 : 1 ≤ p.1) (h2 : 1 ≤ p.2) (h3 : p.1 + s.size ≤ 1000000) (h4 : p.2 + s.size ≤ 1000000) :
    Calls Try.prog 23 #[cx p, .string s] w (Draws (cx ((List.range s.size).foldl (fun q i => stepP q (byteAt s i)) p)) w) := by
  unfold cx
  go_enter Try.func23, Try.ntmps23
  go_wp2_with fail
  go_loop [0, 8] (fun a i => ∃ k : Nat, k ≤ s.size ∧ i = .int .i64 (k : Int) ∧ a = cx ((List.range k).foldl (fun q i => stepP q (byteAt s i)) p)) (fun _ i => s.size - (intOf i).toNat)
  case atStart => exact ⟨0, Nat.zero_le _, rfl, rfl⟩
  case round =>
    obtain ⟨k, hk, rfl, rfl⟩ := hrel
    by_cases hkn : k < s.size
    · have hbe := byteAt_eq s k hkn
      have hstep : (List.range (k + 1)).foldl (fun q i => stepP q (byteAt s i)) p = stepP ((List.range k).foldl (fun q i => stepP q (byteAt s i)) p) (byteAt s k) := by rw [List.range_succ, List.foldl_append]; rfl
      have HQ := hide (foldP_le (fun i => byteAt s i) k p h1 h2)
      generalize hq : (List.range k).foldl (fun q i => stepP q (byteAt s i)) p = q at *
      obtain ⟨q1, q2⟩ := q
      have HST := hide hstep
      clear hq hstep
      unfold cx
      dsimp only
      by_cases hb : byteAt s k = 10
      · have g : ((s[k]'hkn).toNat : Int) = 10 := by omega
        have hs1 : floatBits .sub .f64 4607182418800017408 (FL (q2 : Int)) = some (FL (1 - (q2 : Int))) := by rw [← FL_one]; exact sub_FL (by decide) (by have := HQ.out; dsimp only at this; omega) (by have := HQ.out; dsimp only at this; omega)
        have hc1 : cSumBits .add .f64 (FL (q1 : Int)) (FL (q2 : Int)) 4607182418800017408 (FL (1 - (q2 : Int))) = some (FL ((q1 + 1 : Nat) : Int), FL 1) := by
          have e1 := add_FL (a := q1) (b := 1) (by have := HQ.out; dsimp only at this; omega) (by decide) (by have := HQ.out; dsimp only at this; omega)
          have e2 := add_FL (a := q2) (b := 1 - q2) (by have := HQ.out; dsimp only at this; omega) (by have := HQ.out; dsimp only at this; omega) (by omega)
          rw [FL_one] at e1
          rw [show (q2 : Int) + (1 - q2) = 1 by omega] at e2
          unfold cSumBits
          rw [e1, e2]
          rfl
        have r1 := run_float_arith (P := Try.prog) w .sub 55 .f64 _ _ _ hs1
        have r2 := run_complex_sum (P := Try.prog) w .add (Or.inl rfl) 44 .f64 _ _ _ _ _ _ hc1
        clear hbe hs1 hc1
        go_wp2_with fail
        go_round
        case rel => exact ⟨k + 1, by omega, by go_num, by rw [HST.out, stepP, if_pos hb]; rfl⟩
        case measure => simp [intOf]; omega
      · have g : ¬ ((s[k]'hkn).toNat : Int) = 10 := by omega
        have hc1 : cSumBits .add .f64 (FL (q1 : Int)) (FL (q2 : Int)) 0 4607182418800017408 = some (FL (q1 : Int), FL ((q2 + 1 : Nat) : Int)) := by
          have e1 := add_FL (a := q1) (b := 0) (by have := HQ.out; dsimp only at this; omega) (by decide) (by have := HQ.out; dsimp only at this; omega)
          have e2 := add_FL (a := q2) (b := 1) (by have := HQ.out; dsimp only at this; omega) (by decide) (by have := HQ.out; dsimp only at this; omega)
          rw [FL_one] at e2
          rw [FL_zero, Int.add_zero] at e1
          unfold cSumBits
          rw [e1, e2]
          rfl
        have r2 := run_complex_sum (P := Try.prog) w .add (Or.inl rfl) 44 .f64 _ _ _ _ _ _ hc1
        clear hbe hc1
        go_wp2_with fail
        go_round
        case rel => exact ⟨k + 1, by omega, by go_num, by rw [HST.out, stepP, if_neg hb]; rfl⟩
        case measure => simp [intOf]; omega
    · obtain rfl : k = s.size := by omega
      unfold cx
      go_wp2_with fail
      go_ret
      exact ⟨rfl, 0, rfl⟩
end Go.Proofs.Ytifikcaiknnjfaa
