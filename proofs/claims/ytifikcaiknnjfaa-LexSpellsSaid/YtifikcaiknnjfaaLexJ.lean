/- plumblineref10: Name, Number. -/
import Derived.Test.YtifikcaiknnjfaaLexI
namespace Go.Proofs.Ytifikcaiknnjfaa
open Go.RowKit
open Lx

set_option maxHeartbeats 4000000 in
theorem rnumber_any (s : ByteArray) (w : World) (hs : s.size ≤ 4611686018427387904) : Calls Try.prog 15 #[.string s] w (Draws (.bool (rnumB s)) w) := by
  have HB := hide (show rnumB s = (!(decide (s.size = 0) || decide (60 < s.size) || (decide (1 < s.size) && decide (byteAt s 0 = 48))) && allFrom digC s 0) from rfl)
  generalize rnumB s = r at *
  by_cases h0 : s.size = 0
  · have hr : r = false := by rw [HB.out]; simp [h0]
    subst hr
    clear HB
    go_enter Try.func15, Try.ntmps15
    go_wp2_with fail
    go_ret
    exact ⟨rfl, 0, rfl⟩
  · have hl1 : 0 < s.size := by omega
    have hbe := byteAt_eq s 0 hl1
    by_cases h1 : 60 < s.size
    · have hr : r = false := by rw [HB.out]; simp [h1]
      subst hr
      clear HB hbe
      go_enter Try.func15, Try.ntmps15
      go_wp2_with fail
      go_ret
      exact ⟨rfl, 0, rfl⟩
    · by_cases h2 : 1 < s.size ∧ byteAt s 0 = 48
      · have hr : r = false := by rw [HB.out]; simp [h2.1, h2.2]
        subst hr
        have g : ((s[0]'hl1).toNat : Int) = 48 := by have := h2.2; omega
        have h3 := h2.1
        clear HB hbe h2
        go_enter Try.func15, Try.ntmps15
        go_wp2_with fail
        go_ret
        exact ⟨rfl, 0, rfl⟩
      · have HR := hide (show r = allFrom digC s 0 by
          rw [HB.out, decide_eq_false h0, decide_eq_false h1]
          by_cases h3 : 1 < s.size
          · rw [decide_eq_false (fun h => h2 ⟨h3, h⟩)]; simp
          · rw [decide_eq_false h3]; simp)
        clear HB
        have hz : 1 < s.size → ¬ ((s[0]'hl1).toNat : Int) = 48 := fun h3 h => h2 ⟨h3, by omega⟩
        have hcl := fun (q : Nat) W => class_any (byteAt s q) W
        clear h2 hbe
        by_cases h3 : 1 < s.size
        · have hz := hz h3
          have bz : (((s[0]'hl1).toNat : Int) == 48) = false := by simpa using hz
          have b0 : ((s.size : Int) == 0) = false := by rw [beq_eq_false_iff_ne]; omega
          have b1 : ¬ (60 : Int) < (s.size : Int) := by omega
          go_enter Try.func15, Try.ntmps15
          go_wp2_with fail
          clear hz bz b0 b1
          go_loopw [3] (fun i wr => ∃ q k : Nat, q ≤ s.size ∧ i = .int .i64 (q : Int) ∧ wr = w.drewN k ∧ Hid (r = allFrom digC s q)) (fun i _ => s.size - (intOf i).toNat)
          case atStart => exact ⟨0, 0, Nat.zero_le _, rfl, rfl, HR⟩
          case round =>
            obtain ⟨q, k, hq, rfl, rfl, HE⟩ := hrel
            by_cases hqn : q < s.size
            · have hc := hcl q (w.drewN k)
              have hbe := byteAt_eq s q hqn
              have HS := hide (HE.out.trans (allFrom_step hqn))
              by_cases hd : clsB (byteAt s q) = 2
              · have HF := hide (show r = allFrom digC s (q + 1) by rw [HS.out, show digC (byteAt s q) = true by unfold digC; rw [decide_eq_true hd]]; rfl)
                rw [hd, hbe] at hc
                clear hbe hd
                go_wp2_with fail
                refine hc.mono ?_
                rintro e w1 ⟨rfl, k1, rfl⟩
                go_wp2_with fail
                go_roundw
                case rel => exact ⟨q + 1, k + k1, by omega, by go_num, rfl, HF⟩
                case measure => simp [intOf]; omega
              · have hr : r = false := by rw [HS.out, show digC (byteAt s q) = false by unfold digC; rw [decide_eq_false hd]]; rfl
                subst hr
                have g : ¬ (clsB (byteAt s q) : Int) = 2 := by omega
                generalize clsB (byteAt s q) = z at *
                have b3 : ((z : Int) != 2) = true := by simpa using g
                rw [hbe] at hc
                clear hbe hd g HS HE HR
                go_wp2_with fail
                refine hc.mono ?_
                rintro e w1 ⟨rfl, k1, rfl⟩
                go_wp2_with fail
                go_ret
                exact ⟨rfl, k + k1, rfl⟩
            · obtain rfl : q = s.size := by omega
              have hr : r = true := by rw [HE.out, allFrom_end]
              subst hr
              go_wp2_with fail
              go_ret
              exact ⟨rfl, k, rfl⟩
        · have b0 : ((s.size : Int) == 0) = false := by rw [beq_eq_false_iff_ne]; omega
          have b1 : ¬ (60 : Int) < (s.size : Int) := by omega
          have b2 : ¬ (1 : Int) < (s.size : Int) := by omega
          go_enter Try.func15, Try.ntmps15
          go_wp2_with fail
          clear b0 b1 b2
          go_loopw [3] (fun i wr => ∃ q k : Nat, q ≤ s.size ∧ i = .int .i64 (q : Int) ∧ wr = w.drewN k ∧ Hid (r = allFrom digC s q)) (fun i _ => s.size - (intOf i).toNat)
          case atStart => exact ⟨0, 0, Nat.zero_le _, rfl, rfl, HR⟩
          case round =>
            obtain ⟨q, k, hq, rfl, rfl, HE⟩ := hrel
            by_cases hqn : q < s.size
            · have hc := hcl q (w.drewN k)
              have hbe := byteAt_eq s q hqn
              have HS := hide (HE.out.trans (allFrom_step hqn))
              by_cases hd : clsB (byteAt s q) = 2
              · have HF := hide (show r = allFrom digC s (q + 1) by rw [HS.out, show digC (byteAt s q) = true by unfold digC; rw [decide_eq_true hd]]; rfl)
                rw [hd, hbe] at hc
                clear hbe hd
                go_wp2_with fail
                refine hc.mono ?_
                rintro e w1 ⟨rfl, k1, rfl⟩
                go_wp2_with fail
                go_roundw
                case rel => exact ⟨q + 1, k + k1, by omega, by go_num, rfl, HF⟩
                case measure => simp [intOf]; omega
              · have hr : r = false := by rw [HS.out, show digC (byteAt s q) = false by unfold digC; rw [decide_eq_false hd]]; rfl
                subst hr
                have g : ¬ (clsB (byteAt s q) : Int) = 2 := by omega
                generalize clsB (byteAt s q) = z at *
                have b3 : ((z : Int) != 2) = true := by simpa using g
                rw [hbe] at hc
                clear hbe hd g HS HE HR
                go_wp2_with fail
                refine hc.mono ?_
                rintro e w1 ⟨rfl, k1, rfl⟩
                go_wp2_with fail
                go_ret
                exact ⟨rfl, k + k1, rfl⟩
            · obtain rfl : q = s.size := by omega
              have hr : r = true := by rw [HE.out, allFrom_end]
              subst hr
              go_wp2_with fail
              go_ret
              exact ⟨rfl, k, rfl⟩
end Go.Proofs.Ytifikcaiknnjfaa
