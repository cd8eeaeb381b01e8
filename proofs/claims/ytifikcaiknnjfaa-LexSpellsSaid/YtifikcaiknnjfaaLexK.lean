/- plumblineref10: Name. -/
import Derived.Test.YtifikcaiknnjfaaLexJ
namespace Go.Proofs.Ytifikcaiknnjfaa
open Go.RowKit
open Lx

set_option maxHeartbeats 4000000 in
theorem rname_any (s : ByteArray) (w : World) (hs : s.size ≤ 4611686018427387904) : Calls Try.prog 13 #[.string s] w (Draws (.bool (rnameB s)) w) := by
  have HB := hide (show rnameB s = (!(decide (s.size = 0) || decide (20 < s.size) || !decide (clsB (byteAt s 0) = 1) || resB s) && allFrom wordC s 0) from rfl)
  generalize rnameB s = r at *
  by_cases h0 : s.size = 0
  · have hr : r = false := by rw [HB.out]; simp [h0]
    subst hr
    clear HB
    go_enter Try.func13, Try.ntmps13
    go_wp2_with fail
    go_ret
    exact ⟨rfl, 0, rfl⟩
  · have hl1 : 0 < s.size := by omega
    have b0 : ((s.size : Int) == 0) = false := by rw [beq_eq_false_iff_ne]; omega
    by_cases h1 : 20 < s.size
    · have hr : r = false := by rw [HB.out]; simp [h1]
      subst hr
      clear HB
      go_enter Try.func13, Try.ntmps13
      go_wp2_with fail
      go_ret
      exact ⟨rfl, 0, rfl⟩
    · have b1 : ¬ (20 : Int) < (s.size : Int) := by omega
      have hcl := fun (q : Nat) W => class_any (byteAt s q) W
      have hc0 := fun W => hcl 0 W
      simp only [byteAt_eq s 0 hl1] at hc0
      have HB := hide (show r = (!(!decide (clsB (byteAt s 0) = 1) || resB s) && allFrom wordC s 0) by rw [HB.out, decide_eq_false h0, decide_eq_false h1]; rfl)
      rw [byteAt_eq s 0 hl1] at HB
      by_cases h2 : clsB (s[0]'hl1).toNat = 1
      · have hre := fun W => rreserved_any s W
        have HB := hide (show r = (!resB s && allFrom wordC s 0) by rw [HB.out, decide_eq_true h2]; rfl)
        rw [h2] at hc0
        generalize resB s = rb at *
        cases rb with
        | true =>
          have hr : r = false := by rw [HB.out]; rfl
          subst hr
          clear HB h2
          go_enter Try.func13, Try.ntmps13
          go_wp2_with fail
          refine (hc0 _).mono ?_
          rintro e w1 ⟨rfl, k1, rfl⟩
          go_wp2_with fail
          refine (hre _).mono ?_
          rintro e w1 ⟨rfl, k2, rfl⟩
          go_wp2_with fail
          go_ret
          exact ⟨rfl, k1 + k2, rfl⟩
        | false =>
          have HR := hide (show r = allFrom wordC s 0 by rw [HB.out]; rfl)
          clear HB h2
          go_enter Try.func13, Try.ntmps13
          go_wp2_with fail
          refine (hc0 _).mono ?_
          rintro e w1 ⟨rfl, k1, rfl⟩
          go_wp2_with fail
          refine (hre _).mono ?_
          rintro e w1 ⟨rfl, k2, rfl⟩
          go_wp2_with fail
          clear b0 b1 hc0 hre
          go_loopw [3] (fun i wr => ∃ q k : Nat, q ≤ s.size ∧ i = .int .i64 (q : Int) ∧ wr = w.drewN k ∧ Hid (r = allFrom wordC s q)) (fun i _ => s.size - (intOf i).toNat)
          case atStart => exact ⟨0, k1 + k2, Nat.zero_le _, rfl, rfl, HR⟩
          case round =>
            obtain ⟨q, k, hq, rfl, rfl, HE⟩ := hrel
            by_cases hqn : q < s.size
            · have hc := fun W => hcl q W
              have hbe := byteAt_eq s q hqn
              have HS := hide (HE.out.trans (allFrom_step hqn))
              have HW := hide (show wordC (byteAt s q) = (decide (1 ≤ clsB (byteAt s q)) && decide (clsB (byteAt s q) ≤ 3)) from rfl)
              generalize wordC (byteAt s q) = ww at *
              generalize clsB (byteAt s q) = z at *
              rw [hbe] at hc
              by_cases hz1 : 1 ≤ z
              · have g1 : ¬ (z : Int) < 1 := by omega
                by_cases hz3 : z ≤ 3
                · have g3 : ¬ (3 : Int) < (z : Int) := by omega
                  have HF := hide (show r = allFrom wordC s (q + 1) by rw [HS.out, HW.out, decide_eq_true hz1, decide_eq_true hz3]; rfl)
                  clear hbe hz1 hz3
                  go_wp2_with fail
                  refine (hc _).mono ?_
                  rintro e w1 ⟨rfl, k3, rfl⟩
                  go_wp2_with fail
                  refine (hc _).mono ?_
                  rintro e w1 ⟨rfl, k4, rfl⟩
                  go_wp2_with fail
                  go_roundw
                  case rel => exact ⟨q + 1, k + k3 + k4, by omega, by go_num, rfl, HF⟩
                  case measure => simp [intOf]; omega
                · have g3 : (3 : Int) < (z : Int) := by omega
                  have hr : r = false := by rw [HS.out, HW.out, decide_eq_false hz3]; simp
                  subst hr
                  clear hbe hz1 hz3 HS HW HE HR
                  go_wp2_with fail
                  refine (hc _).mono ?_
                  rintro e w1 ⟨rfl, k3, rfl⟩
                  go_wp2_with fail
                  refine (hc _).mono ?_
                  rintro e w1 ⟨rfl, k4, rfl⟩
                  go_wp2_with fail
                  go_ret
                  exact ⟨rfl, k + k3 + k4, rfl⟩
              · have g1 : (z : Int) < 1 := by omega
                have hr : r = false := by rw [HS.out, HW.out, decide_eq_false hz1]; simp
                subst hr
                clear hbe hz1 HS HW HE HR
                go_wp2_with fail
                refine (hc _).mono ?_
                rintro e w1 ⟨rfl, k3, rfl⟩
                go_wp2_with fail
                go_ret
                exact ⟨rfl, k + k3, rfl⟩
            · obtain rfl : q = s.size := by omega
              have hr : r = true := by rw [HE.out, allFrom_end]
              subst hr
              go_wp2_with fail
              go_ret
              exact ⟨rfl, k, rfl⟩
      · have hr : r = false := by rw [HB.out, decide_eq_false h2]; rfl
        subst hr
        have g2 : ¬ (clsB (s[0]'hl1).toNat : Int) = 1 := by omega
        clear HB
        generalize clsB (s[0]'hl1).toNat = z at *
        have b2 : ((z : Int) != 1) = true := by simpa using g2
        clear h2 g2
        go_enter Try.func13, Try.ntmps13
        go_wp2_with fail
        refine (hc0 _).mono ?_
        rintro e w1 ⟨rfl, k1, rfl⟩
        go_wp2_with fail
        go_ret
        exact ⟨rfl, k1, rfl⟩
end Go.Proofs.Ytifikcaiknnjfaa
