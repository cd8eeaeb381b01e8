/- lex: check. -/
import Derived.Test.YtifikcaiknnjfaaLexF
namespace Go.Proofs.Ytifikcaiknnjfaa
open Go.RowKit
open Lx

theorem isEmpty_size (s : ByteArray) : s.toList.isEmpty = decide (s.size = 0) := by
  rw [Lib.toList_data]
  have h : s.data.toList.length = s.size := by simp
  cases hl : s.data.toList with
  | nil => rw [hl] at h; simp at h; simp [← h]
  | cons x xs => rw [hl] at h; simp at h; rw [decide_eq_false (by omega)]; rfl
def chk (k : Nat) (s : ByteArray) : Nat := if s.size = 0 then 100 else if k = 1 ∧ 20 < s.size then 2 else if k = 3 ∧ 60 < s.size then 2 else if k = 3 ∧ 1 < s.size ∧ byteAt s 0 = 48 then 20 else 0
set_option maxHeartbeats 4000000 in
theorem check_any (k : Nat) (s : ByteArray) (w : World) (hk : k < 10) (hs : s.size ≤ 4611686018427387904) : Calls Try.prog 25 #[.int .i64 (k : Int), .string s] w (Draws (.int .i64 (chk k s : Nat)) w) := by
  have HC := hide (show chk k s = if s.size = 0 then 100 else if k = 1 ∧ 20 < s.size then 2 else if k = 3 ∧ 60 < s.size then 2 else if k = 3 ∧ 1 < s.size ∧ byteAt s 0 = 48 then 20 else 0 from rfl)
  generalize chk k s = r at *
  have he := isEmpty_size s
  have hne : (s.toList == []) = decide (s.size = 0) := by rw [← he]; cases s.toList <;> rfl
  by_cases h0 : s.size = 0
  · have hr := HC.out.trans (if_pos h0)
    subst hr
    rw [decide_eq_true h0] at he hne
    clear HC h0
    go_enter Try.func25, Try.ntmps25
    go_wp2_with fail
    go_ret
    exact ⟨rfl, 0, rfl⟩
  · rw [decide_eq_false h0] at he hne
    have HC := hide (HC.out.trans (if_neg h0))
    have hbe := byteAt_eq s 0 (by omega)
    have hl1 : 0 < s.size := by omega
    by_cases h1 : k = 1
    · subst h1
      by_cases h2 : 20 < s.size
      · have hr := HC.out.trans (if_pos ⟨rfl, h2⟩)
        subst hr
        clear HC hbe h0
        go_enter Try.func25, Try.ntmps25
        go_wp2_with fail
        go_ret
        exact ⟨rfl, 0, rfl⟩
      · have hr := HC.out.trans ((if_neg (by omega)).trans ((if_neg (by omega)).trans (if_neg (by omega))))
        subst hr
        clear HC hbe h0
        go_enter Try.func25, Try.ntmps25
        go_wp2_with fail
        go_ret
        exact ⟨rfl, 0, rfl⟩
    · by_cases h3 : k = 3
      · subst h3
        by_cases h4 : 60 < s.size
        · have hr := HC.out.trans ((if_neg (by omega)).trans (if_pos ⟨rfl, h4⟩))
          subst hr
          clear HC hbe h0 h1
          go_enter Try.func25, Try.ntmps25
          go_wp2_with fail
          go_ret
          exact ⟨rfl, 0, rfl⟩
        · by_cases h5 : 1 < s.size
          · by_cases h6 : byteAt s 0 = 48
            · have hr := HC.out.trans ((if_neg (by omega)).trans ((if_neg (by omega)).trans (if_pos ⟨rfl, h5, h6⟩)))
              subst hr
              have g : ((s[0]'hl1).toNat : Int) = 48 := by omega
              clear HC hbe h0 h1 h6
              go_enter Try.func25, Try.ntmps25
              go_wp2_with fail
              go_ret
              exact ⟨rfl, 0, rfl⟩
            · have hr := HC.out.trans ((if_neg (by omega)).trans ((if_neg (by omega)).trans (if_neg (fun h => h6 h.2.2))))
              subst hr
              have g : ¬ ((s[0]'hl1).toNat : Int) = 48 := by omega
              clear HC hbe h0 h1 h6
              go_enter Try.func25, Try.ntmps25
              go_wp2_with fail
              go_ret
              exact ⟨rfl, 0, rfl⟩
          · have hr := HC.out.trans ((if_neg (by omega)).trans ((if_neg (by omega)).trans (if_neg (fun h => h5 h.2.1))))
            subst hr
            clear HC hbe h0 h1
            go_enter Try.func25, Try.ntmps25
            go_wp2_with fail
            go_ret
            exact ⟨rfl, 0, rfl⟩
      · have hr := HC.out.trans ((if_neg (by omega)).trans ((if_neg (by omega)).trans (if_neg (by omega))))
        subst hr
        have g1 : ¬ (k : Int) = 1 := by omega
        have g3 : ¬ (k : Int) = 3 := by omega
        clear HC hbe h0 h1 h3
        go_enter Try.func25, Try.ntmps25
        go_wp2_with fail
        go_ret
        exact ⟨rfl, 0, rfl⟩
end Go.Proofs.Ytifikcaiknnjfaa
