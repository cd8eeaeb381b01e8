/- lex: run over the three tests, check. -/
import Derived.Test.YtifikcaiknnjfaaLexB
import Derived.Laws.RangeString
import Derived.Laws.Runes
namespace Go.Proofs.Ytifikcaiknnjfaa
open Go.RowKit
open Lx

theorem width_pos (s : ByteArray) (pos : Nat) (h : pos < s.size) : 1 ≤ (Utf8.decode s pos).2 := by
  by_cases ha : (s[pos]'h).toNat < 128
  · rw [decode_ascii s pos h ha]
    exact Nat.le_refl _
  · exact (decode_high s pos h (by omega)).2
theorem bl_iter2 (w : World) (k : Nat) (s : ByteArray) (p : Nat) : Below w.heap.size w ((w.drewN k).iter s p) := (bl_drewN w k).next (bl_alloc _ _)
theorem bl_iter (w : World) (k : Nat) (s : ByteArray) (p k1 : Nat) : Below w.heap.size w (((w.drewN k).iter s p).drewN k1) := (bl_iter2 w k s p).next (bl_drewN _ _)
theorem iter_dr (w : World) (k : Nat) (s : ByteArray) (p k1 : Nat) : ((w.drewN k).iter s p).drewN k1 = (w.drewN (k + k1)).iter s p := by
  rw [← World.drewN_drewN w k k1]
  rfl
theorem iterPos_d (w : World) (k : Nat) (s : ByteArray) (p : Nat) : ((w.drewN k).iter s p).iterPos w.heap.size = p := World.iterPos_iter (w.drewN k) s p
theorem iterPos_dr (w : World) (k : Nat) (s : ByteArray) (p k1 : Nat) : (((w.drewN k).iter s p).drewN k1).iterPos w.heap.size = p := World.iterPos_iter (w.drewN k) s p
set_option maxRecDepth 1000000 in
set_option maxHeartbeats 4000000 in
/-- How far a test of runes holds: t is a test of a rune that no rune above 127 passes. -/
theorem run_any (g : Nat) (t : Nat → Bool) (ht : ∀ (c : Nat) W, Calls Try.prog g #[.int .i32 (c : Int)] W (Draws (.bool (t c)) W)) (hi : ∀ c : Nat, 128 ≤ c → t c = false) (eg : ∀ args W, (callFunc g args).run Try.prog W = .ok (.enter g args) W) (s : ByteArray) (w : World) :
    Calls Try.prog 31 #[.string s, .func (.func g) #[] #[]] w (fun e w' => e = .returned (.int .i64 (stop t (byteAt s) s.size 0 : Nat)) ∧ Below w.heap.size w w') := by
  go_enter Try.func31, Try.ntmps31
  go_wp2_with fail
  go_loopw [] (fun wr => ∃ pos k : Nat, wr = (w.drewN k).iter s pos ∧ pos ≤ s.size ∧ Hid (stop t (byteAt s) s.size 0 = stop t (byteAt s) s.size pos)) (fun wr => s.size - wr.iterPos w.heap.size)
  case atStart => exact ⟨0, 0, rfl, Nat.zero_le _, hide rfl⟩
  case round =>
    obtain ⟨pos, k, rfl, hpos, HE⟩ := hrel
    by_cases hp : pos < s.size
    · have hnx : ∀ ty, (Instr.next (.pointer (some ⟨w.heap.size, 0, none⟩)) true ty).run Try.prog ((w.drewN k).iter s pos) = _ := fun ty => run_next_any (w.drewN k) s pos ty hp
      have hbe := byteAt_eq s pos hp
      have HS := hide (stop_step t (byteAt s) hp)
      by_cases ha : (s[pos]'hp).toNat < 128
      · rw [decode_ascii s pos hp ha] at hnx
        rw [← hbe] at hnx
        have hc := ht (byteAt s pos) ((w.drewN k).iter s (pos + 1))
        by_cases hb : t (byteAt s pos) = true
        · have HF := hide (HE.out.trans (HS.out.trans (if_pos hb)))
          rw [hb] at hc
          clear hb hbe ha
          go_wp2_with fail
          refine hc.mono ?_
          rintro e w1 ⟨rfl, k1, rfl⟩
          go_wp2_with fail
          go_roundw
          case rel => exact ⟨pos + 1, k + k1, iter_dr _ _ _ _ _, by omega, HF⟩
          case measure => rw [iterPos_dr, iterPos_d]; omega
        · have HF := hide (HE.out.trans (HS.out.trans (if_neg hb)))
          rw [show t (byteAt s pos) = false by simpa using hb] at hc
          clear hb hbe ha
          go_wp2_with fail
          refine hc.mono ?_
          rintro e w1 ⟨rfl, k1, rfl⟩
          go_wp2_with fail
          go_ret
          exact ⟨by rw [HF.out] <;> rfl, bl_iter _ _ _ _ _⟩
      · have hr := decode_high s pos hp (by omega)
        have hc := ht (Utf8.decode s pos).1 ((w.drewN k).iter s (pos + (Utf8.decode s pos).2))
        rw [hi _ hr.1] at hc
        have hb : t (byteAt s pos) = false := hi _ (by omega)
        have HF := hide (HE.out.trans (HS.out.trans (if_neg (by rw [hb]; decide))))
        generalize Utf8.decode s pos = q at *
        obtain ⟨q1, q2⟩ := q
        dsimp only at hc hnx
        clear hb hbe ha hr
        go_wp2_with fail
        refine hc.mono ?_
        rintro e w1 ⟨rfl, k1, rfl⟩
        go_wp2_with fail
        go_ret
        exact ⟨by rw [HF.out] <;> rfl, bl_iter _ _ _ _ _⟩
    · obtain rfl : pos = s.size := by omega
      have hnx : ∀ ty, (Instr.next (.pointer (some ⟨w.heap.size, 0, none⟩)) true ty).run Try.prog ((w.drewN k).iter s s.size) = _ := fun ty => run_next_end (w.drewN k) s s.size ty hp
      have HF := hide (HE.out.trans (stop_end t (byteAt s) s.size))
      go_wp2_with fail
      go_ret
      exact ⟨by rw [HF.out] <;> rfl, bl_iter2 _ _ _ _⟩
end Go.Proofs.Ytifikcaiknnjfaa
