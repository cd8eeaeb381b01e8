/- lex: signSize, check, first. -/
import Derived.Test.YtifikcaiknnjfaaLexD
import Derived.Lib.Strings
namespace Go.Proofs.Ytifikcaiknnjfaa
open Go.RowKit
open Lx

theorem two_list (s : ByteArray) (h : 2 ≤ s.size) : ∃ a b : UInt8, (s.extract 0 2).toList = [a, b] ∧ a.toNat = byteAt s 0 ∧ b.toNat = byteAt s 1 := by
  refine ⟨s[0]'(by omega), s[1]'(by omega), ?_, (byteAt_eq s 0 (by omega)).symm, (byteAt_eq s 1 (by omega)).symm⟩
  rw [Lib.toList_data]
  apply List.ext_getElem
  · simp; omega
  · intro i h1 h2
    have hi : i < 2 := by simpa using h2
    have hi2 : i = 0 ∨ i = 1 := by omega
    rcases hi2 with rfl | rfl <;> simp [ByteArray.getElem_eq_getElem_data]
theorem u8_of {a : UInt8} {n : Nat} (h : a.toNat = n) (hn : n < 256) : a = UInt8.ofNat n := by
  apply UInt8.toNat_inj.1
  rw [h, UInt8.toNat_ofNat_of_lt' hn]
theorem two_cases {x y : Nat} (h : twoB x y = true) : (x = 45 ∧ y = 62) ∨ (x = 58 ∧ y = 61) ∨ (x = 33 ∧ y = 61) ∨ (x = 60 ∧ y = 61) ∨ (x = 62 ∧ y = 61) ∨ (x = 46 ∧ y = 46) := by
  unfold twoB at h
  simp at h
  omega
def sgnSize (s : ByteArray) : Nat := if 2 ≤ s.size ∧ twoB (byteAt s 0) (byteAt s 1) = true then 2 else if sgnB (byteAt s 0) = true then 1 else 0
set_option maxHeartbeats 4000000 in
theorem signSize_any (s : ByteArray) (w : World) (h0 : 0 < s.size) (hs : s.size ≤ 4611686018427387904) : Calls Try.prog 35 #[.string s] w (Draws (.int .i64 (sgnSize s : Nat)) w) := by
  have hix := ix_any ⟨#[40, 41, 44, 59, 58, 46, 43, 42, 38, 124, 33, 64, 61, 60, 62, 47, 45]⟩ (byteAt s 0) (byteAt_lt s 0) w
  have HX := hide (sgn_ix (byteAt_lt s 0))
  have hbe := byteAt_eq s 0 h0
  have HSZ := hide (show sgnSize s = if 2 ≤ s.size ∧ twoB (byteAt s 0) (byteAt s 1) = true then 2 else if sgnB (byteAt s 0) = true then 1 else 0 from rfl)
  generalize sgnSize s = z at *
  generalize firstIdx ⟨#[40, 41, 44, 59, 58, 46, 43, 42, 38, 124, 33, 64, 61, 60, 62, 47, 45]⟩ (byteAt s 0).toUInt8 = q at *
  rw [hbe] at hix
  by_cases h2 : 2 ≤ s.size
  · obtain ⟨a, b, hl, ha, hb⟩ := two_list s h2
    by_cases ht : twoB (byteAt s 0) (byteAt s 1) = true
    · have hz : z = 2 := HSZ.out.trans (if_pos ⟨h2, ht⟩)
      have hc := two_cases ht
      rw [← ha, ← hb] at hc
      subst hz
      clear HX HSZ hix ht
      go_enter Try.func35, Try.ntmps35
      rcases hc with ⟨h1, h3⟩ | ⟨h1, h3⟩ | ⟨h1, h3⟩ | ⟨h1, h3⟩ | ⟨h1, h3⟩ | ⟨h1, h3⟩ <;> (rw [u8_of h1 (by decide), u8_of h3 (by decide)] at hl; clear h1 h3 ha hb hbe; go_wp2_with fail; go_ret; exact ⟨rfl, 0, rfl⟩)
    · have hne : ∀ x y : UInt8, twoB x.toNat y.toNat = true → ((s.extract 0 2).toList == [x, y]) = false := by
        intro x y hxy
        rw [hl]
        simp only [beq_eq_false_iff_ne]
        intro hh
        injection hh with e1 e2
        injection e2 with e2 _
        rw [e1] at ha
        rw [e2] at hb
        rw [ha, hb] at hxy
        exact ht hxy
      have n1 := hne 45 62 rfl
      have n2 := hne 58 61 rfl
      have n3 := hne 33 61 rfl
      have n4 := hne 60 61 rfl
      have n5 := hne 62 61 rfl
      have n6 := hne 46 46 rfl
      have HZ := hide (HSZ.out.trans (if_neg (fun h => ht h.2)))
      clear hne ht hl ha hb HSZ
      by_cases hq : q ≥ 0
      · have hz : z = 1 := HZ.out.trans (if_pos (by rw [← HX.out]; simpa using hq))
        subst hz
        clear HZ HX hbe
        go_enter Try.func35, Try.ntmps35
        go_wp2_with fail
        refine hix.mono ?_
        rintro e w1 ⟨rfl, k, rfl⟩
        go_wp2_with fail
        go_ret
        exact ⟨rfl, k, rfl⟩
      · have hz : z = 0 := HZ.out.trans (if_neg (by rw [← HX.out]; simpa using hq))
        subst hz
        clear HZ HX hbe
        go_enter Try.func35, Try.ntmps35
        go_wp2_with fail
        refine hix.mono ?_
        rintro e w1 ⟨rfl, k, rfl⟩
        go_wp2_with fail
        go_ret
        exact ⟨rfl, k, rfl⟩
  · have HZ := hide (HSZ.out.trans (if_neg (fun h => h2 h.1)))
    clear HSZ
    by_cases hq : q ≥ 0
    · have hz : z = 1 := HZ.out.trans (if_pos (by rw [← HX.out]; simpa using hq))
      subst hz
      clear HZ HX hbe
      go_enter Try.func35, Try.ntmps35
      go_wp2_with fail
      refine hix.mono ?_
      rintro e w1 ⟨rfl, k, rfl⟩
      go_wp2_with fail
      go_ret
      exact ⟨rfl, k, rfl⟩
    · have hz : z = 0 := HZ.out.trans (if_neg (by rw [← HX.out]; simpa using hq))
      subst hz
      clear HZ HX hbe
      go_enter Try.func35, Try.ntmps35
      go_wp2_with fail
      refine hix.mono ?_
      rintro e w1 ⟨rfl, k, rfl⟩
      go_wp2_with fail
      go_ret
      exact ⟨rfl, k, rfl⟩
end Go.Proofs.Ytifikcaiknnjfaa
