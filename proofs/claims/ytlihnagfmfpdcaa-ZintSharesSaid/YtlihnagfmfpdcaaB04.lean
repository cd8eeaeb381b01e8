/- Texts of one seat, put together: Cmp. -/
import Derived.Test.YtlihnagfmfpdcaaB03
/- nat.Cmp. -/
namespace Go.Proofs.Ytlihnagfmfpdcaa
open Go.RowKit

def cmpN (a b : Nat) : Int := sgn3 (a : Int) (b : Int)
theorem cmpN_lt {a b : Nat} (h : a < b) : cmpN a b < 0 := by unfold cmpN sgn3; rw [if_pos (by omega)]; omega
theorem cmpN_ge {a b : Nat} (h : b ≤ a) : 0 ≤ cmpN a b := by
  unfold cmpN sgn3
  rw [if_neg (by omega)]
  split <;> omega

def CmpNPost (a b : Nat) (w : World) (e : Ending) (w' : World) : Prop := e = .returned (.int .i64 (cmpN a b)) ∧ ∃ k, w' = w.drewN k

theorem cmpN_len (a b : Nat) (h : (Limb.canon a).length ≠ (Limb.canon b).length) : sgn3 ((Limb.canon a).length : Int) ((Limb.canon b).length : Int) = cmpN a b := by
  unfold cmpN sgn3
  rcases Nat.lt_or_gt_of_ne h with h1 | h1
  · have := Limb.lt_of_len h1
    rw [if_pos (by omega), if_pos (by omega)]
  · have := Limb.lt_of_len h1
    rw [if_neg (by omega), if_pos (by omega), if_neg (by omega), if_pos (by omega)]
theorem cmpN_top (a b i : Nat) (hl : (Limb.canon a).length = (Limb.canon b).length) (hi : i < (Limb.canon a).length) (hd : (Limb.canon a).drop (i + 1) = (Limb.canon b).drop (i + 1))
    (h : (Limb.canon a).getD i 0 ≠ (Limb.canon b).getD i 0) : sgn3 (((Limb.canon a).getD i 0 : Nat) : Int) (((Limb.canon b).getD i 0 : Nat) : Int) = cmpN a b := by
  unfold cmpN sgn3
  rcases Nat.lt_or_gt_of_ne h with h1 | h1
  · have := Limb.lt_of_top _ _ (Limb.ok_canon a) i hl hi hd h1
    rw [Limb.val_canon, Limb.val_canon] at this
    rw [if_pos (by omega), if_pos (by omega)]
  · have := Limb.lt_of_top _ _ (Limb.ok_canon b) i hl.symm (by omega) hd.symm h1
    rw [Limb.val_canon, Limb.val_canon] at this
    rw [if_neg (by omega), if_pos (by omega), if_neg (by omega), if_pos (by omega)]
theorem cmpN_same (a b : Nat) (hl : (Limb.canon a).length = (Limb.canon b).length) (hd : (Limb.canon a).drop 0 = (Limb.canon b).drop 0) : cmpN a b = 0 := by
  have : a = b := Limb.canon_inj (by simpa using hd)
  subst this
  simp [cmpN, sgn3]

set_option maxHeartbeats 1000000 in
theorem cmp_any (A B : Option Addr) (n c m d : Nat) (xs ys : List Nat) (w : World) (hx : Nums w A n xs) (hc : n ≤ c) (hm : c ≤ 9223372036854775807) (hy : Nums w B m ys) (hd : m ≤ d) (hmd : d ≤ 9223372036854775807) :
    Calls Try.prog 22 #[.slice A n c, .slice B m d] w (CmpNPost (Limb.val xs) (Limb.val ys) w) := by
  generalize ha : Limb.val xs = a
  generalize hb : Limb.val ys = b
  have HA := Lib.hid ha
  have HB := Lib.hid hb
  clear ha hb
  go_enter Try.func22, Try.ntmps22
  go_wp2_with fail
  refine (trimmed_any A n c xs w hx hc hm).mono ?_
  rintro e w' ⟨A1, n1, rfl, hcut1, rfl⟩
  rw [HA.out] at hcut1
  go_wp2_with fail
  refine (trimmed_any B m d ys w hy hd hmd).mono ?_
  rintro e w' ⟨B1, m1, rfl, hcut2, rfl⟩
  rw [HB.out] at hcut2
  clear hx hy HA HB
  obtain ⟨hn1, hn2, hx1, _⟩ := hcut1
  obtain ⟨hm1, hm2, hy1, _⟩ := hcut2
  have HN := Lib.hid hn1
  have HM := Lib.hid hm1
  clear hn1 hm1
  have hle1 : n1 ≤ 9223372036854775807 := by omega
  have hle2 : m1 ≤ 9223372036854775807 := by omega
  clear hc hm hd hmd hn2 hm2
  by_cases hl : n1 = m1
  · subst hl
    have h0 : ((n1 : Int) != (n1 : Int)) = false := by simp
    go_wp2_with fail
    go_loopw [5] (fun i wr => ∃ k : Nat, k ≤ n1 ∧ i = .int .i64 ((k : Int) - 1) ∧ (∃ q, wr = w.drewN q) ∧ Hid ((Limb.canon a).drop k = (Limb.canon b).drop k)) (fun i _ => ((intOf i) + 1).toNat)
    case atStart => exact ⟨n1, Nat.le_refl _, rfl, ⟨0, rfl⟩, by
      show _ = _
      rw [List.drop_of_length_le (by rw [← HN.out]; exact Nat.le_refl _), List.drop_of_length_le (by rw [← HM.out]; exact Nat.le_refl _)]⟩
    case round =>
      obtain ⟨k, hk, rfl, ⟨q, rfl⟩, HD⟩ := hrel
      by_cases hk0 : k = 0
      · subst hk0
        go_wp2_with fail
        go_ret
        refine ⟨?_, q, rfl⟩
        rw [cmpN_same a b (by rw [← HN.out, ← HM.out]) HD.out]
        rfl
      · have hk1 : 1 ≤ k := by omega
        obtain ⟨b1, o1, x, rfl, hxb, hxe, hxc⟩ := hx1.at_ (i := k - 1) (by omega)
        obtain ⟨b2, o2, y, rfl, hyb, hye, hyc⟩ := hy1.at_ (i := k - 1) (by omega)
        have HX := Lib.hid hxe
        have HY := Lib.hid hye
        have HK := Lib.hid hk0
        clear hxe hye hk0
        by_cases hxy : x = y
        · have h1 : ((x : Int) != (y : Int)) = false := by simp [hxy]
          have HXY := Lib.hid hxy
          clear hxy
          go_wp2_with fail
          go_quiet (fail)
          go_wp2_with fail
          go_roundw
          case rel =>
            refine ⟨k - 1, by omega, by go_num, ⟨_, rfl⟩, ?_⟩
            have e1 : k - 1 + 1 = k := by omega
            exact Limb.drop_eq_step _ _ (k - 1) (by rw [← HN.out, ← HM.out]) (by rw [← HN.out]; omega) (by rw [e1]; exact HD.out) (by rw [← HX.out, ← HY.out]; exact HXY.out)
          case measure => simp [intOf]; omega
        · have h1 : ((x : Int) != (y : Int)) = true := by simp; omega
          have HXY := Lib.hid hxy
          clear hxy
          go_wp2_with fail
          go_quiet (fail)
          go_wp2_with fail
          go_quiet ((go_at_call 63; exact quiet_add_left (compare_u32 _ _ _)))
          go_wp2_with fail
          go_ret
          refine ⟨?_, by simp only [World.drewN_drewN]; exact ⟨_, rfl⟩⟩
          have e1 : k - 1 + 1 = k := by omega
          have e := cmpN_top a b (k - 1) (by rw [← HN.out, ← HM.out]) (by rw [← HN.out]; omega) (by rw [e1]; exact HD.out) (by rw [← HX.out, ← HY.out]; exact HXY.out)
          rw [← HX.out, ← HY.out] at e
          rw [← e]
          rfl
  · have h0 : ((n1 : Int) != (m1 : Int)) = true := by simp; omega
    have HL := Lib.hid hl
    clear hl
    go_wp2_with (go_at_call 62; refine (compare_int _ _ _).mono ?_; rintro e w' ⟨rfl, rfl⟩)
    go_ret
    refine ⟨?_, 0, rfl⟩
    have e := cmpN_len a b (by rw [← HN.out, ← HM.out]; exact HL.out)
    rw [← e, HN.out, HM.out]
    rfl
end Go.Proofs.Ytlihnagfmfpdcaa
