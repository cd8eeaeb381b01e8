/- plumblinelaw01.NatTexts: the walk. -/
import Derived.Test.YtlihnagfmfpdcaaTelling
namespace Go.Proofs.Ytlihnagfmfpdcaa
open Go.RowKit

set_option maxHeartbeats 4000000 in
theorem natTexts_walk (s : ByteArray) (A : Option Addr) (n c : Nat) (xs : List Nat) (w : World) (hs : s.size ≤ 9223372036854775807) (hx : Nums w A n xs) (hc : n ≤ c) (hm : c ≤ 9223372036854775807) :
    Calls Try.prog 4 #[.string s, .slice A n c] w (YesPost w) := by
  by_cases hsk : n ≤ 20 ∧ (s.size ≤ 400 ∨ 4000 < s.size)
  · obtain ⟨hn, hsz⟩ := hsk
    by_cases hlong : 4000 < s.size
    · go_enter Try.func4, Try.ntmps4
      go_wp2_with fail
      refine (telling_any w).mono ?_
      rintro e w1 ⟨rfl, b1⟩
      go_wp2_with fail
      refine (parse_long s w1 hlong hs).mono ?_
      rintro e w2 ⟨rfl, b2⟩
      have t2 := b1.next b2
      go_wp2_with fail
      refine (rparse_long s w2 hlong hs).mono ?_
      rintro e w3 ⟨rfl, b3⟩
      have t3 := t2.next b3
      go_wp2_with fail
      refine (rtrim_any none 0 0 [] w3 (Nums.nil _ _) (by omega)).mono ?_
      rintro e w4 ⟨A4, n4, c4, rfl, o4, l4, m4, b4⟩
      have t4 := t3.next b4
      go_wp2_with fail
      refine (lsame_yes none A4 0 n4 0 c4 0 w4 (Nums.nil _ _) o4 (by omega)).mono ?_
      rintro e w5 ⟨rfl, b5⟩
      have t5 := t4.next b5
      go_wp2_with fail
      refine (natText_any A n c xs w5 (hx.below t5) hc hm (by omega)).mono ?_
      rintro e w6 ⟨rfl, b6⟩
      have t6 := t5.next b6
      go_wp2_with fail
      refine (refText_any A n c xs w6 (hx.below t6) (by omega)).mono ?_
      rintro e w7 ⟨rfl, b7⟩
      go_wp2_with fail
      go_ret
      exact ⟨rfl, t6.next b7⟩
    · have hs4 : s.size ≤ 400 := by omega
      by_cases hd : allDig s ∧ s.size ≠ 0
      · have HD := hide hd
        clear hd hsz hlong
        go_enter Try.func4, Try.ntmps4
        go_wp2_with fail
        refine (telling_any w).mono ?_
        rintro e w1 ⟨rfl, b1⟩
        go_wp2_with fail
        refine (parse_ok s w1 (by omega) HD.out.1 HD.out.2).mono ?_
        rintro e w2 ⟨A2, n2, rfl, o2, b2⟩
        have t2 := b1.next b2
        go_wp2_with fail
        refine (rparse_any s w2 (by omega)).mono ?_
        rintro e w3 hp
        obtain ⟨A3, n3, c3, rfl, o3, l3, m3, b3⟩ := hp.1 HD.out
        have t3 := t2.next b3
        clear hp
        go_wp2_with fail
        refine (rtrim_any A3 n3 c3 _ w3 o3 ?_).mono ?_
        · have := len_cap o3 (numOf_lt s HD.out.1 _ (Nat.le_refl _)) (by omega); omega
        rintro e w4 ⟨A4, n4, c4, rfl, o4, l4, m4, b4⟩
        rw [Limb.val_canon] at o4
        have t4 := t3.next b4
        go_wp2_with fail
        refine (lsame_yes A2 A4 n2 n4 n2 c4 _ w4 ((o2.nums.below b3).below b4) o4 (by have := o2.2.2.1; omega)).mono ?_
        rintro e w5 ⟨rfl, b5⟩
        have t5 := t4.next b5
        go_wp2_with fail
        refine (natText_any A n c xs w5 (hx.below t5) hc hm (by omega)).mono ?_
        rintro e w6 ⟨rfl, b6⟩
        have t6 := t5.next b6
        go_wp2_with fail
        refine (refText_any A n c xs w6 (hx.below t6) (by omega)).mono ?_
        rintro e w7 ⟨rfl, b7⟩
        go_wp2_with fail
        go_ret
        exact ⟨rfl, t6.next b7⟩
      · have HD := hide hd
        clear hd hsz hlong
        go_enter Try.func4, Try.ntmps4
        go_wp2_with fail
        refine (telling_any w).mono ?_
        rintro e w1 ⟨rfl, b1⟩
        go_wp2_with fail
        refine (parse_form s w1 (by omega) HD.out).mono ?_
        rintro e w2 ⟨rfl, b2⟩
        have t2 := b1.next b2
        go_wp2_with fail
        refine (rparse_any s w2 (by omega)).mono ?_
        rintro e w3 hp
        obtain ⟨rfl, b3⟩ := hp.2 HD.out
        have t3 := t2.next b3
        clear hp
        go_wp2_with fail
        refine (rtrim_any none 0 0 [] w3 (Nums.nil _ _) (by omega)).mono ?_
        rintro e w4 ⟨A4, n4, c4, rfl, o4, l4, m4, b4⟩
        have t4 := t3.next b4
        go_wp2_with fail
        refine (lsame_yes none A4 0 n4 0 c4 0 w4 (Nums.nil _ _) o4 (by omega)).mono ?_
        rintro e w5 ⟨rfl, b5⟩
        have t5 := t4.next b5
        go_wp2_with fail
        refine (natText_any A n c xs w5 (hx.below t5) hc hm (by omega)).mono ?_
        rintro e w6 ⟨rfl, b6⟩
        have t6 := t5.next b6
        go_wp2_with fail
        refine (refText_any A n c xs w6 (hx.below t6) (by omega)).mono ?_
        rintro e w7 ⟨rfl, b7⟩
        go_wp2_with fail
        go_ret
        exact ⟨rfl, t6.next b7⟩
  · have hno : 20 < n ∨ (n ≤ 20 ∧ 400 < s.size ∧ s.size ≤ 4000) := by omega
    clear hsk
    rcases hno with h1 | ⟨h1, h2, h3⟩
    all_goals
      go_enter Try.func4, Try.ntmps4
      go_wp2_with fail
      refine (telling_any w).mono ?_
      rintro e w1 ⟨rfl, b1⟩
      go_wp2_with fail
      go_ret
      exact ⟨rfl, b1⟩
end Go.Proofs.Ytlihnagfmfpdcaa
