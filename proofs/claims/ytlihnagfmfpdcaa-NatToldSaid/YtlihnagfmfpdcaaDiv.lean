/- nat.divide, nat.Div, nat.Gcd. -/
import Derived.Test.YtlihnagfmfpdcaaDivL
import Derived.Test.YtlihnagfmfpdcaaOf
namespace Go.Proofs.Ytlihnagfmfpdcaa
open Go.RowKit
open Limb (limb limb_lt upto upto_succ upto_all upto_zero)

theorem lt2 (a : Nat) (h : L a ≤ 2) : a / 4294967296 < 4294967296 := by
  have h1 := Nat.lt_of_lt_of_le (lt_L a) (Limb.pow_mono h)
  have : (4294967296 : Nat) ^ 2 = 4294967296 * 4294967296 := by rfl
  rw [this] at h1
  exact Nat.div_lt_of_lt_mul h1

theorem canon_one' (x : Nat) (h0 : x ≠ 0) (h : x < 4294967296) : Limb.canon x = [x] := by
  rw [Limb.canon_pos x h0]
  have e1 : x % 4294967296 = x := by omega
  have e2 : x / 4294967296 = 0 := by omega
  rw [e1, e2, Limb.canon_zero]
set_option maxHeartbeats 8000000 in
theorem divide_any (A B : Option Addr) (n c m d a b : Nat) (w : World) (hx : Nums w A n (Limb.canon a)) (hc : n ≤ c) (hm : c ≤ 9223372036854775807) (hy : Nums w B m (Limb.canon b)) (hd : m ≤ d) (hmd : d ≤ 9223372036854775807) (hn40 : n ≤ 549755813888) (hm40 : m ≤ 549755813888) (hb0 : b ≠ 0) :
    Calls Try.prog 86 #[.slice A n c, .slice B m d] w (TwoPost (a / b) (a % b) w) := by
  have hla : L a = n := hx.len
  have hlb : L b = m := hy.len
  have hm1 : 1 ≤ m := by
    rcases Nat.eq_zero_or_pos m with h | h
    · exact absurd ((Limb.canon_len_zero b).1 (by rw [h] at hlb; exact hlb)) hb0
    · exact h
  by_cases h1 : n < m
  · have hab : a < b := Limb.lt_of_len (by show L a < L b; omega)
    have H1 := hide (Nat.div_eq_of_lt hab)
    have H2 := hide (Nat.mod_eq_of_lt hab)
    clear hla hlb
    go_enter Try.func86, Try.ntmps86
    go_wp2_with fail
    refine (trim_any A n c _ w hx hc hm (by omega)).mono ?_
    rintro e w1 ⟨A1, n1, rfl, o1, b1⟩
    rw [Limb.val_canon] at o1
    go_wp2_with fail
    go_ret2
    exact ⟨none, 0, 0, A1, n1, n1, rfl, by rw [H1.out]; exact Own.zero _ _ _ _ (by omega), by rw [H2.out]; exact o1, b1⟩
  · by_cases h2 : n ≤ 2
    · have ha2 := lt2 a (by omega)
      have hb2 := lt2 b (by omega)
      have hqd : ((a : Int)) / (b : Int) = ((a / b : Nat) : Int) := (Int.natCast_ediv a b).symm
      have hqm : ((a : Int)) % (b : Int) = ((a % b : Nat) : Int) := (Int.natCast_emod a b).symm
      have HQD := Lib.hid hqd
      have HQM := Lib.hid hqm
      clear hqd hqm
      have hl1 : a / b / 4294967296 < 4294967296 := Nat.lt_of_le_of_lt (Nat.div_le_div_right (Nat.div_le_self a b)) ha2
      have hl2 : a % b / 4294967296 < 4294967296 := Nat.lt_of_le_of_lt (Nat.div_le_div_right (Nat.mod_le a b)) ha2
      have hb1 : (1 : Int) ≤ (b : Int) := by omega
      have hwr : IntKind.u64.wrap ((a : Int) / (b : Int)) = (a : Int) / (b : Int) := by
        have e2 := Nat.div_le_self a b
        have e3 : a ≤ 18446744073709551615 := by omega
        rw [HQD.out]
        generalize a / b = t at *
        exact IntWalk.u64_in _ ⟨by omega, by omega⟩
      have htm : (a : Int).tmod (b : Int) = (a : Int) % (b : Int) := Int.tmod_eq_emod_of_nonneg (by omega)
      have hne : ((b : Int) == 0) = false := by simp; omega
      clear hla hlb ha2 hb2
      go_enter Try.func86, Try.ntmps86
      go_wp2_with fail
      refine (word_any A n c _ w hx h2).mono ?_
      rintro e w' ⟨rfl, rfl⟩
      rw [Limb.val_canon]
      go_wp2_with fail
      refine (word_any B m d _ w hy (by omega)).mono ?_
      rintro e w' ⟨rfl, rfl⟩
      rw [Limb.val_canon]
      go_wp2_with fail
      go_region_with (first
        | (go_at_call 50; (with_reducible refine (of_int ((a : Int) / (b : Int)) (a / b) _ HQD.out hl1).mono ?_); rintro e w1 ⟨A1, n1, rfl, o1, b1⟩)
        | (go_at_call 50; (with_reducible refine (of_int ((a : Int) % (b : Int)) (a % b) _ HQM.out hl2).mono ?_); rintro e w2 ⟨A2, n2, rfl, o2, b2⟩))
      go_wp2_with fail
      go_ret2
      exact ⟨A1, n1, n1, A2, n2, n2, rfl, o1.below b2, o2.mono b1.size, (Below.refl w.heap.size w).drew.next (b1.next b2)⟩
    · have h2' : 2 < n := by omega
      by_cases h3 : m = 1
      · subst h3
        have hbl : b < 4294967296 := by have := lt_L b; rw [hlb, Nat.pow_one] at this; exact this
        have hcb : Limb.canon b = [b] := canon_one' b hb0 hbl
        obtain ⟨g0, o0, t, rfl, htl, hte, htc⟩ := hy.at_ (i := 0) (by omega)
        rw [hcb] at hte
        have htb : t = b := hte
        subst htb
        rw [Nat.add_zero] at htc
        have hy2 := hide hy
        clear hcb hte hy hlb
        go_enter Try.func86, Try.ntmps86
        go_wp2_with fail
        refine (trim_any A n c _ w hx hc hm (by omega)).mono ?_
        rintro e w1 ⟨A1, n1, rfl, o1, b1⟩
        rw [Limb.val_canon] at o1
        have htc1 := cell_later b1 htc
        have ha0 : a ≠ 0 := by intro h; subst h; have : L 0 = 0 := rfl; omega
        have hrow := o1.trimRow.2 ha0
        have hl1 : n1 = n := by rw [o1.len]; exact hla
        subst hl1
        obtain ⟨g, zs, rfl, hg, hr1, hzok, hzl, hwin⟩ := hrow
        have HW := Lib.hid hwin
        clear hwin hla htc o1
        go_wp2_with fail
        refine (divideBy_any g n1 n1 t zs w1 hr1 hzok hzl (by omega) (by omega) hbl).mono ?_
        rintro e w2 ⟨rfl, hr2, ho2⟩
        rw [HW.out, Limb.val_canon] at hr2
        rw [HW.out, Limb.val_canon]
        go_wp2_with fail
        refine (trimmed_row g n1 _ (a / t) w.heap.size _ _ hr2 (put_ok hzok _ (Limb.fixed_ok _ _)) (by rw [put_length _ _ _ (by rw [Limb.fixed_length]; omega)]; exact hzl) (Nat.le_refl _) (by omega) hg (by
          unfold put
          rw [List.take_zero, List.nil_append, List.take_append_of_le_length (by rw [Limb.fixed_length]; exact Nat.le_refl _), List.take_of_length_le (by rw [Limb.fixed_length]; exact Nat.le_refl _), Limb.fixed_val, Nat.mod_eq_of_lt]
          have := hx.lt
          rw [Limb.val_canon] at this
          exact Nat.lt_of_le_of_lt (Nat.div_le_self _ _) this)).mono ?_
        rintro e w' ⟨A', q', rfl, how, rfl⟩
        go_wp2_with fail
        have hwt : IntKind.u64.wrap ((a : Int) % (t : Int)) = ((a % t : Nat) : Int) := by
          have e1 : (a : Int) % (t : Int) = ((a % t : Nat) : Int) := (Int.natCast_emod a t).symm
          have e2 := Nat.mod_lt a (Nat.pos_of_ne_zero hb0)
          rw [e1]
          generalize a % t = u at *
          exact IntWalk.u64_in _ ⟨by omega, by omega⟩
        refine (of_int (IntKind.u64.wrap ((a : Int) % (t : Int))) (a % t) _ hwt (by have := Nat.mod_lt a (Nat.pos_of_ne_zero hb0); omega)).mono ?_
        clear hwt
        rintro e w4 ⟨A4, n4, rfl, o4, b4⟩
        go_wp2_with fail
        go_ret2
        have hB2 : Below w.heap.size w w2 := b1.trans (ho2.below b1.size hg)
        exact ⟨A', q', q', A4, n4, n4, rfl, how.below b4, o4.mono hB2.size, hB2.next b4⟩
      · obtain ⟨j, rfl⟩ : ∃ j, m = j + 2 := ⟨m - 2, by omega⟩
        clear hla hlb h3
        go_enter Try.func86, Try.ntmps86
        go_wp2_with fail
        refine (divideLong_any A B n c j d a b w hx hc hm hy hd hmd hn40 (by omega)).mono ?_
        rintro e w1 ⟨A1, n1, c1, B1, m1, d1, rfl, o1, o2, b1⟩
        go_wp2_with fail
        go_ret2
        exact ⟨A1, n1, c1, B1, m1, d1, rfl, o1, o2, b1⟩
end Go.Proofs.Ytlihnagfmfpdcaa
