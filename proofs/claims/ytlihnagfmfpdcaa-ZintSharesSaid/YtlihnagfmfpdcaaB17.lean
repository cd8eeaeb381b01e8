/- Texts of one seat, put together: Div Gcd. -/
import Derived.Test.YtlihnagfmfpdcaaB16
import Derived.Test.YtlihnagfmfpdcaaB08
import Derived.Deep.LoopGhost
/- nat.divide, nat.Div, nat.Gcd. -/
namespace Go.Proofs.Ytlihnagfmfpdcaa
open Go.RowKit
open Limb (limb limb_lt upto upto_succ upto_all upto_zero)

theorem lt2 (a : Nat) (h : L a ≤ 2) : a / 4294967296 < 4294967296 := by
  have h1 := Nat.lt_of_lt_of_le (lt_L a) (Limb.pow_mono h)
  have : (4294967296 : Nat) ^ 2 = 4294967296 * 4294967296 := by rfl
  rw [this] at h1
  exact Nat.div_lt_of_lt_mul h1

theorem canon_one' (x : Nat) (h0 : x ≠ 0) (h : x < 4294967296) : Limb.canon x = [x] := by
  rw [Limb.canon_pos x h0]
  have e1 : x % 4294967296 = x := by omega
  have e2 : x / 4294967296 = 0 := by omega
  rw [e1, e2, Limb.canon_zero]
set_option maxHeartbeats 8000000 in
theorem divide_any (A B : Option Addr) (n c m d a b : Nat) (w : World) (hx : Nums w A n (Limb.canon a)) (hc : n ≤ c) (hm : c ≤ 9223372036854775807) (hy : Nums w B m (Limb.canon b)) (hd : m ≤ d) (hmd : d ≤ 9223372036854775807) (hn40 : n ≤ 549755813888) (hm40 : m ≤ 549755813888) (hb0 : b ≠ 0) :
    Calls Try.prog 86 #[.slice A n c, .slice B m d] w (TwoPost (a / b) (a % b) w) := by
  have hla : L a = n := hx.len
  have hlb : L b = m := hy.len
  have hm1 : 1 ≤ m := by
    rcases Nat.eq_zero_or_pos m with h | h
    · exact absurd ((Limb.canon_len_zero b).1 (by rw [h] at hlb; exact hlb)) hb0
    · exact h
  by_cases h1 : n < m
  · have hab : a < b := Limb.lt_of_len (by show L a < L b; omega)
    have H1 := hide (Nat.div_eq_of_lt hab)
    have H2 := hide (Nat.mod_eq_of_lt hab)
    clear hla hlb
    go_enter Try.func86, Try.ntmps86
    go_wp2_with fail
    refine (trim_any A n c _ w hx hc hm (by omega)).mono ?_
    rintro e w1 ⟨A1, n1, rfl, o1, b1⟩
    rw [Limb.val_canon] at o1
    go_wp2_with fail
    go_ret2
    exact ⟨none, 0, 0, A1, n1, n1, rfl, by rw [H1.out]; exact Own.zero _ _ _ _ (by omega), by rw [H2.out]; exact o1, b1⟩
  · by_cases h2 : n ≤ 2
    · have ha2 := lt2 a (by omega)
      have hb2 := lt2 b (by omega)
      have hqd : ((a : Int)) / (b : Int) = ((a / b : Nat) : Int) := (Int.natCast_ediv a b).symm
      have hqm : ((a : Int)) % (b : Int) = ((a % b : Nat) : Int) := (Int.natCast_emod a b).symm
      have HQD := Lib.hid hqd
      have HQM := Lib.hid hqm
      clear hqd hqm
      have hl1 : a / b / 4294967296 < 4294967296 := Nat.lt_of_le_of_lt (Nat.div_le_div_right (Nat.div_le_self a b)) ha2
      have hl2 : a % b / 4294967296 < 4294967296 := Nat.lt_of_le_of_lt (Nat.div_le_div_right (Nat.mod_le a b)) ha2
      have hb1 : (1 : Int) ≤ (b : Int) := by omega
      have hwr : IntKind.u64.wrap ((a : Int) / (b : Int)) = (a : Int) / (b : Int) := by
        have e2 := Nat.div_le_self a b
        have e3 : a ≤ 18446744073709551615 := by omega
        rw [HQD.out]
        generalize a / b = t at *
        exact IntWalk.u64_in _ ⟨by omega, by omega⟩
      have htm : (a : Int).tmod (b : Int) = (a : Int) % (b : Int) := Int.tmod_eq_emod_of_nonneg (by omega)
      have hne : ((b : Int) == 0) = false := by simp; omega
      clear hla hlb ha2 hb2
      go_enter Try.func86, Try.ntmps86
      go_wp2_with fail
      refine (word_any A n c _ w hx h2).mono ?_
      rintro e w' ⟨rfl, rfl⟩
      rw [Limb.val_canon]
      go_wp2_with fail
      refine (word_any B m d _ w hy (by omega)).mono ?_
      rintro e w' ⟨rfl, rfl⟩
      rw [Limb.val_canon]
      go_wp2_with fail
      go_region_with (first
        | (go_at_call 50; (with_reducible refine (of_int ((a : Int) / (b : Int)) (a / b) _ HQD.out hl1).mono ?_); rintro e w1 ⟨A1, n1, rfl, o1, b1⟩)
        | (go_at_call 50; (with_reducible refine (of_int ((a : Int) % (b : Int)) (a % b) _ HQM.out hl2).mono ?_); rintro e w2 ⟨A2, n2, rfl, o2, b2⟩))
      go_wp2_with fail
      go_ret2
      exact ⟨A1, n1, n1, A2, n2, n2, rfl, o1.below b2, o2.mono b1.size, (Below.refl w.heap.size w).drew.next (b1.next b2)⟩
    · have h2' : 2 < n := by omega
      by_cases h3 : m = 1
      · subst h3
        have hbl : b < 4294967296 := by have := lt_L b; rw [hlb, Nat.pow_one] at this; exact this
        have hcb : Limb.canon b = [b] := canon_one' b hb0 hbl
        obtain ⟨g0, o0, t, rfl, htl, hte, htc⟩ := hy.at_ (i := 0) (by omega)
        rw [hcb] at hte
        have htb : t = b := hte
        subst htb
        rw [Nat.add_zero] at htc
        have hy2 := hide hy
        clear hcb hte hy hlb
        go_enter Try.func86, Try.ntmps86
        go_wp2_with fail
        refine (trim_any A n c _ w hx hc hm (by omega)).mono ?_
        rintro e w1 ⟨A1, n1, rfl, o1, b1⟩
        rw [Limb.val_canon] at o1
        have htc1 := cell_later b1 htc
        have ha0 : a ≠ 0 := by intro h; subst h; have : L 0 = 0 := rfl; omega
        have hrow := o1.trimRow.2 ha0
        have hl1 : n1 = n := by rw [o1.len]; exact hla
        subst hl1
        obtain ⟨g, zs, rfl, hg, hr1, hzok, hzl, hwin⟩ := hrow
        have HW := Lib.hid hwin
        clear hwin hla htc o1
        go_wp2_with fail
        refine (divideBy_any g n1 n1 t zs w1 hr1 hzok hzl (by omega) (by omega) hbl).mono ?_
        rintro e w2 ⟨rfl, hr2, ho2⟩
        rw [HW.out, Limb.val_canon] at hr2
        rw [HW.out, Limb.val_canon]
        go_wp2_with fail
        refine (trimmed_row g n1 _ (a / t) w.heap.size _ _ hr2 (put_ok hzok _ (Limb.fixed_ok _ _)) (by rw [put_length _ _ _ (by rw [Limb.fixed_length]; omega)]; exact hzl) (Nat.le_refl _) (by omega) hg (by
          unfold put
          rw [List.take_zero, List.nil_append, List.take_append_of_le_length (by rw [Limb.fixed_length]; exact Nat.le_refl _), List.take_of_length_le (by rw [Limb.fixed_length]; exact Nat.le_refl _), Limb.fixed_val, Nat.mod_eq_of_lt]
          have := hx.lt
          rw [Limb.val_canon] at this
          exact Nat.lt_of_le_of_lt (Nat.div_le_self _ _) this)).mono ?_
        rintro e w' ⟨A', q', rfl, how, rfl⟩
        go_wp2_with fail
        have hwt : IntKind.u64.wrap ((a : Int) % (t : Int)) = ((a % t : Nat) : Int) := by
          have e1 : (a : Int) % (t : Int) = ((a % t : Nat) : Int) := (Int.natCast_emod a t).symm
          have e2 := Nat.mod_lt a (Nat.pos_of_ne_zero hb0)
          rw [e1]
          generalize a % t = u at *
          exact IntWalk.u64_in _ ⟨by omega, by omega⟩
        refine (of_int (IntKind.u64.wrap ((a : Int) % (t : Int))) (a % t) _ hwt (by have := Nat.mod_lt a (Nat.pos_of_ne_zero hb0); omega)).mono ?_
        clear hwt
        rintro e w4 ⟨A4, n4, rfl, o4, b4⟩
        go_wp2_with fail
        go_ret2
        have hB2 : Below w.heap.size w w2 := b1.trans (ho2.below b1.size hg)
        exact ⟨A', q', q', A4, n4, n4, rfl, how.below b4, o4.mono hB2.size, hB2.next b4⟩
      · obtain ⟨j, rfl⟩ : ∃ j, m = j + 2 := ⟨m - 2, by omega⟩
        clear hla hlb h3
        go_enter Try.func86, Try.ntmps86
        go_wp2_with fail
        refine (divideLong_any A B n c j d a b w hx hc hm hy hd hmd hn40 (by omega)).mono ?_
        rintro e w1 ⟨A1, n1, c1, B1, m1, d1, rfl, o1, o2, b1⟩
        go_wp2_with fail
        go_ret2
        exact ⟨A1, n1, c1, B1, m1, d1, rfl, o1, o2, b1⟩
end Go.Proofs.Ytlihnagfmfpdcaa
/- nat.Div, nat.Gcd. -/
namespace Go.Proofs.Ytlihnagfmfpdcaa
open Go.RowKit
open Limb (limb limb_lt upto upto_succ upto_all upto_zero)

def DivNoPost (w : World) (e : Ending) (w' : World) : Prop := e = .returned (.tuple #[.slice none 0 0, .slice none 0 0, .int .i64 10]) ∧ w = w'
def DivYesPost (N M : Nat) (w : World) (e : Ending) (w' : World) : Prop :=
  ∃ A n c B m d, e = .returned (.tuple #[.slice A n c, .slice B m d, .int .i64 0]) ∧ Own w' w.heap.size A n c N ∧ Own w' w.heap.size B m d M ∧ Below w.heap.size w w'

set_option maxHeartbeats 1000000 in
theorem div_no (A B : Option Addr) (n c m d : Nat) (xs ys : List Nat) (w : World) (hx : Nums w A n xs) (hc : n ≤ c) (hm : c ≤ 9223372036854775807) (hy : Nums w B m ys) (hd : m ≤ d) (hmd : d ≤ 9223372036854775807) (h0 : Limb.val ys = 0) :
    Calls Try.prog 49 #[.slice A n c, .slice B m d] w (DivNoPost w) := by
  have h1 := trimmed_det B m d ys w hy hd hmd
  have h2 : Calls Try.prog 53 #[.slice B m d] w (fun e w' => e = .returned (.slice none 0 0) ∧ w = w') := by
    refine h1.mono ?_
    rintro e w' ⟨rfl, rfl⟩
    rw [h0]
    exact ⟨rfl, rfl⟩
  clear h1 h0
  go_enter Try.func49, Try.ntmps49
  go_wp2_with fail
  refine (trimmed_det A n c xs w hx hc hm).mono ?_
  rintro e w' ⟨rfl, rfl⟩
  go_wp2_with fail
  refine h2.mono ?_
  rintro e w' ⟨rfl, rfl⟩
  go_wp2_with fail
  go_ret3
  exact ⟨rfl, rfl⟩

set_option maxHeartbeats 1000000 in
theorem div_yes (A B : Option Addr) (n c m d : Nat) (xs ys : List Nat) (w : World) (hx : Nums w A n xs) (hc : n ≤ c) (hm : c ≤ 9223372036854775807) (hn : n ≤ 549755813888) (hy : Nums w B m ys) (hd : m ≤ d) (hmd : d ≤ 9223372036854775807) (hm4 : m ≤ 549755813888) (h0 : Limb.val ys ≠ 0) :
    Calls Try.prog 49 #[.slice A n c, .slice B m d] w (DivYesPost (Limb.val xs / Limb.val ys) (Limb.val xs % Limb.val ys) w) := by
  have hA := isCut_det w A xs n hx
  have hB := isCut_det w B ys m hy
  have h1 := hA.2.1
  have h2 := hB.2.1
  have hpos : ((L (Limb.val ys) : Int) == 0) = false := by
    have : L (Limb.val ys) ≠ 0 := fun h => h0 ((Limb.canon_len_zero _).1 h)
    simp; omega
  have H0 := hide h0
  clear h0
  go_enter Try.func49, Try.ntmps49
  go_wp2_with fail
  refine (trimmed_det A n c xs w hx hc hm).mono ?_
  rintro e w' ⟨rfl, rfl⟩
  go_wp2_with fail
  refine (trimmed_det B m d ys w hy hd hmd).mono ?_
  rintro e w' ⟨rfl, rfl⟩
  go_wp2_with fail
  refine (divide_any _ _ (L (Limb.val xs)) (L (Limb.val xs)) (L (Limb.val ys)) (L (Limb.val ys)) _ _ w hA.2.2.1 (Nat.le_refl _) (by omega) hB.2.2.1 (Nat.le_refl _) (by omega) (by omega) (by omega) H0.out).mono ?_
  rintro e w1 ⟨A1, n1, c1, B1, m1, d1, rfl, o1, o2, b1⟩
  go_wp2_with fail
  go_ret3
  exact ⟨A1, n1, c1, B1, m1, d1, rfl, o1, o2, b1⟩

theorem lt_pow {w : World} {A : Option Addr} {n k : Nat} {xs : List Nat} (h : Nums w A n xs) (hk : n ≤ k) : Limb.val xs < 4294967296 ^ k := Nat.lt_of_lt_of_le h.lt (Limb.pow_mono hk)
theorem lt_two (a : Nat) (h : L a ≤ 2) : a ≤ 18446744073709551615 := by
  have := lt2 a h
  omega

set_option maxHeartbeats 4000000 in
theorem gcd_any (A B : Option Addr) (n c m d : Nat) (xs ys : List Nat) (w : World) (hx : Nums w A n xs) (hc : n ≤ c) (hm : c ≤ 9223372036854775807) (hn : n ≤ 549755813888) (hy : Nums w B m ys) (hd : m ≤ d) (hmd : d ≤ 9223372036854775807) (hm4 : m ≤ 549755813888) :
    Calls Try.prog 51 #[.slice A n c, .slice B m d] w (CutPost (Nat.gcd (Limb.val xs) (Limb.val ys)) w) := by
  have hA := isCut_det w A xs n hx
  have hB := isCut_det w B ys m hy
  have hdA := trimmed_det A n c xs w hx hc hm
  have hdB := trimmed_det B m d ys w hy hd hmd
  generalize Limb.val xs = a at *
  generalize Limb.val ys = b at *
  have h1 := hA.2.1
  have h2 := hB.2.1
  have hAN := hA.2.2.1
  have hBN := hB.2.2.1
  clear hA hB
  go_enter Try.func51, Try.ntmps51
  go_wp2_with fail
  refine hdA.mono ?_
  rintro e w' ⟨rfl, rfl⟩
  go_wp2_with fail
  refine hdB.mono ?_
  rintro e w' ⟨rfl, rfl⟩
  clear hdA hdB
  go_wp2_with fail
  go_loopg [0, 1] b (fun k va vb wr => ∃ (x : Nat) (P Q : Option Addr) (p pc q qc : Nat), va = .slice P p pc ∧ vb = .slice Q q qc ∧ Nums wr P p (Limb.canon x) ∧ Nums wr Q q (Limb.canon k) ∧ p ≤ pc ∧ pc ≤ 4611686018427387904 ∧ q ≤ qc ∧ qc ≤ 4611686018427387904 ∧ p ≤ 549755813888 ∧ q ≤ 549755813888 ∧ Below w.heap.size w wr ∧ Hid (Nat.gcd x k = Nat.gcd a b))
  case atStart => exact ⟨a, _, _, _, _, _, _, rfl, rfl, hAN, hBN, Nat.le_refl _, by omega, Nat.le_refl _, by omega, by omega, by omega, Below.refl _ _, rfl⟩
  case round =>
    clear hAN hBN
    obtain ⟨x, P, Q, p, pc, q, qc, rfl, rfl, hP, hQ, hpc, hpc9, hqc, hqc9, hp4, hq4, hb, HG⟩ := hrel
    have hlq := hQ.len
    have hlp := hP.len
    have HLQ := Lib.hid hlq
    have HLP := Lib.hid hlp
    clear hlq hlp
    have hq0 : 0 < q → gk ≠ 0 := by
      intro h h0
      have := HLQ.out
      rw [h0, Limb.canon_zero] at this
      simp at this
      omega
    have HQ0 := hide hq0
    clear hq0
    by_cases hgo : (2 < p ∧ 0 < q) ∨ 2 < q
    · have hqp : 0 < q := by omega
      have hk := HQ0.out hqp
      have HK := hide hk
      clear hk
      have hml := Nat.mod_lt x (Nat.pos_of_ne_zero HK.out)
      by_cases h2p : 2 < p
      · clear hgo
        go_wp2_with fail
        refine (divide_any P Q p pc q qc x gk wr hP hpc (by omega) hQ hqc (by omega) hp4 hq4 HK.out).mono ?_
        rintro e w1 ⟨A1, n1, c1, B1, m1, d1, rfl, o1, o2, b1⟩
        have lm : m1 ≤ q := by rw [o2.len, ← HLQ.out]; exact L_mono (Nat.le_of_lt hml)
        go_wp2_with fail
        go_roundg (x % gk)
        case rel => exact ⟨gk, Q, B1, q, qc, m1, d1, rfl, rfl, hQ.below b1, o2.nums, hqc, hqc9, o2.2.1, o2.2.2.1, hq4, by omega, hb.next b1, by show _ = _; rw [← HG.out, Nat.gcd_comm gk, ← Nat.gcd_rec, Nat.gcd_comm]⟩
        case measure => exact hml
      · have h2q : 2 < q := by omega
        clear hgo
        go_wp2_with fail
        refine (divide_any P Q p pc q qc x gk wr hP hpc (by omega) hQ hqc (by omega) hp4 hq4 HK.out).mono ?_
        rintro e w1 ⟨A1, n1, c1, B1, m1, d1, rfl, o1, o2, b1⟩
        have lm : m1 ≤ q := by rw [o2.len, ← HLQ.out]; exact L_mono (Nat.le_of_lt hml)
        go_wp2_with fail
        go_roundg (x % gk)
        case rel => exact ⟨gk, Q, B1, q, qc, m1, d1, rfl, rfl, hQ.below b1, o2.nums, hqc, hqc9, o2.2.1, o2.2.2.1, hq4, by omega, hb.next b1, by show _ = _; rw [← HG.out, Nat.gcd_comm gk, ← Nat.gcd_rec, Nat.gcd_comm]⟩
        case measure => exact hml
    · by_cases hqz : q = 0
      · subst hqz
        have hk0 : gk = 0 := (Limb.canon_len_zero _).1 HLQ.out
        subst hk0
        have hgx : x = Nat.gcd a b := by rw [← HG.out, Nat.gcd_zero_right]
        have HGX := Lib.hid hgx
        clear hgo hgx
        by_cases h2p : 2 < p
        · go_wp2_with fail
          refine (trim_any P p pc _ wr hP hpc (by omega) (by omega)).mono ?_
          rintro e w1 ⟨A1, n1, rfl, o1, b1⟩
          rw [Limb.val_canon, HGX.out] at o1
          go_wp2_with fail
          go_ret
          exact ⟨A1, n1, rfl, o1.mono hb.size, hb.next b1⟩
        · go_wp2_with fail
          refine (trim_any P p pc _ wr hP hpc (by omega) (by omega)).mono ?_
          rintro e w1 ⟨A1, n1, rfl, o1, b1⟩
          rw [Limb.val_canon, HGX.out] at o1
          go_wp2_with fail
          go_ret
          exact ⟨A1, n1, rfl, o1.mono hb.size, hb.next b1⟩
      · have hq2 : q ≤ 2 := by omega
        have hp2 : p ≤ 2 := by omega
        have hqp : 0 < q := by omega
        have hqne : ((q : Int) == 0) = false := by simp; omega
        have hgl := HQ0.out hqp
        have lx := lt_two x (by show L x ≤ 2; have := HLP.out; unfold L; omega)
        have ly := lt_two gk (by show L gk ≤ 2; have := HLQ.out; unfold L; omega)
        clear hgo hqz HQ0
        have LX := hide lx
        have LY := hide ly
        clear lx ly hgl
        obtain ⟨wo, rfl⟩ : ∃ wo : World, wo = wr := ⟨_, rfl⟩
        go_wp2_with fail
        refine (word_any P p pc _ wo hP hp2).mono ?_
        rintro e w' ⟨rfl, rfl⟩
        rw [Limb.val_canon]
        go_wp2_with fail
        refine (word_any Q q qc _ wo hQ hq2).mono ?_
        rintro e w' ⟨rfl, rfl⟩
        rw [Limb.val_canon]
        go_wp2_with fail
        generalize gk = k0 at *
        go_loopg [7, 8] k0 (fun k va vb wr2 => ∃ y : Nat, va = .int .u64 (y : Int) ∧ vb = .int .u64 (k : Int) ∧ Hid (y ≤ 18446744073709551615 ∧ k ≤ 18446744073709551615) ∧ Hid (Nat.gcd y k = Nat.gcd a b) ∧ ∃ z, wr2 = wo.drewN z)
        case atStart => exact ⟨x, rfl, rfl, ⟨LX.out, LY.out⟩, HG.out, 0, rfl⟩
        case round =>
          clear LX LY HG
          obtain ⟨y, rfl, rfl, HB, HG, z, rfl⟩ := hrel
          by_cases hk0 : gk = 0
          · subst hk0
            have hgy : y = Nat.gcd a b := by rw [← HG.out, Nat.gcd_zero_right]
            have HGY := Lib.hid hgy
            clear hgy
            have hyl : y / 4294967296 < 4294967296 := by have := HB.out; omega
            go_wp2_with fail
            refine (of_any y _ hyl).mono ?_
            rintro e w1 ⟨A1, n1, rfl, o1, b1⟩
            rw [HGY.out] at o1
            go_wp2_with fail
            go_ret
            exact ⟨A1, n1, rfl, o1.mono hb.size, (below_drewN hb z).trans (b1.mono hb.size)⟩
          · have hkne : ((gk : Int) != 0) = true := by simp; omega
            have hk1 : (1 : Int) ≤ (gk : Int) := by omega
            have hk2 : ((gk : Int) == 0) = false := by simp; omega
            have hml := Nat.mod_lt y (Nat.pos_of_ne_zero hk0)
            have hmi : (y : Int) % (gk : Int) = ((y % gk : Nat) : Int) := (Int.natCast_emod y gk).symm
            have hwr : IntKind.u64.wrap ((y : Int) % (gk : Int)) = (y : Int) % (gk : Int) := by
              have := HB.out
              rw [hmi]
              generalize y % gk = u at *
              exact IntWalk.u64_in _ ⟨by omega, by omega⟩
            have htm : (y : Int).tmod (gk : Int) = (y : Int) % (gk : Int) := Int.tmod_eq_emod_of_nonneg (by omega)
            have HMI := Lib.hid hmi
            have HML := hide hml
            clear hmi hml hk0
            go_wp2_with fail
            go_quiet (fail)
            go_wp2_with fail
            go_roundg (y % gk)
            case rel => exact ⟨gk, rfl, by rw [HMI.out], ⟨HB.out.2, by have := HML.out; have := HB.out; omega⟩, by show _ = _; rw [← HG.out, Nat.gcd_comm gk, ← Nat.gcd_rec, Nat.gcd_comm], by simp only [World.drewN_drewN]; exact ⟨_, rfl⟩⟩
            case measure => exact HML.out
end Go.Proofs.Ytlihnagfmfpdcaa
