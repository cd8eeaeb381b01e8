/- Texts of one seat, put together: Div Gcd RefDiv BitsAny ZMem. -/
import Derived.Test.YtdeakieenppmiaaGreatDoorC09
import Derived.Test.YtdeakieenppmiaaGreatDoorC05
import Derived.Deep.LoopGhost
import Derived.Test.YtdeakieenppmiaaGreatDoorC01
import Derived.Test.YtdeakieenppmiaaGreatDoorC06
import Derived.Deep.RegionHeld3
set_option linter.unusedVariables false
set_option linter.unusedSimpArgs false
set_option maxRecDepth 100000
set_option maxHeartbeats 16000000
/- nat.divide, nat.Div, nat.Gcd. -/
namespace Go.Proofs.YtdeakieenppmiaaGreatDoor
open Go.RowKit
open Limb (limb limb_lt upto upto_succ upto_all upto_zero)

theorem lt2 (a : Nat) (h : L a ≤ 2) : a / 4294967296 < 4294967296 := by
 have h1 := Nat.lt_of_lt_of_le (lt_L a) (Limb.pow_mono h)
 have : (4294967296 : Nat) ^ 2 = 4294967296 * 4294967296 := by rfl
 rw [this] at h1
 exact Nat.div_lt_of_lt_mul h1

theorem canon_one' (x : Nat) (h0 : x ≠ 0) (h : x < 4294967296) : Limb.canon x = [x] := by
 rw [Limb.canon_pos x h0]
 have e1 : x % 4294967296 = x := by omega
 have e2 : x / 4294967296 = 0 := by omega
 rw [e1, e2, Limb.canon_zero]
theorem divide_any (A B : Option Addr) (n c m d a b : Nat) (w : World) (hx : Nums w A n (Limb.canon a)) (hc : n ≤ c) (hm : c ≤ 9223372036854775807) (hy : Nums w B m (Limb.canon b)) (hd : m ≤ d) (hmd : d ≤ 9223372036854775807) (hn40 : n ≤ 549755813888) (hm40 : m ≤ 549755813888) (hb0 : b ≠ 0) :
   Calls Tryz.prog 117 #[.slice A n c, .slice B m d] w (TwoPost (a / b) (a % b) w) := by
 have hla : L a = n := hx.len
 have hlb : L b = m := hy.len
 have hm1 : 1 ≤ m := by
   rcases Nat.eq_zero_or_pos m with h | h
   · exact absurd ((Limb.canon_len_zero b).1 (by rw [h] at hlb; exact hlb)) hb0
   · exact h
 by_cases h1 : n < m
 · have hab : a < b := Limb.lt_of_len (by show L a < L b; omega)
   have H1 := hide (Nat.div_eq_of_lt hab)
   have H2 := hide (Nat.mod_eq_of_lt hab)
   clear hla hlb
   go_enter Tryz.func117, Tryz.ntmps117
   go_wp2_with fail
   refine (trim_any A n c _ w hx hc hm (by omega)).mono ?_
   rintro e w1 ⟨A1, n1, rfl, o1, b1⟩
   rw [Limb.val_canon] at o1
   go_wp2_with fail
   go_ret2
   exact ⟨none, 0, 0, A1, n1, n1, rfl, by rw [H1.out]; exact Own.zero _ _ _ _ (by omega), by rw [H2.out]; exact o1, b1⟩
 · by_cases h2 : n ≤ 2
   · have ha2 := lt2 a (by omega)
     have hb2 := lt2 b (by omega)
     have hqd : ((a : Int)) / (b : Int) = ((a / b : Nat) : Int) := (Int.natCast_ediv a b).symm
     have hqm : ((a : Int)) % (b : Int) = ((a % b : Nat) : Int) := (Int.natCast_emod a b).symm
     have HQD := Lib.hid hqd
     have HQM := Lib.hid hqm
     clear hqd hqm
     have hl1 : a / b / 4294967296 < 4294967296 := Nat.lt_of_le_of_lt (Nat.div_le_div_right (Nat.div_le_self a b)) ha2
     have hl2 : a % b / 4294967296 < 4294967296 := Nat.lt_of_le_of_lt (Nat.div_le_div_right (Nat.mod_le a b)) ha2
     have hb1 : (1 : Int) ≤ (b : Int) := by omega
     have hwr : IntKind.u64.wrap ((a : Int) / (b : Int)) = (a : Int) / (b : Int) := by
       have e2 := Nat.div_le_self a b
       have e3 : a ≤ 18446744073709551615 := by omega
       rw [HQD.out]
       generalize a / b = t at *
       exact IntWalk.u64_in _ ⟨by omega, by omega⟩
     have htm : (a : Int).tmod (b : Int) = (a : Int) % (b : Int) := Int.tmod_eq_emod_of_nonneg (by omega)
     have hne : ((b : Int) == 0) = false := by simp; omega
     clear hla hlb ha2 hb2
     go_enter Tryz.func117, Tryz.ntmps117
     go_wp2_with fail
     refine (word_any A n c _ w hx h2).mono ?_
     rintro e w' ⟨rfl, rfl⟩
     rw [Limb.val_canon]
     go_wp2_with fail
     refine (word_any B m d _ w hy (by omega)).mono ?_
     rintro e w' ⟨rfl, rfl⟩
     rw [Limb.val_canon]
     go_wp2_with fail
     go_region_with (first
       | (go_at_call 89; (with_reducible refine (of_int ((a : Int) / (b : Int)) (a / b) _ HQD.out hl1).mono ?_); rintro e w1 ⟨A1, n1, rfl, o1, b1⟩)
       | (go_at_call 89; (with_reducible refine (of_int ((a : Int) % (b : Int)) (a % b) _ HQM.out hl2).mono ?_); rintro e w2 ⟨A2, n2, rfl, o2, b2⟩))
     go_wp2_with fail
     go_ret2
     exact ⟨A1, n1, n1, A2, n2, n2, rfl, o1.below b2, o2.mono b1.size, (Below.refl w.heap.size w).drew.next (b1.next b2)⟩
   · have h2' : 2 < n := by omega
     by_cases h3 : m = 1
     · subst h3
       have hbl : b < 4294967296 := by have := lt_L b; rw [hlb, Nat.pow_one] at this; exact this
       have hcb : Limb.canon b = [b] := canon_one' b hb0 hbl
       obtain ⟨g0, o0, t, rfl, htl, hte, htc⟩ := hy.at_ (i := 0) (by omega)
       rw [hcb] at hte
       have htb : t = b := hte
       subst htb
       rw [Nat.add_zero] at htc
       have hy2 := hide hy
       clear hcb hte hy hlb
       go_enter Tryz.func117, Tryz.ntmps117
       go_wp2_with fail
       refine (trim_any A n c _ w hx hc hm (by omega)).mono ?_
       rintro e w1 ⟨A1, n1, rfl, o1, b1⟩
       rw [Limb.val_canon] at o1
       have htc1 := cell_later b1 htc
       have ha0 : a ≠ 0 := by intro h; subst h; have : L 0 = 0 := rfl; omega
       have hrow := o1.trimRow.2 ha0
       have hl1 : n1 = n := by rw [o1.len]; exact hla
       subst hl1
       obtain ⟨g, zs, rfl, hg, hr1, hzok, hzl, hwin⟩ := hrow
       have HW := Lib.hid hwin
       clear hwin hla htc o1
       go_wp2_with fail
       refine (divideBy_any g n1 n1 t zs w1 hr1 hzok hzl (by omega) (by omega) hbl).mono ?_
       rintro e w2 ⟨rfl, hr2, ho2⟩
       rw [HW.out, Limb.val_canon] at hr2
       rw [HW.out, Limb.val_canon]
       go_wp2_with fail
       refine (trimmed_row g n1 _ (a / t) w.heap.size _ _ hr2 (put_ok hzok _ (Limb.fixed_ok _ _)) (by rw [put_length _ _ _ (by rw [Limb.fixed_length]; omega)]; exact hzl) (Nat.le_refl _) (by omega) hg (by
        unfold put
        rw [List.take_zero, List.nil_append, List.take_append_of_le_length (by rw [Limb.fixed_length]; exact Nat.le_refl _), List.take_of_length_le (by rw [Limb.fixed_length]; exact Nat.le_refl _), Limb.fixed_val, Nat.mod_eq_of_lt]
        have := hx.lt
        rw [Limb.val_canon] at this
        exact Nat.lt_of_le_of_lt (Nat.div_le_self _ _) this)).mono ?_
       rintro e w' ⟨A', q', rfl, how, rfl⟩
       go_wp2_with fail
       have hwt : IntKind.u64.wrap ((a : Int) % (t : Int)) = ((a % t : Nat) : Int) := by
        have e1 : (a : Int) % (t : Int) = ((a % t : Nat) : Int) := (Int.natCast_emod a t).symm
        have e2 := Nat.mod_lt a (Nat.pos_of_ne_zero hb0)
        rw [e1]
        generalize a % t = u at *
        exact IntWalk.u64_in _ ⟨by omega, by omega⟩
       refine (of_int (IntKind.u64.wrap ((a : Int) % (t : Int))) (a % t) _ hwt (by have := Nat.mod_lt a (Nat.pos_of_ne_zero hb0); omega)).mono ?_
       clear hwt
       rintro e w4 ⟨A4, n4, rfl, o4, b4⟩
       go_wp2_with fail
       go_ret2
       have hB2 : Below w.heap.size w w2 := b1.trans (ho2.below b1.size hg)
       exact ⟨A', q', q', A4, n4, n4, rfl, how.below b4, o4.mono hB2.size, hB2.next b4⟩
     · obtain ⟨j, rfl⟩ : ∃ j, m = j + 2 := ⟨m - 2, by omega⟩
       clear hla hlb h3
       go_enter Tryz.func117, Tryz.ntmps117
       go_wp2_with fail
       refine (divideLong_any A B n c j d a b w hx hc hm hy hd hmd hn40 (by omega)).mono ?_
       rintro e w1 ⟨A1, n1, c1, B1, m1, d1, rfl, o1, o2, b1⟩
       go_wp2_with fail
       go_ret2
       exact ⟨A1, n1, c1, B1, m1, d1, rfl, o1, o2, b1⟩
end Go.Proofs.YtdeakieenppmiaaGreatDoor
/- nat.Div, nat.Gcd. -/
namespace Go.Proofs.YtdeakieenppmiaaGreatDoor
open Go.RowKit
open Limb (limb limb_lt upto upto_succ upto_all upto_zero)

def DivNoPost (w : World) (e : Ending) (w' : World) : Prop := e = .returned (.tuple #[.slice none 0 0, .slice none 0 0, .int .i64 10]) ∧ w = w'
def DivYesPost (N M : Nat) (w : World) (e : Ending) (w' : World) : Prop :=
 ∃ A n c B m d, e = .returned (.tuple #[.slice A n c, .slice B m d, .int .i64 0]) ∧ Own w' w.heap.size A n c N ∧ Own w' w.heap.size B m d M ∧ Below w.heap.size w w'

theorem div_yes (A B : Option Addr) (n c m d : Nat) (xs ys : List Nat) (w : World) (hx : Nums w A n xs) (hc : n ≤ c) (hm : c ≤ 9223372036854775807) (hn : n ≤ 549755813888) (hy : Nums w B m ys) (hd : m ≤ d) (hmd : d ≤ 9223372036854775807) (hm4 : m ≤ 549755813888) (h0 : Limb.val ys ≠ 0) :
  Calls Tryz.prog 73 #[.slice A n c, .slice B m d] w (DivYesPost (Limb.val xs / Limb.val ys) (Limb.val xs % Limb.val ys) w) := by
 have hA := isCut_det w A xs n hx
 have hB := isCut_det w B ys m hy
 have h1 := hA.2.1
 have h2 := hB.2.1
 have hpos : ((L (Limb.val ys) : Int) == 0) = false := by
  have : L (Limb.val ys) ≠ 0 := fun h => h0 ((Limb.canon_len_zero _).1 h)
  simp; omega
 have H0 := hide h0
 clear h0
 go_enter Tryz.func73, Tryz.ntmps73
 go_wp2_with fail
 refine (trimmed_det A n c xs w hx hc hm).mono ?_
 rintro e w' ⟨rfl, rfl⟩
 go_wp2_with fail
 refine (trimmed_det B m d ys w hy hd hmd).mono ?_
 rintro e w' ⟨rfl, rfl⟩
 go_wp2_with fail
 refine (divide_any _ _ (L (Limb.val xs)) (L (Limb.val xs)) (L (Limb.val ys)) (L (Limb.val ys)) _ _ w hA.2.2.1 (Nat.le_refl _) (by omega) hB.2.2.1 (Nat.le_refl _) (by omega) (by omega) (by omega) H0.out).mono ?_
 rintro e w1 ⟨A1, n1, c1, B1, m1, d1, rfl, o1, o2, b1⟩
 go_wp2_with fail
 go_ret3
 exact ⟨A1, n1, c1, B1, m1, d1, rfl, o1, o2, b1⟩

theorem lt_two (a : Nat) (h : L a ≤ 2) : a ≤ 18446744073709551615 := by
 have := lt2 a h
 omega

theorem gcd_any (A B : Option Addr) (n c m d : Nat) (xs ys : List Nat) (w : World) (hx : Nums w A n xs) (hc : n ≤ c) (hm : c ≤ 9223372036854775807) (hn : n ≤ 549755813888) (hy : Nums w B m ys) (hd : m ≤ d) (hmd : d ≤ 9223372036854775807) (hm4 : m ≤ 549755813888) :
  Calls Tryz.prog 159 #[.slice A n c, .slice B m d] w (CutPost (Nat.gcd (Limb.val xs) (Limb.val ys)) w) := by
 have hA := isCut_det w A xs n hx
 have hB := isCut_det w B ys m hy
 have hdA := trimmed_det A n c xs w hx hc hm
 have hdB := trimmed_det B m d ys w hy hd hmd
 generalize Limb.val xs = a at *
 generalize Limb.val ys = b at *
 have h1 := hA.2.1
 have h2 := hB.2.1
 have hAN := hA.2.2.1
 have hBN := hB.2.2.1
 clear hA hB
 go_enter Tryz.func159, Tryz.ntmps159
 go_wp2_with fail
 refine hdA.mono ?_
 rintro e w' ⟨rfl, rfl⟩
 go_wp2_with fail
 refine hdB.mono ?_
 rintro e w' ⟨rfl, rfl⟩
 clear hdA hdB
 go_wp2_with fail
 go_loopg [0, 1] b (fun k va vb wr => ∃ (x : Nat) (P Q : Option Addr) (p pc q qc : Nat), va = .slice P p pc ∧ vb = .slice Q q qc ∧ Nums wr P p (Limb.canon x) ∧ Nums wr Q q (Limb.canon k) ∧ p ≤ pc ∧ pc ≤ 4611686018427387904 ∧ q ≤ qc ∧ qc ≤ 4611686018427387904 ∧ p ≤ 549755813888 ∧ q ≤ 549755813888 ∧ Below w.heap.size w wr ∧ Hid (Nat.gcd x k = Nat.gcd a b))
 case atStart => exact ⟨a, _, _, _, _, _, _, rfl, rfl, hAN, hBN, Nat.le_refl _, by omega, Nat.le_refl _, by omega, by omega, by omega, Below.refl _ _, rfl⟩
 case round =>
  clear hAN hBN
  obtain ⟨x, P, Q, p, pc, q, qc, rfl, rfl, hP, hQ, hpc, hpc9, hqc, hqc9, hp4, hq4, hb, HG⟩ := hrel
  have hlq := hQ.len
  have hlp := hP.len
  have HLQ := Lib.hid hlq
  have HLP := Lib.hid hlp
  clear hlq hlp
  have hq0 : 0 < q → gk ≠ 0 := by
    intro h h0
    have := HLQ.out
    rw [h0, Limb.canon_zero] at this
    simp at this
    omega
  have HQ0 := hide hq0
  clear hq0
  by_cases hgo : (2 < p ∧ 0 < q) ∨ 2 < q
  · have hqp : 0 < q := by omega
    have hk := HQ0.out hqp
    have HK := hide hk
    clear hk
    have hml := Nat.mod_lt x (Nat.pos_of_ne_zero HK.out)
    by_cases h2p : 2 < p
    · clear hgo
      go_wp2_with fail
      refine (divide_any P Q p pc q qc x gk wr hP hpc (by omega) hQ hqc (by omega) hp4 hq4 HK.out).mono ?_
      rintro e w1 ⟨A1, n1, c1, B1, m1, d1, rfl, o1, o2, b1⟩
      have lm : m1 ≤ q := by rw [o2.len, ← HLQ.out]; exact L_mono (Nat.le_of_lt hml)
      go_wp2_with fail
      go_roundg (x % gk)
      case rel => exact ⟨gk, Q, B1, q, qc, m1, d1, rfl, rfl, hQ.below b1, o2.nums, hqc, hqc9, o2.2.1, o2.2.2.1, hq4, by omega, hb.next b1, by show _ = _; rw [← HG.out, Nat.gcd_comm gk, ← Nat.gcd_rec, Nat.gcd_comm]⟩
      case measure => exact hml
    · have h2q : 2 < q := by omega
      clear hgo
      go_wp2_with fail
      refine (divide_any P Q p pc q qc x gk wr hP hpc (by omega) hQ hqc (by omega) hp4 hq4 HK.out).mono ?_
      rintro e w1 ⟨A1, n1, c1, B1, m1, d1, rfl, o1, o2, b1⟩
      have lm : m1 ≤ q := by rw [o2.len, ← HLQ.out]; exact L_mono (Nat.le_of_lt hml)
      go_wp2_with fail
      go_roundg (x % gk)
      case rel => exact ⟨gk, Q, B1, q, qc, m1, d1, rfl, rfl, hQ.below b1, o2.nums, hqc, hqc9, o2.2.1, o2.2.2.1, hq4, by omega, hb.next b1, by show _ = _; rw [← HG.out, Nat.gcd_comm gk, ← Nat.gcd_rec, Nat.gcd_comm]⟩
      case measure => exact hml
  · by_cases hqz : q = 0
    · subst hqz
      have hk0 : gk = 0 := (Limb.canon_len_zero _).1 HLQ.out
      subst hk0
      have hgx : x = Nat.gcd a b := by rw [← HG.out, Nat.gcd_zero_right]
      have HGX := Lib.hid hgx
      clear hgo hgx
      by_cases h2p : 2 < p
      · go_wp2_with fail
        refine (trim_any P p pc _ wr hP hpc (by omega) (by omega)).mono ?_
        rintro e w1 ⟨A1, n1, rfl, o1, b1⟩
        rw [Limb.val_canon, HGX.out] at o1
        go_wp2_with fail
        go_ret
        exact ⟨A1, n1, rfl, o1.mono hb.size, hb.next b1⟩
      · go_wp2_with fail
        refine (trim_any P p pc _ wr hP hpc (by omega) (by omega)).mono ?_
        rintro e w1 ⟨A1, n1, rfl, o1, b1⟩
        rw [Limb.val_canon, HGX.out] at o1
        go_wp2_with fail
        go_ret
        exact ⟨A1, n1, rfl, o1.mono hb.size, hb.next b1⟩
    · have hq2 : q ≤ 2 := by omega
      have hp2 : p ≤ 2 := by omega
      have hqp : 0 < q := by omega
      have hqne : ((q : Int) == 0) = false := by simp; omega
      have hgl := HQ0.out hqp
      have lx := lt_two x (by show L x ≤ 2; have := HLP.out; unfold L; omega)
      have ly := lt_two gk (by show L gk ≤ 2; have := HLQ.out; unfold L; omega)
      clear hgo hqz HQ0
      have LX := hide lx
      have LY := hide ly
      clear lx ly hgl
      obtain ⟨wo, rfl⟩ : ∃ wo : World, wo = wr := ⟨_, rfl⟩
      go_wp2_with fail
      refine (word_any P p pc _ wo hP hp2).mono ?_
      rintro e w' ⟨rfl, rfl⟩
      rw [Limb.val_canon]
      go_wp2_with fail
      refine (word_any Q q qc _ wo hQ hq2).mono ?_
      rintro e w' ⟨rfl, rfl⟩
      rw [Limb.val_canon]
      go_wp2_with fail
      generalize gk = k0 at *
      go_loopg [7, 8] k0 (fun k va vb wr2 => ∃ y : Nat, va = .int .u64 (y : Int) ∧ vb = .int .u64 (k : Int) ∧ Hid (y ≤ 18446744073709551615 ∧ k ≤ 18446744073709551615) ∧ Hid (Nat.gcd y k = Nat.gcd a b) ∧ ∃ z, wr2 = wo.drewN z)
      case atStart => exact ⟨x, rfl, rfl, ⟨LX.out, LY.out⟩, HG.out, 0, rfl⟩
      case round =>
        clear LX LY HG
        obtain ⟨y, rfl, rfl, HB, HG, z, rfl⟩ := hrel
        by_cases hk0 : gk = 0
        · subst hk0
          have hgy : y = Nat.gcd a b := by rw [← HG.out, Nat.gcd_zero_right]
          have HGY := Lib.hid hgy
          clear hgy
          have hyl : y / 4294967296 < 4294967296 := by have := HB.out; omega
          go_wp2_with fail
          refine (of_any y _ hyl).mono ?_
          rintro e w1 ⟨A1, n1, rfl, o1, b1⟩
          rw [HGY.out] at o1
          go_wp2_with fail
          go_ret
          exact ⟨A1, n1, rfl, o1.mono hb.size, (below_drewN hb z).trans (b1.mono hb.size)⟩
        · have hkne : ((gk : Int) != 0) = true := by simp; omega
          have hk1 : (1 : Int) ≤ (gk : Int) := by omega
          have hk2 : ((gk : Int) == 0) = false := by simp; omega
          have hml := Nat.mod_lt y (Nat.pos_of_ne_zero hk0)
          have hmi : (y : Int) % (gk : Int) = ((y % gk : Nat) : Int) := (Int.natCast_emod y gk).symm
          have hwr : IntKind.u64.wrap ((y : Int) % (gk : Int)) = (y : Int) % (gk : Int) := by
           have := HB.out
           rw [hmi]
           generalize y % gk = u at *
           exact IntWalk.u64_in _ ⟨by omega, by omega⟩
          have htm : (y : Int).tmod (gk : Int) = (y : Int) % (gk : Int) := Int.tmod_eq_emod_of_nonneg (by omega)
          have HMI := Lib.hid hmi
          have HML := hide hml
          clear hmi hml hk0
          go_wp2_with fail
          go_quiet (fail)
          go_wp2_with fail
          go_roundg (y % gk)
          case rel => exact ⟨gk, rfl, by rw [HMI.out], ⟨HB.out.2, by have := HML.out; have := HB.out; omega⟩, by show _ = _; rw [← HG.out, Nat.gcd_comm gk, ← Nat.gcd_rec, Nat.gcd_comm], by simp only [World.drewN_drewN]; exact ⟨_, rfl⟩⟩
          case measure => exact HML.out
end Go.Proofs.YtdeakieenppmiaaGreatDoor
/- plumblineref01: Bits, Bit, twice, Div. -/
namespace Go.Proofs.YtdeakieenppmiaaGreatDoor
open Go.RowKit

def RBitsPost (N : Nat) (w : World) (e : Ending) (w' : World) : Prop := e = .returned (.int .i64 ((Limb.bl N : Nat) : Int)) ∧ Below w.heap.size w w'

theorem canon_top (N k : Nat) (h : (Limb.canon N).length = k + 1) : 0 < Limb.limb (Limb.canon N) k := by
 have hne : Limb.canon N ≠ [] := fun h0 => by rw [h0] at h; cases h
 have ht := Limb.tight_canon N hne
 rw [List.getLast_eq_getElem] at ht
 unfold Limb.limb
 rw [List.getD_eq_getElem?_getD, List.getElem?_eq_getElem (by omega)]
 have e : (Limb.canon N).length - 1 = k := by omega
 simp only [e] at ht
 exact Nat.pos_of_ne_zero ht

theorem rbits_any (A : Option Addr) (n c : Nat) (xs : List Nat) (w : World) (hx : Nums w A n xs) (hn : n ≤ 1099511627776) :
   Calls Tryz.prog 123 #[.slice A n c] w (RBitsPost (Limb.val xs) w) := by
 generalize ha : Limb.val xs = N
 have HA := Lib.hid ha
 clear ha
 go_enter Tryz.func123, Tryz.ntmps123
 go_wp2_with fail
 refine (rtrim_any A n c xs w hx (by omega)).mono ?_
 rintro e w1 ⟨A1, n1, c1, rfl, o1, l1, m1, b1⟩
 rw [HA.out] at o1
 have hl : n1 ≤ n := by
   have h1 := hx.lt
   rw [HA.out] at h1
   exact short_canon o1 h1
 have hlen := hide o1.len
 rcases Nat.eq_zero_or_pos n1 with h0 | h0
 · subst h0
   have hN : Hid (N = 0) := hide ((Limb.canon_len_zero N).1 hlen.out)
   go_wp2_with fail
   go_ret
   exact ⟨by rw [hN.out]; rfl, b1⟩
 · obtain ⟨k, hk⟩ : ∃ k, n1 = k + 1 := ⟨n1 - 1, by omega⟩
   subst hk
   obtain ⟨b, o, x, rfl, hx32, hxe, hcell⟩ := o1.at_ (i := k) (by omega)
   have hx0 := canon_top N k hlen.out
   have hbl := Limb.bl_limbs (Limb.canon N) k (Limb.ok_canon N) hlen.out hx0
   rw [Limb.val_canon] at hbl
   have e1 : Limb.limb (Limb.canon N) k = x := hxe.symm
   rw [e1] at hbl hx0
   have HB := hide hbl
   have HBN := hide (show Limb.bl N ≤ 32 * k + 32 by have := Limb.bl_le x 32 hx32; omega)
   clear hbl e1 hxe
   go_wp2_with fail
   go_loopw [4, 5] (fun p t wr => ∃ q u : Nat, u < 4294967296 ∧ p = .int .i64 (q : Int) ∧ t = .int .u32 (u : Int) ∧ q ≤ 70368744177664 ∧ Hid (Limb.bl N = q + Limb.bl u) ∧ wr = w1) (fun _ t _ => (intOf t).toNat)
   case atStart => exact ⟨32 * k, x, hx32, by go_num, rfl, by omega, HB, rfl⟩
   case round =>
    obtain ⟨q, u, hu, rfl, rfl, hq, HQ, rfl⟩ := hrel
    by_cases hu0 : 0 < u
    · go_wp2_with fail
      go_roundw
      case rel => exact ⟨q + 1, u / 2, by omega, by go_num, by go_num, by have h1 := HQ.out; have h2 := HBN.out; rw [Limb.bl_half u hu0] at h1; omega, hide (by rw [HQ.out, Limb.bl_half u hu0]; omega), trivial⟩
      case measure => simp [intOf]; omega
    · obtain rfl : u = 0 := by omega
      go_wp2_with fail
      go_ret
      exact ⟨by rw [HQ.out]; rfl, b1⟩

theorem rbit_any (A : Option Addr) (n c : Nat) (xs : List Nat) (i : Nat) (w : World) (hx : Nums w A n xs) (hn : n ≤ 1099511627776) (hi : i ≤ 9223372036854775807) :
   Calls Tryz.prog 125 #[.slice A n c, .int .i64 (i : Int)] w (BoolPost (decide (Limb.val xs / 2 ^ i % 2 = 1)) w) := by
 by_cases hin : i < 32 * n
 · obtain ⟨b, o, x, rfl, hx32, hxe, hcell⟩ := hx.at_ (i := i / 32) (by omega)
   have hd := Limb.digit xs hx.ok i
   have e1 : Limb.limb xs (i / 32) = x := hxe.symm
   rw [e1] at hd
   have HD := hide hd
   clear hd e1 hxe
   obtain ⟨j, s, hs, hij⟩ : ∃ j s : Nat, s < 32 ∧ i = 32 * j + s := ⟨i / 32, i % 32, by omega, by omega⟩
   subst hij
   have hj : (32 * j + s) / 32 = j := by omega
   have hsm : (32 * j + s) % 32 = s := by omega
   rw [hsm] at HD
   clear hj hsm
   go_enter Tryz.func125, Tryz.ntmps125
   go_wp2_with fail
   go_loopw [5, 6] (fun v i wr => ∃ k y : Nat, k ≤ s ∧ y < 4294967296 ∧ i = .int .i64 (k : Int) ∧ v = .int .u32 (y : Int) ∧ Hid (y = x / 2 ^ k) ∧ ∃ q, wr = w.drewN q) (fun _ i _ => s - (intOf i).toNat)
   case atStart => exact ⟨0, x, Nat.zero_le _, hx32, rfl, rfl, hide (by simp), 0, rfl⟩
   case round =>
    obtain ⟨k, y, hk, hy, rfl, rfl, HY, q, rfl⟩ := hrel
    by_cases hks : k < s
    · go_wp2_with fail
      go_roundw
      case rel => exact ⟨k + 1, y / 2, by omega, by omega, by go_num, by go_num, hide (by rw [HY.out, Nat.pow_succ, Nat.div_div_eq_div_mul]), q, rfl⟩
      case measure => simp [intOf]; omega
    · obtain rfl : k = s := by omega
      go_wp2_with fail
      go_ret
      refine ⟨?_, q, rfl⟩
      rw [← HD.out, ← HY.out]
      have e : ((y : Int) % 2 == 1) = decide (y % 2 = 1) := by
       by_cases h1 : y % 2 = 1
       · simp [h1]; omega
       · simp [h1]; omega
      show Ending.returned (.bool ((y : Int) % 2 == 1)) = _
      rw [e]
 · have hz : Limb.val xs / 2 ^ i = 0 := by
    refine Nat.div_eq_of_lt (Nat.lt_of_lt_of_le hx.lt ?_)
    rw [Limb.two_pow32]
    exact Nat.pow_le_pow_right (by omega) (by omega)
   have hf : decide (Limb.val xs / 2 ^ i % 2 = 1) = false := by rw [hz]; rfl
   have HF := hide hf
   clear hf hz
   go_enter Tryz.func125, Tryz.ntmps125
   go_wp2_with fail
   all_goals try (exfalso; omega)
   go_ret
   exact ⟨by rw [HF.out]; rfl, 0, rfl⟩

def bitN (b : Bool) : Nat := if b then 1 else 0
theorem rtwice_any (A : Option Addr) (n c : Nat) (xs : List Nat) (b : Bool) (w : World) (hx : Nums w A n xs) (hc : n ≤ c) (hm : c ≤ 9223372036854775807) (hn : n ≤ 1099511627) :
  Calls Tryz.prog 124 #[.slice A n c, .bool b] w (RefPost (2 * Limb.val xs + bitN b) w) := by
 generalize ha : Limb.val xs = N
 have HA := Lib.hid ha
 clear ha
 cases b with
 | false =>
  go_enter Tryz.func124, Tryz.ntmps124
  go_wp2_with fail
  refine (small_any A n c xs 2 w hx (by omega) (by omega)).mono ?_
  rintro e w1 ⟨A1, n1, c1, rfl, o1, l1, m1, b1⟩
  go_wp2_with fail
  go_ret
  exact ⟨A1, n1, c1, rfl, by rw [HA.out, Nat.mul_comm] at o1; exact o1, l1, m1, b1⟩
 | true =>
  go_enter Tryz.func124, Tryz.ntmps124
  go_wp2_with fail
  refine (small_any A n c xs 2 w hx (by omega) (by omega)).mono ?_
  rintro e w1 ⟨A1, n1, c1, rfl, o1, l1, m1, b1⟩
  rw [HA.out, Nat.mul_comm] at o1
  have hl : n1 ≤ n + 1 := by
   have h1 := hx.lt
   rw [HA.out] at h1
   exact short_canon o1 (by rw [Nat.pow_succ]; omega)
  have x1 := lit1 w1 1 1 #[.int .u32 1] rfl (by omega) (by omega) rfl
  have ba := bl_alloc w1 (.cells #[.int .u32 1] 92)
  go_wp2_with fail
  refine (radd_any A1 (some ⟨w1.heap.size, 0, none⟩) n1 c1 1 1 _ _ _ (o1.below ba) x1 (by omega) (by omega)).mono ?_
  rintro e w2 ⟨A2, n2, c2, rfl, o2, l2, m2, b2⟩
  rw [Limb.val_canon, Limb.val_canon] at o2
  go_wp2_with fail
  go_ret
  exact ⟨A2, n2, c2, rfl, o2, l2, m2, (b1.next ba).next b2⟩
end Go.Proofs.YtdeakieenppmiaaGreatDoor
/- nat.Bits; what calls answer. -/
namespace Go.Proofs.YtdeakieenppmiaaGreatDoor
open Go.RowKit
open Limb (limb limb_lt upto upto_succ upto_all upto_zero)

theorem bitLen_bl (x : Nat) (h0 : x ≠ 0) (h : x < 4294967296) : Lib.bitLen x = Limb.bl x := by
 obtain ⟨h1, h2, h3, h4⟩ := bitLen_of x h0 h
 have := Limb.bl_spec x (Lib.bitLen x - 1) h3 (by rw [Nat.sub_add_cancel h1]; exact h4)
 omega
def BitsPost (N : Nat) (w : World) (e : Ending) (w' : World) : Prop := e = .returned (.int .i64 ((Limb.bl N : Nat) : Int)) ∧ w = w'
def Len32Post (x : Nat) (w : World) (e : Ending) (w' : World) : Prop := e = .returned (.int .i64 ((Limb.bl x : Nat) : Int)) ∧ w = w'
theorem len32_any (x : Nat) (w : World) (h0 : x ≠ 0) (h : x < 4294967296) : Calls Tryz.prog 120 #[.int .u32 (x : Int)] w (Len32Post x w) := by
 refine (Tryz.bits_Len32 (x : Int) w (by omega) (by omega)).mono ?_
 rintro e w' ⟨rfl, rfl⟩
 rw [Int.toNat_natCast, bitLen_bl x h0 h]
 exact ⟨rfl, rfl⟩

theorem bits_any (A : Option Addr) (n c : Nat) (xs : List Nat) (w : World) (hx : Nums w A n xs) (hc : n ≤ c) (hm : c ≤ 9223372036854775807) (hb : n ≤ 1099511627776) :
   Calls Tryz.prog 77 #[.slice A n c] w (BitsPost (Limb.val xs) w) := by
 have hcut := isCut_det w A xs n hx
 have hdet := trimmed_det A n c xs w hx hc hm
 generalize Limb.val xs = a at *
 obtain ⟨-, hle, hN, -⟩ := hcut
 unfold TrimDetPost at hdet
 rcases Nat.eq_zero_or_pos (L a) with h0 | h0
 · have ha : Hid (a = 0) := hide ((Limb.canon_len_zero a).1 h0)
   rw [h0] at hdet
   clear h0 hN hle
   go_enter Tryz.func77, Tryz.ntmps77
   go_wp2_with fail
   refine hdet.mono ?_
   rintro e w' ⟨rfl, rfl⟩
   go_wp2_with fail
   go_ret
   exact ⟨by rw [ha.out]; rfl, rfl⟩
 · obtain ⟨k, hk⟩ : ∃ k, L a = k + 1 := ⟨L a - 1, by omega⟩
   rw [hk] at hdet hle hN
   have hk2 : (Limb.canon a).length = k + 1 := hk
   obtain ⟨b, o, x, hA, hx32, hxe, hcell⟩ := hN.at_ (i := k) (by omega)
   have hx0 := canon_top a k hk2
   have hbl := Limb.bl_limbs (Limb.canon a) k (Limb.ok_canon a) hk2 hx0
   rw [Limb.val_canon] at hbl
   have e1 : Limb.limb (Limb.canon a) k = x := hxe.symm
   rw [e1] at hbl hx0
   have HB := hide hbl
   have hblx := Limb.bl_le x 32 hx32
   rw [hA] at hdet
   clear hbl e1 hxe hA hk hk2 hN h0
   go_enter Tryz.func77, Tryz.ntmps77
   go_wp2_with fail
   refine hdet.mono ?_
   rintro e w' ⟨rfl, rfl⟩
   go_wp2_with fail
   refine (len32_any x _ (by omega) hx32).mono ?_
   rintro e w' ⟨rfl, rfl⟩
   go_wp2_with fail
   go_ret
   exact ⟨by rw [HB.out]; go_num, rfl⟩

theorem own_c {w : World} {base : Nat} {A : Option Addr} {n c N : Nat} (o : Own w base A n c N) : n ≤ 4611686018427387904 := by
 have := o.2.1
 have := o.2.2.1
 omega
def LeftPost (N : Nat) (w : World) (e : Ending) (w' : World) : Prop := ∃ A n, e = .returned (.tuple #[.slice A n n, .int .i64 0]) ∧ Own w' w.heap.size A n n N ∧ Below w.heap.size w w'
def ErrPost (k : Int) (w : World) (e : Ending) (w' : World) : Prop := e = .returned (.tuple #[.slice none 0 0, .int .i64 k]) ∧ w = w'
def RefTwoPost (N : Nat) (w : World) (e : Ending) (w' : World) : Prop := ∃ A n c, e = .returned (.tuple #[.slice A n c, .int .i64 0]) ∧ Nums w' A n (Limb.canon N) ∧ n ≤ c ∧ c ≤ 9223372036854775807 ∧ Below w.heap.size w w'
end Go.Proofs.YtdeakieenppmiaaGreatDoor
/- Blocks that hold an api.Int: a parameter's own, a result's own; a store into one, and what a call hands back out of one. -/
namespace Go.Proofs.YtdeakieenppmiaaGreatDoor
open Go.RowKit

/-- Block g holds an api.Int of the cells cs. -/
def Blk (w : World) (g : Nat) (cs : Array Value) : Prop := w.heap[g]? = some (.cells cs 26 (0, 0))
theorem Blk.lt {w : World} {g : Nat} {cs : Array Value} (h : Blk w g cs) : g < w.heap.size := by
 rcases Nat.lt_or_ge g w.heap.size with hlt | hge
 · exact hlt
 · unfold Blk at h; rw [Array.getElem?_eq_none hge] at h; cases h
theorem Blk.c0 {w : World} {g : Nat} {x y : Value} (h : Blk w g #[x, y]) : w.cell? ⟨g, 0, none⟩ = some x := by
 rw [cell_of_row w g 0 _ _ _ h]; rfl
theorem Blk.c1 {w : World} {g : Nat} {x y : Value} (h : Blk w g #[x, y]) : w.cell? ⟨g, 1, none⟩ = some y := by
 rw [cell_of_row w g 1 _ _ _ h]; rfl
theorem Blk.fr {w : World} {g : Nat} {cs : Array Value} (h : Blk w g cs) (i : Nat) : w.frozen? ⟨g, i, none⟩ = false := by
 unfold Blk at h; simp [World.frozen?, h]
theorem Blk.below {w w' : World} {g B : Nat} {cs : Array Value} (h : Blk w g cs) (hb : Below B w w') (hg : g < B) : Blk w' g cs := (hb.block g hg).trans h
theorem Blk.next {w w' : World} {g : Nat} {cs : Array Value} (h : Blk w g cs) (hb : Below w.heap.size w w') : Blk w' g cs := h.below hb h.lt
theorem Blk.new (w : World) (cs : Array Value) : Blk (w.alloc (.cells cs 26)) w.heap.size cs := heap_alloc_new w _
theorem Blk.alloc {w : World} {g : Nat} {cs : Array Value} (h : Blk w g cs) (o : Obj) : Blk (w.alloc o) g cs := h.next (bl_alloc w o)
theorem Blk.drew {w : World} {g : Nat} {cs : Array Value} (h : Blk w g cs) : Blk w.drew g cs := h
theorem Blk.other {w w' : World} {g r : Nat} {cs : Array Value} (h : Blk w g cs) (ho : Only r w w') (hne : g ≠ r) : Blk w' g cs :=
 (ho.block g h.lt (fun hh => hne (by injection hh))).trans h
theorem size_alloc (w : World) (o : Obj) : (w.alloc o).heap.size = w.heap.size + 1 := by
 show (w.heap.push o).size = _
 simp

/-- A fresh block beside what was there. -/
theorem zstart1 (w : World) (X : Array Value) : Blk (w.alloc (.cells X 26)) w.heap.size X ∧ Below w.heap.size w (w.alloc (.cells X 26)) ∧ (w.alloc (.cells X 26)).heap.size = w.heap.size + 1 :=
 ⟨Blk.new w X, bl_alloc w _, size_alloc w _⟩
theorem zstart2 (w : World) (X Y : Array Value) : Blk ((w.alloc (.cells X 26)).alloc (.cells Y 26)) w.heap.size X ∧ Blk ((w.alloc (.cells X 26)).alloc (.cells Y 26)) (w.heap.size + 1) Y ∧
  Below w.heap.size w ((w.alloc (.cells X 26)).alloc (.cells Y 26)) ∧ ((w.alloc (.cells X 26)).alloc (.cells Y 26)).heap.size = w.heap.size + 2 := by
 obtain ⟨h1, h2, h3⟩ := zstart1 w X
 obtain ⟨k1, k2, k3⟩ := zstart1 (w.alloc (.cells X 26)) Y
 rw [h3] at k1 k3
 exact ⟨h1.alloc _, k1, h2.next (bl_alloc _ _), by omega⟩
theorem zstart3 (w : World) (X Y Z : Array Value) : Blk (((w.alloc (.cells X 26)).alloc (.cells Y 26)).alloc (.cells Z 26)) w.heap.size X ∧ Blk (((w.alloc (.cells X 26)).alloc (.cells Y 26)).alloc (.cells Z 26)) (w.heap.size + 1) Y ∧
  Blk (((w.alloc (.cells X 26)).alloc (.cells Y 26)).alloc (.cells Z 26)) (w.heap.size + 1 + 1) Z ∧
  Below w.heap.size w (((w.alloc (.cells X 26)).alloc (.cells Y 26)).alloc (.cells Z 26)) ∧ (((w.alloc (.cells X 26)).alloc (.cells Y 26)).alloc (.cells Z 26)).heap.size = w.heap.size + 3 := by
 obtain ⟨h1, h2, h3, h4⟩ := zstart2 w X Y
 obtain ⟨k1, k2, k3⟩ := zstart1 ((w.alloc (.cells X 26)).alloc (.cells Y 26)) Z
 rw [h4] at k1 k3
 have e2 : w.heap.size + 2 = w.heap.size + 1 + 1 := rfl
 rw [e2] at k1
 exact ⟨h1.alloc _, h2.alloc _, k1, h3.next (bl_alloc _ _), by omega⟩

theorem wpList_store_z {w : World} {ops : Array Oper} {rest : List Oper} {o : Oper} {a : Act} {Q : Exit → Act → World → Prop} (hgd : o.guard = none) (x y : Operand) (ho : o.op = .store 26 x y)
  (g : Nat) (s : Bool) (A : Option Addr) (n c : Nat) (hx : a.eval x = .pointer (some ⟨g, 0, none⟩)) (hy : a.eval y = .agg #[.bool s, .slice A n c]) (u v : Value) (hb : Blk w g #[u, v])
  (h : ∀ w', Blk w' g #[.bool s, .slice A n c] → Only g w w' → wpList Tryz.prog ops Q rest (a.put o.dst undef) w') : wpList Tryz.prog ops Q (o :: rest) a w := by
 refine wpList_store_row hgd 26 x y ho g #[.bool s, .slice A n c] hx hy 26 #[u, v] hb (by kernel_rfl) rfl (by simp [Value.oneCell']) ?_
 refine h _ ?_ (only_setRow w g _)
 have := setRow_heap w g #[u, v] #[.bool s, .slice A n c] _ _ hb
 exact this

theorem Blk.set2 {w : World} {g : Nat} {u v : Value} (h : Blk w g #[u, v]) (x y : Value) : Blk ((w.setCell ⟨g, 0, none⟩ x).setCell ⟨g, 1, none⟩ y) g #[x, y] := by
 unfold Blk at h ⊢
 simp [World.setCell, Array.getElem?_modify, h]
theorem only_set2 (w : World) (g : Nat) (x y : Value) : Only g w ((w.setCell ⟨g, 0, none⟩ x).setCell ⟨g, 1, none⟩ y) := ((Only.refl g w).setCell 0 x).setCell 1 y
theorem bodyPost_z {fn : Func} {R : Ending → World → Prop} {a : Act} {w : World} {g p : Nat} {x y : Value} (hres : fn.results = #[.cell p 26]) (hp : a.tmps.getD p undef = .pointer (some ⟨g, 0, none⟩))
  (hb : Blk w g #[x, y]) (hd : a.defers = []) (hR : R (.returned (.agg #[x, y])) w) : bodyPost Tryz.prog fn R .ret a w :=
 bodyPost_ret (results_cell_row hres _ _ g _ #[x, y] _ _ hp hb Tryz.underlying26 rfl (by kernel_rfl)) hd hR
/-- Limbs are no cells of an api.Int. -/
theorem Nums.offBlk {w : World} {A : Option Addr} {n g : Nat} {xs : List Nat} {s : Bool} {B : Option Addr} {m d : Nat} (h : Nums w A n xs) (hb : Blk w g #[.bool s, .slice B m d]) : 0 < n → Apart A g := by
 intro hn ad had he
 obtain ⟨b, o, e, hc⟩ := h.2.2 hn
 have h0 := hc 0 hn
 rw [had] at e
 injection e with e
 subst e
 have he' : b = g := he
 subst he'
 rw [cell_of_row w b _ _ _ _ hb] at h0
 match o, h0 with
 | 0, h0 => simp at h0
 | 1, h0 => simp at h0
 | o + 2, h0 => simp at h0
theorem Nums.keepBlk {w w' : World} {A : Option Addr} {n g : Nat} {xs : List Nat} {s : Bool} {B : Option Addr} {m d : Nat} (h : Nums w A n xs) (hb : Blk w g #[.bool s, .slice B m d]) (ho : Only g w w') : Nums w' A n xs := h.grown' ho (h.offBlk hb)
end Go.Proofs.YtdeakieenppmiaaGreatDoor
