/- Texts of one seat, put together: Zint ZintB ZintC ZBox. -/
import Derived.Test.YtdeakieenppmiaaGreatDoorC10
set_option linter.unusedVariables false
set_option linter.unusedSimpArgs false
set_option maxRecDepth 100000
set_option maxHeartbeats 16000000
/- zint: what a number with a sign reads as; signed, From, Sign, Neg, Abs, Cmp, Add, Sub, Mul, Min, Max, Of. -/
namespace Go.Proofs.YtdeakieenppmiaaGreatDoor
open Go.RowKit
open Limb (limb limb_lt upto upto_succ upto_all upto_zero)

def sg (s : Bool) (n : Nat) : Int := if s then -(n : Int) else (n : Int)
theorem sg_true (n : Nat) : sg true n = -(n : Int) := rfl
theorem sg_false (n : Nat) : sg false n = (n : Int) := rfl
theorem sg_natAbs (s : Bool) (n : Nat) : (sg s n).natAbs = n := by cases s <;> simp [sg]
theorem sg_zero (s : Bool) : sg s 0 = 0 := by cases s <;> rfl
theorem sg_canon (Z : Int) : sg (decide (Z < 0)) Z.natAbs = Z := by
 by_cases h : Z < 0
 · simp [h, sg]; omega
 · simp [h, sg]; omega
theorem sg_neg (s : Bool) (n : Nat) (h : 0 < n) : decide (sg s n < 0) = s := by cases s <;> simp [sg] <;> omega

/-- The value v reads as Z, of at most k limbs, in whatever form. -/
def ZIn (w : World) (v : Value) (Z : Int) (k : Nat) : Prop := ∃ s A n c xs, v = .agg #[.bool s, .slice A n c] ∧ Nums w A n xs ∧ n ≤ c ∧ c ≤ 9223372036854775807 ∧ n ≤ k ∧ Z = sg s (Limb.val xs)
/-- The value v reads as Z in the form of results. -/
def ZRes (w : World) (v : Value) (Z : Int) (k : Nat) : Prop := ∃ A n c, v = .agg #[.bool (decide (Z < 0)), .slice A n c] ∧ Nums w A n (Limb.canon Z.natAbs) ∧ n ≤ c ∧ c ≤ 9223372036854775807 ∧ n ≤ k
theorem ZRes.form {w : World} {v : Value} {Z : Int} {k : Nat} (h : ZRes w v Z k) : ∃ s A n c, v = .agg #[.bool s, .slice A n c] := by
 obtain ⟨A, n, c, rfl, _⟩ := h
 exact ⟨_, A, n, c, rfl⟩
theorem ZRes.in_ {w : World} {v : Value} {Z : Int} {k : Nat} (h : ZRes w v Z k) : ZIn w v Z k := by
 obtain ⟨A, n, c, rfl, h1, h2, h3, h4⟩ := h
 exact ⟨_, A, n, c, _, rfl, h1, h2, h3, h4, by rw [Limb.val_canon, sg_canon]⟩
theorem ZIn.below {w w' : World} {v : Value} {Z : Int} {k : Nat} (h : ZIn w v Z k) (hb : Below w.heap.size w w') : ZIn w' v Z k := by
 obtain ⟨s, A, n, c, xs, rfl, h1, h2, h3, h4, h5⟩ := h
 exact ⟨s, A, n, c, xs, rfl, h1.below hb, h2, h3, h4, h5⟩
theorem ZRes.below {w w' : World} {v : Value} {Z : Int} {k : Nat} (h : ZRes w v Z k) (hb : Below w.heap.size w w') : ZRes w' v Z k := by
 obtain ⟨A, n, c, rfl, h1, h2, h3, h4⟩ := h
 exact ⟨A, n, c, rfl, h1.below hb, h2, h3, h4⟩
theorem ZIn.mono {w : World} {v : Value} {Z : Int} {k j : Nat} (h : ZIn w v Z k) (hj : k ≤ j) : ZIn w v Z j := by
 obtain ⟨s, A, n, c, xs, rfl, h1, h2, h3, h4, h5⟩ := h
 exact ⟨s, A, n, c, xs, rfl, h1, h2, h3, by omega, h5⟩
theorem ZIn.lt {w : World} {v : Value} {Z : Int} {k : Nat} (h : ZIn w v Z k) : Z.natAbs < 4294967296 ^ k := by
 obtain ⟨s, A, n, c, xs, rfl, h1, h2, h3, h4, rfl⟩ := h
 rw [sg_natAbs]
 exact Nat.lt_of_lt_of_le h1.lt (Limb.pow_mono h4)
theorem ZRes.short {w : World} {v : Value} {Z : Int} {k j : Nat} (h : ZRes w v Z k) (hj : Z.natAbs < 4294967296 ^ j) : ZRes w v Z j := by
 obtain ⟨A, n, c, rfl, h1, h2, h3, h4⟩ := h
 exact ⟨A, n, c, rfl, h1, h2, h3, short_canon h1 hj⟩
theorem ZRes.only {w w' : World} {v : Value} {Z : Int} {k g : Nat} {s : Bool} {B : Option Addr} {m d : Nat} (h : ZRes w v Z k) (hb : Blk w g #[.bool s, .slice B m d]) (ho : Only g w w') : ZRes w' v Z k := by
 obtain ⟨A, n, c, rfl, h1, h2, h3, h4⟩ := h
 exact ⟨A, n, c, rfl, h1.keepBlk hb ho, h2, h3, h4⟩
theorem ZRes.zero (w : World) (k : Nat) : ZRes w (.agg #[.bool false, .slice none 0 0]) 0 k := ⟨none, 0, 0, rfl, Nums.nil _ _, by omega, by omega, by omega⟩
theorem ZRes.ofEq {w : World} {v : Value} {Z Y : Int} {k : Nat} (h : ZRes w v Z k) (e : Z = Y) : ZRes w v Y k := e ▸ h

def ZPost (Z : Int) (k : Nat) (w : World) (e : Ending) (w' : World) : Prop := ∃ v, e = .returned v ∧ ZRes w' v Z k ∧ Below w.heap.size w w'
def SignedPost (s : Bool) (A : Option Addr) (n c N : Nat) (w : World) (e : Ending) (w' : World) : Prop := e = .returned (.agg #[.bool (decide (sg s N < 0)), .slice A n c]) ∧ Below w.heap.size w w'
theorem signed_any (s : Bool) (A : Option Addr) (n c N : Nat) (w : World) (hn : n = (Limb.canon N).length) (hm : n ≤ 9223372036854775807) :
   Calls Tryz.prog 74 #[.bool s, .slice A n c] w (SignedPost s A n c N w) := by
 by_cases h0 : N = 0
 · subst h0
   obtain rfl : n = 0 := hn
   cases s with
   | true =>
    go_enter Tryz.func74, Tryz.ntmps74
    go_wp2_with fail
    refine bodyPost_z rfl rfl (Blk.new _ _) rfl ?_
    exact ⟨rfl, bl_alloc _ _⟩
   | false =>
    go_enter Tryz.func74, Tryz.ntmps74
    go_wp2_with fail
    refine bodyPost_z rfl rfl (Blk.new _ _) rfl ?_
    exact ⟨rfl, bl_alloc _ _⟩
 · have hp : 0 < n := by
    rcases Nat.eq_zero_or_pos n with h | h
    · exact absurd ((Limb.canon_len_zero N).1 (by omega)) h0
    · exact h
   have hs := hide (sg_neg s N (Nat.pos_of_ne_zero h0))
   clear hn h0
   cases s with
   | true =>
    go_enter Tryz.func74, Tryz.ntmps74
    go_wp2_with fail
    refine bodyPost_z rfl rfl (Blk.new _ _) rfl ?_
    exact ⟨by rw [hs.out], bl_alloc _ _⟩
   | false =>
    go_enter Tryz.func74, Tryz.ntmps74
    go_wp2_with fail
    refine bodyPost_z rfl rfl (Blk.new _ _) rfl ?_
    exact ⟨by rw [hs.out], bl_alloc _ _⟩

theorem zback {w w1 w2 : World} {g : Nat} (h1 : Below w.heap.size w w1) (hg : w.heap.size ≤ g) (ho : Only g w1 w2) : Below w.heap.size w w2 := h1.trans (ho.below h1.size hg)
theorem zres_own {w : World} {base : Nat} {A : Option Addr} {n c N k : Nat} {s : Bool} (o : Own w base A n c N) (hN : N < 4294967296 ^ k) : ZRes w (.agg #[.bool (decide (sg s N < 0)), .slice A n c]) (sg s N) k := by
 have := o.2.2.1
 exact ⟨A, n, c, rfl, by rw [sg_natAbs]; exact o.nums, o.2.1, by omega, short_canon o.nums hN⟩

theorem from_any (s : Bool) (A : Option Addr) (n c k : Nat) (xs : List Nat) (w : World) (hx : Nums w A n xs) (hc : n ≤ c) (hm : c ≤ 9223372036854775807) (hk : n ≤ k) (hb : k ≤ 1099511627776) :
  Calls Tryz.prog 121 #[.bool s, .slice A n c] w (ZPost (sg s (Limb.val xs)) k w) := by
 obtain ⟨z1, z2, z3⟩ := zstart1 w #[.bool false, .slice none 0 0]
 have hlt := hide (Nat.lt_of_lt_of_le hx.lt (Limb.pow_mono hk))
 go_enter Tryz.func121, Tryz.ntmps121
 go_wp2_with fail
 refine (trim_any A n c xs _ (hx.below z2) hc hm (by omega)).mono ?_
 rintro e w1 ⟨A1, n1, rfl, o1, b1⟩
 have l1 := own_c o1
 have k1 := z1.next b1
 go_wp2_with fail
 refine (signed_any s A1 n1 n1 (Limb.val xs) w1 o1.len (by omega)).mono ?_
 rintro e w2 ⟨rfl, b2⟩
 have k2 := k1.next b2
 have r2 := (zres_own (s := s) o1 hlt.out).below b2
 go_wp2_with (with_reducible refine wpList_store_z rfl _ _ rfl w.heap.size _ _ _ _ rfl rfl _ _ k2 ?_; intro w3 k3 ho3)
 refine bodyPost_z rfl rfl k3 rfl ?_
 exact ⟨_, rfl, r2.only k2 ho3, zback ((z2.next b1).next b2) (Nat.le_refl _) ho3⟩

def SignPost (Z : Int) (w : World) (e : Ending) (w' : World) : Prop := e = .returned (.int .i64 Z.sign) ∧ Below w.heap.size w w'
theorem sign_z (v : Value) (Z : Int) (k : Nat) (w : World) (hv : ZIn w v Z k) (hk : k ≤ 1099511627776) : Calls Tryz.prog 36 #[v] w (SignPost Z w) := by
 obtain ⟨s, A, n, c, xs, rfl, hx, hc, hm, hn, rfl⟩ := hv
 obtain ⟨z1, z2, z3⟩ := zstart1 w #[.bool s, .slice A n c]
 have hbits := bits_any A n c xs _ (hx.below z2) hc hm (by omega)
 unfold BitsPost at hbits
 generalize Limb.val xs = N at *
 by_cases h0 : N = 0
 · subst h0
   rw [show Limb.bl 0 = 0 from rfl] at hbits
   rw [sg_zero]
   go_enter Tryz.func36, Tryz.ntmps36
   go_wp2_with fail
   refine hbits.mono ?_
   rintro e w' ⟨rfl, rfl⟩
   go_wp2_with fail
   go_ret
   exact ⟨rfl, z2⟩
 · have h1 : ((Limb.bl N : Int) == 0) = false := by
    have := mt (Limb.bl_eq_zero N).1 h0
    simp; omega
   generalize Limb.bl N = q at *
   cases s with
   | true =>
    have hs : Hid (Int.sign (sg true N) = -1) := by show _ = _; rw [sg_true]; exact Int.sign_eq_neg_one_of_neg (by omega)
    go_enter Tryz.func36, Tryz.ntmps36
    go_wp2_with fail
    refine hbits.mono ?_
    rintro e w' ⟨rfl, rfl⟩
    go_wp2_with fail
    go_ret
    exact ⟨by rw [hs.out]; rfl, z2⟩
   | false =>
    have hs : Hid (Int.sign (sg false N) = 1) := by show _ = _; rw [sg_false]; exact Int.sign_eq_one_of_pos (by omega)
    go_enter Tryz.func36, Tryz.ntmps36
    go_wp2_with fail
    refine hbits.mono ?_
    rintro e w' ⟨rfl, rfl⟩
    go_wp2_with fail
    go_ret
    exact ⟨by rw [hs.out]; rfl, z2⟩

theorem sg_not (s : Bool) (n : Nat) : sg (!s) n = -sg s n := by cases s <;> simp [sg]
theorem neg_z (v : Value) (Z : Int) (k : Nat) (w : World) (hv : ZIn w v Z k) (hk : k ≤ 1099511627776) : Calls Tryz.prog 78 #[v] w (ZPost (-Z) k w) := by
 obtain ⟨s, A, n, c, xs, rfl, hx, hc, hm, hn, rfl⟩ := hv
 obtain ⟨z0, z1, z2, z3⟩ := zstart2 w #[.bool s, .slice A n c] #[.bool false, .slice none 0 0]
 have hf := from_any (!s) A n c k xs _ (hx.below z2) hc hm hn hk
 rw [sg_not] at hf
 go_enter Tryz.func78, Tryz.ntmps78
 go_wp2_with fail
 refine hf.mono ?_
 rintro e w1 ⟨v1, rfl, r1, b1⟩
 obtain ⟨s1, A1, n1, c1, rfl⟩ := r1.form
 have k1 := z1.next b1
 go_wp2_with (with_reducible refine wpList_store_z rfl _ _ rfl (w.heap.size + 1) _ _ _ _ rfl rfl _ _ k1 ?_; intro w3 k3 ho3)
 refine bodyPost_z rfl rfl k3 rfl ?_
 exact ⟨_, rfl, r1.only k1 ho3, zback (z2.next b1) (by omega) ho3⟩
theorem abs_z (v : Value) (Z : Int) (k : Nat) (w : World) (hv : ZIn w v Z k) (hk : k ≤ 1099511627776) : Calls Tryz.prog 108 #[v] w (ZPost (Z.natAbs : Int) k w) := by
 obtain ⟨s, A, n, c, xs, rfl, hx, hc, hm, hn, rfl⟩ := hv
 rw [sg_natAbs]
 obtain ⟨z0, z1, z2, z3⟩ := zstart2 w #[.bool s, .slice A n c] #[.bool false, .slice none 0 0]
 have hf := from_any false A n c k xs _ (hx.below z2) hc hm hn hk
 go_enter Tryz.func108, Tryz.ntmps108
 go_wp2_with fail
 refine hf.mono ?_
 rintro e w1 ⟨v1, rfl, r1, b1⟩
 obtain ⟨s1, A1, n1, c1, rfl⟩ := r1.form
 have k1 := z1.next b1
 go_wp2_with (with_reducible refine wpList_store_z rfl _ _ rfl (w.heap.size + 1) _ _ _ _ rfl rfl _ _ k1 ?_; intro w3 k3 ho3)
 refine bodyPost_z rfl rfl k3 rfl ?_
 exact ⟨_, rfl, r1.only k1 ho3, zback (z2.next b1) (by omega) ho3⟩
end Go.Proofs.YtdeakieenppmiaaGreatDoor
/- zint: Cmp, Add, Sub, Mul, Min, Max. -/
namespace Go.Proofs.YtdeakieenppmiaaGreatDoor
open Go.RowKit
open Limb (limb limb_lt upto upto_succ upto_all upto_zero)

def CmpZPost (Z Y : Int) (w : World) (e : Ending) (w' : World) : Prop := e = .returned (.int .i64 (sgn3 Z Y)) ∧ Below w.heap.size w w'
theorem sgn3_lt {a b : Int} (h : a < b) : sgn3 a b = -1 := by unfold sgn3; rw [if_pos h]
theorem sgn3_gt {a b : Int} (h : b < a) : sgn3 a b = 1 := by unfold sgn3; rw [if_neg (by omega), if_pos h]
theorem sgn3_sign (Z Y : Int) (h : Z.sign ≠ Y.sign) : sgn3 Z.sign Y.sign = sgn3 Z Y := by
 have key : (Z.sign < Y.sign ∧ Z < Y) ∨ (Y.sign < Z.sign ∧ Y < Z) := by
   rcases Int.lt_trichotomy Z 0 with h1 | h1 | h1 <;> rcases Int.lt_trichotomy Y 0 with h2 | h2 | h2
   all_goals
    first
    | rw [Int.sign_eq_neg_one_of_neg h1] at h ⊢
    | rw [Int.sign_eq_one_of_pos h1] at h ⊢
    | rw [h1, Int.sign_zero] at h ⊢
    first
    | rw [Int.sign_eq_neg_one_of_neg h2] at h ⊢
    | rw [Int.sign_eq_one_of_pos h2] at h ⊢
    | rw [h2, Int.sign_zero] at h ⊢
    first
    | exact absurd rfl h
    | omega
 rcases key with ⟨k1, k2⟩ | ⟨k1, k2⟩
 · rw [sgn3_lt k1, sgn3_lt k2]
 · rw [sgn3_gt k1, sgn3_gt k2]
theorem sgn3_neg (N M : Nat) : cmpN M N = sgn3 (sg true N) (sg true M) := by
 unfold cmpN sgn3
 rw [sg_true, sg_true]
 split <;> split <;> (try split) <;> omega
theorem sgn3_mix (s t : Bool) (N M : Nat) (hs : (sg s N).sign = (sg t M).sign) (h : ¬ (sg s N).sign < 0) : cmpN N M = sgn3 (sg s N) (sg t M) := by
 have e1 : sg s N = (N : Int) := by
  cases s with
  | false => rfl
  | true =>
   have : ¬ (sg true N < 0) := fun hh => h (by rw [Int.sign_eq_neg_one_of_neg hh]; omega)
   rw [sg_true] at this ⊢
   omega
 have e2 : sg t M = (M : Int) := by
  cases t with
  | false => rfl
  | true =>
   have : ¬ (sg true M < 0) := fun hh => h (by rw [hs, Int.sign_eq_neg_one_of_neg hh]; omega)
   rw [sg_true] at this ⊢
   omega
 rw [e1, e2]
 rfl
theorem sgn3_both (s t : Bool) (N M : Nat) (hs : (sg s N).sign = (sg t M).sign) (h : (sg s N).sign < 0) : cmpN M N = sgn3 (sg s N) (sg t M) := by
 have e1 : s = true := by
  cases s with
  | true => rfl
  | false => exfalso; have := Int.sign_nonneg_iff.2 (show (0 : Int) ≤ sg false N by rw [sg_false]; omega); omega
 have e2 : t = true := by
  cases t with
  | true => rfl
  | false => exfalso; have := Int.sign_nonneg_iff.2 (show (0 : Int) ≤ sg false M by rw [sg_false]; omega); omega
 subst e1 e2
 exact sgn3_neg N M
theorem sign_range (Z : Int) : -1 ≤ Z.sign ∧ Z.sign ≤ 1 := by
 rcases Int.lt_trichotomy Z 0 with h1 | h1 | h1
 · rw [Int.sign_eq_neg_one_of_neg h1]; omega
 · subst h1; rw [Int.sign_zero]; omega
 · rw [Int.sign_eq_one_of_pos h1]; omega

theorem cmp_z (v u : Value) (Z Y : Int) (k : Nat) (w : World) (hv : ZIn w v Z k) (hu : ZIn w u Y k) (hk : k ≤ 1099511627776) : Calls Tryz.prog 96 #[v, u] w (CmpZPost Z Y w) := by
 have hr1 := sign_range Z
 have hr2 := sign_range Y
 have hv0 := hv
 have hu0 := hu
 obtain ⟨s, A, n, c, xs, rfl, hx, hc, hm, hn, hZ⟩ := hv
 obtain ⟨t, B, m, d, ys, rfl, hy, hd, hmd, hmk, hY⟩ := hu
 obtain ⟨x0, y0, z2, -⟩ := zstart2 w #[.bool s, .slice A n c] #[.bool t, .slice B m d]
 have hs1 := sign_z _ Z k _ (hv0.below z2) hk
 by_cases hs : Z.sign = Y.sign
 · by_cases hneg : Z.sign < 0
   · have HF := hide (show cmpN (Limb.val ys) (Limb.val xs) = sgn3 Z Y by subst hZ hY; exact sgn3_both s t _ _ hs hneg)
     have hne : (Z.sign != Z.sign) = false := by simp
     have HS := hide hs.symm
     clear hZ hY hs
     have hs2 : ∀ w1, Below _ _ w1 → Calls Tryz.prog 36 #[.agg #[.bool t, .slice B m d]] w1 (SignPost Y w1) := fun w1 hb => sign_z _ Y k w1 ((hu0.below z2).below hb) hk
     unfold SignPost at hs1 hs2
     rw [HS.out] at hs2
     generalize Z.sign = q at *
     have HS2 := hide hs2
     clear hs2
     go_enter Tryz.func96, Tryz.ntmps96
     go_wp2_with fail
     refine hs1.mono ?_
     rintro e w1 ⟨rfl, b1⟩
     have x1 := x0.next b1
     have y1 := y0.next b1
     have x1a := x1.c0
     have x1b := x1.c1
     have y1a := y1.c0
     have y1b := y1.c1
     go_wp2_with fail
     refine (HS2.out w1 b1).mono ?_
     rintro e w2 ⟨rfl, b2⟩
     have x2 := x1.next b2
     have y2 := y1.next b2
     have x2a := x2.c0
     have x2b := x2.c1
     have y2a := y2.c0
     have y2b := y2.c1
     have t2 := (z2.next b1).next b2
     clear hs1
     go_wp2_with fail
     refine (cmp_any B A m d n c ys xs w2 (hy.below t2) hd hmd (hx.below t2) hc hm).mono ?_
     rintro e w3 ⟨rfl, hw3⟩
     have b3 : Below w2.heap.size w2 w3 := by obtain ⟨j, rfl⟩ := hw3; exact bl_drewN w2 j
     clear hw3
     go_wp2_with fail
     go_ret
     exact ⟨by rw [HF.out]; rfl, t2.next b3⟩
   · have HF := hide (show cmpN (Limb.val xs) (Limb.val ys) = sgn3 Z Y by subst hZ hY; exact sgn3_mix s t _ _ hs hneg)
     have hne : (Z.sign != Z.sign) = false := by simp
     have HS := hide hs.symm
     clear hZ hY hs
     have hs2 : ∀ w1, Below _ _ w1 → Calls Tryz.prog 36 #[.agg #[.bool t, .slice B m d]] w1 (SignPost Y w1) := fun w1 hb => sign_z _ Y k w1 ((hu0.below z2).below hb) hk
     unfold SignPost at hs1 hs2
     rw [HS.out] at hs2
     generalize Z.sign = q at *
     have HS2 := hide hs2
     clear hs2
     go_enter Tryz.func96, Tryz.ntmps96
     go_wp2_with fail
     refine hs1.mono ?_
     rintro e w1 ⟨rfl, b1⟩
     have x1 := x0.next b1
     have y1 := y0.next b1
     have x1a := x1.c0
     have x1b := x1.c1
     have y1a := y1.c0
     have y1b := y1.c1
     go_wp2_with fail
     refine (HS2.out w1 b1).mono ?_
     rintro e w2 ⟨rfl, b2⟩
     have x2 := x1.next b2
     have y2 := y1.next b2
     have x2a := x2.c0
     have x2b := x2.c1
     have y2a := y2.c0
     have y2b := y2.c1
     have t2 := (z2.next b1).next b2
     clear hs1
     go_wp2_with fail
     refine (cmp_any A B n c m d xs ys w2 (hx.below t2) hc hm (hy.below t2) hd hmd).mono ?_
     rintro e w3 ⟨rfl, hw3⟩
     have b3 : Below w2.heap.size w2 w3 := by obtain ⟨j, rfl⟩ := hw3; exact bl_drewN w2 j
     clear hw3
     go_wp2_with fail
     go_ret
     exact ⟨by rw [HF.out]; rfl, t2.next b3⟩
 · have HF := hide (sgn3_sign _ _ hs)
   have hne : (Z.sign != Y.sign) = true := by simpa using hs
   have HS2 := hide (fun w1 (hb : Below _ _ w1) => sign_z _ Y k w1 ((hu0.below z2).below hb) hk)
   clear hZ hY hs
   go_enter Tryz.func96, Tryz.ntmps96
   go_wp2_with fail
   refine hs1.mono ?_
   rintro e w1 ⟨rfl, b1⟩
   have x1 := x0.next b1
   have y1 := y0.next b1
   have x1a := x1.c0
   have x1b := x1.c1
   have y1a := y1.c0
   have y1b := y1.c1
   go_wp2_with fail
   refine (HS2.out w1 b1).mono ?_
   rintro e w2 ⟨rfl, b2⟩
   have x2 := x1.next b2
   have y2 := y1.next b2
   have x2a := x2.c0
   have x2b := x2.c1
   have y2a := y2.c0
   have y2b := y2.c1
   have t2 := (z2.next b1).next b2
   clear hs1
   go_wp2_with fail
   refine (sign_z _ Y k w2 (hu0.below t2) hk).mono ?_
   rintro e w3 ⟨rfl, b3⟩
   go_wp2_with fail
   refine (compare_int Z.sign Y.sign w3).mono ?_
   rintro e w' ⟨rfl, rfl⟩
   go_wp2_with fail
   go_ret
   exact ⟨by rw [HF.out]; rfl, t2.next b3⟩
end Go.Proofs.YtdeakieenppmiaaGreatDoor
/- zint: Add, Sub, Mul, Min, Max. -/
namespace Go.Proofs.YtdeakieenppmiaaGreatDoor
open Go.RowKit
open Limb (limb limb_lt upto upto_succ upto_all upto_zero)

theorem sg_add (s : Bool) (N M : Nat) : sg s (N + M) = sg s N + sg s M := by cases s <;> simp [sg] <;> omega
theorem sg_sub (s t : Bool) (N M : Nat) (h : s ≠ t) (hle : M ≤ N) : sg s (N - M) = sg s N + sg t M := by
 cases s <;> cases t <;> simp [sg] at * <;> omega
theorem sg_mul (s t : Bool) (N M : Nat) : sg (!(s == t)) (N * M) = sg s N * sg t M := by
 cases s <;> cases t <;> simp [sg, Int.neg_mul, Int.mul_neg]

theorem bleK {w w' : World} (h : ∃ k, w' = w.drewN k) : Below w.heap.size w w' := by obtain ⟨k, rfl⟩ := h; exact bl_drewN w k
theorem ble_of {w W w' : World} (hb : Below w.heap.size w W) (h : ∃ k, w' = W.drewN k) : Below w.heap.size w w' := hb.next (bleK h)
theorem add_z (v u : Value) (Z Y : Int) (k : Nat) (w : World) (hv : ZIn w v Z k) (hu : ZIn w u Y k) (hk : k ≤ 137438953472) : Calls Tryz.prog 76 #[v, u] w (ZPost (Z + Y) (k + 1) w) := by
 have hlv := hide hv.lt
 have hlu := hide hu.lt
 obtain ⟨s, A, n, c, xs, rfl, hx, hc, hm, hn, rfl⟩ := hv
 obtain ⟨t, B, m, d, ys, rfl, hy, hd, hmd, hmk, rfl⟩ := hu
 rw [sg_natAbs] at hlv hlu
 obtain ⟨x0, y0, r0, z2, -⟩ := zstart3 w #[.bool s, .slice A n c] #[.bool t, .slice B m d] #[.bool false, .slice none 0 0]
 by_cases hst : s = t
 · subst hst
   rw [← sg_add]
   have heq : (s == s) = true := by simp
   have hl := hide (add_lt _ _ _ hlv.out hlu.out)
   go_enter Tryz.func76, Tryz.ntmps76
   go_wp2_with fail
   go_region_held3 (fun w' => w'.cell? ⟨w.heap.size, 0, none⟩ = some (.bool s) ∧ w'.cell? ⟨w.heap.size, 1, none⟩ = some (.slice A n c) ∧ w'.cell? ⟨w.heap.size + 1, 1, none⟩ = some (.slice B m d))
     (first | exact ⟨x0.drew.c0, x0.drew.c1, y0.drew.c1⟩ | exact ⟨x1.c0, x1.c1, y1.c1⟩ | exact ⟨x2.c0, x2.c1, y2.c1⟩ | exact ⟨(x2.other (only_set2 _ _ _ _) (by omega)).c0, (x2.other (only_set2 _ _ _ _) (by omega)).c1, (y2.other (only_set2 _ _ _ _) (by omega)).c1⟩)
     (first
      | (go_at_call 118; (with_reducible refine (add_any A B n c m d xs ys _ (hx.below z2).drew hc hm (by omega) (hy.below z2).drew hd hmd (by omega)).mono ?_); rintro e w1 ⟨A1, n1, rfl, o1, b1⟩; have l1 := own_c o1; have x1 := x0.drew.next b1; have y1 := y0.drew.next b1)
      | (go_at_call 74; (with_reducible refine (signed_any s A1 n1 n1 _ w1 o1.len (by omega)).mono ?_); rintro e w2 ⟨rfl, b2⟩; have x2 := x1.next b2; have y2 := y1.next b2; have k2 := (r0.drew.next b1).next b2; have k2a := k2.c0; have k2b := k2.c1; have k2c := k2.fr 0; have k2d := k2.fr 1))
   go_wp2_with fail
   refine bodyPost_z rfl rfl (k2.set2 _ _) rfl ?_
   exact ⟨_, rfl, ((zres_own o1 hl.out).below b2).only k2 (only_set2 _ _ _ _), zback ((z2.drew.next b1).next b2) (by omega) (only_set2 _ _ _ _)⟩
 · have hne : (s == t) = false := by simpa using hst
   by_cases hle : Limb.val ys ≤ Limb.val xs
   · rw [← sg_sub s t _ _ hst hle]
     have hl := hide (show Limb.val xs - Limb.val ys < 4294967296 ^ (k + 1) from Nat.lt_of_le_of_lt (Nat.sub_le _ _) (Nat.lt_of_lt_of_le hlv.out (Limb.pow_mono (by omega))))
     clear hst
     go_enter Tryz.func76, Tryz.ntmps76
     go_wp2_with fail
     refine (sub_yes A B n c m d xs ys _ (hx.below z2) hc hm (by omega) (hy.below z2) hd hmd hle).mono ?_
     rintro e w1 ⟨A1, n1, rfl, o1, b1⟩
     have hn1 := own_c o1
     have x1 := (x0.next b1).c0
     go_wp2_with fail
     refine (signed_any s A1 n1 n1 _ w1 o1.len (by omega)).mono ?_
     rintro e w2 ⟨rfl, b2⟩
     have k2 := (r0.next b1).next b2
     go_wp2_with (with_reducible refine wpList_store_z rfl _ _ rfl (w.heap.size + 1 + 1) _ _ _ _ rfl rfl _ _ k2 ?_; intro w3 k3 ho3)
     refine bodyPost_z rfl rfl k3 rfl ?_
     exact ⟨_, rfl, ((zres_own o1 hl.out).below b2).only k2 ho3, zback ((z2.next b1).next b2) (by omega) ho3⟩
   · rw [Int.add_comm, ← sg_sub t s _ _ (Ne.symm hst) (by omega)]
     have hl := hide (show Limb.val ys - Limb.val xs < 4294967296 ^ (k + 1) from Nat.lt_of_le_of_lt (Nat.sub_le _ _) (Nat.lt_of_lt_of_le hlu.out (Limb.pow_mono (by omega))))
     clear hst
     go_enter Tryz.func76, Tryz.ntmps76
     go_wp2_with fail
     refine (sub_no A B n c m d xs ys _ (hx.below z2) hc hm (hy.below z2) hd hmd (by omega)).mono ?_
     rintro e w1 ⟨rfl, hw1⟩
     have b1 := ble_of z2 hw1
     have c1 := bleK hw1
     clear hw1
     have x1 := x0.next c1
     have y1 := y0.next c1
     have x1a := x1.c1
     have y1a := y1.c0
     have y1b := y1.c1
     go_wp2_with fail
     refine (sub_yes B A m d n c ys xs _ (hy.below b1) hd hmd (by omega) (hx.below b1) hc hm (by omega)).mono ?_
     rintro e w2 ⟨A1, n1, rfl, o1, b2⟩
     have hn1 := own_c o1
     have y2 := (y1.next b2).c0
     go_wp2_with fail
     refine (signed_any t A1 n1 n1 _ w2 o1.len (by omega)).mono ?_
     rintro e w3 ⟨rfl, b3⟩
     have k3 := ((r0.next c1).next b2).next b3
     go_wp2_with (with_reducible refine wpList_store_z rfl _ _ rfl (w.heap.size + 1 + 1) _ _ _ _ rfl rfl _ _ k3 ?_; intro w4 k4 ho4)
     refine bodyPost_z rfl rfl k4 rfl ?_
     exact ⟨_, rfl, ((zres_own o1 hl.out).below b3).only k3 ho4, zback ((b1.next b2).next b3) (by omega) ho4⟩

theorem ZIn.neg {w : World} {s : Bool} {A : Option Addr} {n c k : Nat} {xs : List Nat} (hx : Nums w A n xs) (hc : n ≤ c) (hm : c ≤ 9223372036854775807) (hn : n ≤ k) : ZIn w (.agg #[.bool (!s), .slice A n c]) (-sg s (Limb.val xs)) k :=
 ⟨!s, A, n, c, xs, rfl, hx, hc, hm, hn, (sg_not s _).symm⟩
theorem sub_z (v u : Value) (Z Y : Int) (k : Nat) (w : World) (hv : ZIn w v Z k) (hu : ZIn w u Y k) (hk : k ≤ 137438953472) : Calls Tryz.prog 75 #[v, u] w (ZPost (Z - Y) (k + 1) w) := by
 have hv0 := hv
 obtain ⟨s, A, n, c, xs, rfl, -⟩ := hv
 obtain ⟨t, B, m, d, ys, rfl, hy, hd, hmd, hmk, rfl⟩ := hu
 obtain ⟨x0, y0, r0, z2, -⟩ := zstart3 w #[.bool s, .slice A n c] #[.bool (!t), .slice B m d] #[.bool false, .slice none 0 0]
 have ha := add_z _ _ Z _ k _ (hv0.below z2) (ZIn.neg (s := t) (hy.below z2) hd hmd hmk) hk
 rw [← Int.sub_eq_add_neg] at ha
 go_enter Tryz.func75, Tryz.ntmps75
 go_wp2_with fail
 refine ha.mono ?_
 rintro e w1 ⟨v1, rfl, r1, b1⟩
 obtain ⟨s1, A1, n1, c1, rfl⟩ := r1.form
 have k1 := r0.next b1
 go_wp2_with (with_reducible refine wpList_store_z rfl _ _ rfl (w.heap.size + 1 + 1) _ _ _ _ rfl rfl _ _ k1 ?_; intro w3 k3 ho3)
 refine bodyPost_z rfl rfl k3 rfl ?_
 exact ⟨_, rfl, r1.only k1 ho3, zback (z2.next b1) (by omega) ho3⟩
theorem mul_z (v u : Value) (Z Y : Int) (k j : Nat) (w : World) (hv : ZIn w v Z k) (hu : ZIn w u Y j) (hk : k ≤ 137438953472) (hj : j ≤ 137438953472) : Calls Tryz.prog 97 #[v, u] w (ZPost (Z * Y) (k + j) w) := by
 have hlv := hide hv.lt
 have hlu := hide hu.lt
 obtain ⟨s, A, n, c, xs, rfl, hx, hc, hm, hn, rfl⟩ := hv
 obtain ⟨t, B, m, d, ys, rfl, hy, hd, hmd, hmk, rfl⟩ := hu
 rw [sg_natAbs] at hlv hlu
 have hl := hide (mul_lt_pow _ _ _ _ hlv.out hlu.out)
 rw [← sg_mul]
 obtain ⟨x0, y0, r0, z2, -⟩ := zstart3 w #[.bool s, .slice A n c] #[.bool t, .slice B m d] #[.bool false, .slice none 0 0]
 go_enter Tryz.func97, Tryz.ntmps97
 go_wp2_with fail
 go_region_held3 (fun w' => w'.cell? ⟨w.heap.size, 0, none⟩ = some (.bool s) ∧ w'.cell? ⟨w.heap.size, 1, none⟩ = some (.slice A n c) ∧ w'.cell? ⟨w.heap.size + 1, 0, none⟩ = some (.bool t) ∧ w'.cell? ⟨w.heap.size + 1, 1, none⟩ = some (.slice B m d))
  (first | exact ⟨x0.drew.c0, x0.drew.c1, y0.drew.c0, y0.drew.c1⟩ | exact ⟨x1.c0, x1.c1, y1.c0, y1.c1⟩ | exact ⟨x2.c0, x2.c1, y2.c0, y2.c1⟩ | exact ⟨(x2.other (only_set2 _ _ _ _) (by omega)).c0, (x2.other (only_set2 _ _ _ _) (by omega)).c1, (y2.other (only_set2 _ _ _ _) (by omega)).c0, (y2.other (only_set2 _ _ _ _) (by omega)).c1⟩)
  (first
   | (go_at_call 140; (with_reducible refine (mul_any A B n c m d xs ys _ (hx.below z2).drew hc hm (hy.below z2).drew hd hmd (by omega)).mono ?_); rintro e w1 ⟨A1, n1, rfl, o1, b1⟩; have l1 := own_c o1; have x1 := x0.drew.next b1; have y1 := y0.drew.next b1)
   | (go_at_call 74; (with_reducible refine (signed_any (!(s == t)) A1 n1 n1 _ w1 o1.len (by omega)).mono ?_); rintro e w2 ⟨rfl, b2⟩; have x2 := x1.next b2; have y2 := y1.next b2; have k2 := (r0.drew.next b1).next b2; have k2a := k2.c0; have k2b := k2.c1; have k2c := k2.fr 0; have k2d := k2.fr 1))
 go_wp2_with fail
 refine bodyPost_z rfl rfl (k2.set2 _ _) rfl ?_
 exact ⟨_, rfl, ((zres_own o1 hl.out).below b2).only k2 (only_set2 _ _ _ _), zback ((z2.drew.next b1).next b2) (by omega) (only_set2 _ _ _ _)⟩

end Go.Proofs.YtdeakieenppmiaaGreatDoor
/- The boxes of a law's numbers, as a list: where each lies and what it holds. -/
namespace Go.Proofs.YtdeakieenppmiaaGreatDoor
open Go.RowKit

/-- Nothing that was there in w has turned in W, and the boxes of L lie in W, all of them new since w. -/
def Keeps (w : World) (L : List (Nat × Value × Value)) (W : World) : Prop := Below w.heap.size w W ∧ ∀ p ∈ L, Blk W p.1 #[p.2.1, p.2.2] ∧ w.heap.size ≤ p.1
variable {w W W' : World} {L : List (Nat × Value × Value)} {g : Nat} {a b : Value}
theorem Keeps.old (h : Keeps w L W) : Below w.heap.size w W := h.1
theorem Keeps.blk (h : Keeps w L W) (hm : (g, a, b) ∈ L) : Blk W g #[a, b] := (h.2 _ hm).1
theorem Keeps.nil (h : Below w.heap.size w W) : Keeps w [] W := ⟨h, fun p hp => by cases hp⟩
theorem Keeps.add (h : Keeps w L W) (hb : Blk W g #[a, b]) (hg : w.heap.size ≤ g) : Keeps w ((g, a, b) :: L) W :=
 ⟨h.1, fun p hp => by
  rcases List.mem_cons.1 hp with rfl | hp
  · exact ⟨hb, hg⟩
  · exact h.2 p hp⟩
theorem Keeps.drew (h : Keeps w L W) : Keeps w L W.drew := ⟨h.1.drew, fun p hp => h.2 p hp⟩
theorem Keeps.call (h : Keeps w L W) (k : Below W.heap.size W W') : Keeps w L W' := ⟨h.1.next k, fun p hp => ⟨(h.2 p hp).1.next k, (h.2 p hp).2⟩⟩
theorem Keeps.far (h : Keeps w L W) (ho : Only g W W') (hg : w.heap.size ≤ g) (hne : ∀ p ∈ L, p.1 ≠ g) : Keeps w L W' :=
 ⟨zback h.1 hg ho, fun p hp => ⟨(h.2 p hp).1.other ho (hne p hp), (h.2 p hp).2⟩⟩
theorem Keeps.lt (h : Keeps w L W) : ∀ p ∈ L, p.1 < W.heap.size := fun p hp => (h.2 p hp).1.lt
theorem Keeps.size (h : Keeps w L W) : w.heap.size ≤ W.heap.size := h.1.size
/-- A number is what it was behind stores into boxes. -/
theorem ZRes.set2 {v : Value} {Z : Int} {k : Nat} {s : Bool} {B : Option Addr} {m d : Nat} (h : ZRes W v Z k) (hb : Blk W g #[.bool s, .slice B m d]) (x y : Value) : ZRes ((W.setCell ⟨g, 0, none⟩ x).setCell ⟨g, 1, none⟩ y) v Z k := h.only hb (only_set2 W g x y)
/-- The same, where a region began at B cells' blocks: what it makes lies behind them. -/
def KeepsB (w : World) (B : Nat) (L : List (Nat × Value × Value)) (W : World) : Prop := Keeps w L W ∧ B ≤ W.heap.size ∧ w.heap.size ≤ B ∧ ∀ p ∈ L, p.1 < B
variable {B : Nat}
theorem Keeps.begin (h : Keeps w L W) : KeepsB w W.heap.size L W := ⟨h, Nat.le_refl _, h.size, h.lt⟩
theorem KeepsB.keeps (h : KeepsB w B L W) : Keeps w L W := h.1
theorem KeepsB.old (h : KeepsB w B L W) : Below w.heap.size w W := h.1.1
theorem KeepsB.size (h : KeepsB w B L W) : B ≤ W.heap.size := h.2.1
theorem KeepsB.drew (h : KeepsB w B L W) : KeepsB w B L W.drew := ⟨h.1.drew, h.2⟩
theorem KeepsB.call (h : KeepsB w B L W) (k : Below W.heap.size W W') : KeepsB w B L W' := ⟨h.1.call k, Nat.le_trans h.2.1 k.size, h.2.2⟩
theorem KeepsB.alloc (h : KeepsB w B L W) (o : Obj) : KeepsB w B L (W.alloc o) := h.call (bl_alloc W o)
theorem KeepsB.far (h : KeepsB w B L W) (ho : Only g W W') (hg : B ≤ g) : KeepsB w B L W' :=
 ⟨h.1.far ho (by have := h.2.2.1; omega) (fun p hp => by have := h.2.2.2 p hp; omega), Nat.le_trans h.2.1 (ho.below (B := 0) (Nat.zero_le _) (Nat.zero_le _)).size, h.2.2⟩
/-- Both cells of a box are written. -/
def st2 (W : World) (g : Nat) (x y : Value) : World := (W.setCell ⟨g, 0, none⟩ x).setCell ⟨g, 1, none⟩ y
theorem st2_def (W : World) (g : Nat) (x y : Value) : (W.setCell ⟨g, 0, none⟩ x).setCell ⟨g, 1, none⟩ y = st2 W g x y := rfl
theorem KeepsB.st (h : KeepsB w B L W) (x y : Value) (hg : B ≤ g) : KeepsB w B L (st2 W g x y) := h.far (only_set2 W g x y) hg
theorem st2_size (W : World) (g : Nat) (x y : Value) : (st2 W g x y).heap.size = W.heap.size := by simp [st2, World.setCell]
theorem Blk.newAt (W : World) (cs : Array Value) (h : g = W.heap.size) : Blk (W.alloc (.cells cs 26)) g cs := h ▸ Blk.new W cs
theorem Blk.stSame {x y : Value} (h : Blk W g #[.bool false, .slice none 0 0]) : Blk (st2 W g x y) g #[x, y] := h.set2 x y
theorem Blk.stOther {k : Nat} {cs : Array Value} {x y : Value} (h : Blk W k cs) (hne : k ≠ g) : Blk (st2 W g x y) k cs := h.other (only_set2 W g x y) hne
theorem ZRes.alloc {v : Value} {Z : Int} {k : Nat} (h : ZRes W v Z k) (o : Obj) : ZRes (W.alloc o) v Z k := h.below (bl_alloc W o)
theorem ZRes.st {v : Value} {Z : Int} {k : Nat} {s : Bool} {A : Option Addr} {m d : Nat} {x y : Value} (h : ZRes W v Z k) (hb : Blk W g #[.bool s, .slice A m d]) : ZRes (st2 W g x y) v Z k := h.set2 hb x y
theorem KeepsB.add1 (h : KeepsB w B L W) (hg : Blk W g #[a, b]) (h0 : B ≤ g) : Keeps w ((g, a, b) :: L) W := h.1.add hg (Nat.le_trans h.2.2.1 h0)
theorem KeepsB.mk2 {g k : Nat} {a' b' : Value} (h : Keeps w [(g, a, b), (k, a', b')] W) (h1 : B ≤ W.heap.size) (h2 : w.heap.size ≤ B) (h3 : g < B) (h4 : k < B) : KeepsB w B [(g, a, b), (k, a', b')] W :=
 ⟨h, h1, h2, fun p hp => by
  rcases List.mem_cons.1 hp with rfl | hp
  · exact h3
  · rcases List.mem_cons.1 hp with rfl | hp
    · exact h4
    · cases hp⟩
theorem Keeps.tail {p : Nat × Value × Value} (h : Keeps w (p :: L) W) : Keeps w L W := ⟨h.1, fun q hq => h.2 q (List.Mem.tail _ hq)⟩
end Go.Proofs.YtdeakieenppmiaaGreatDoor
