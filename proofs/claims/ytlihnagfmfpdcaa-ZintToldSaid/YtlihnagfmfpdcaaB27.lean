/- Texts of one seat, put together: CeilZ ParseZ Bytes Text. -/
import Derived.Test.YtlihnagfmfpdcaaB26
import Derived.Test.YtlihnagfmfpdcaaB15
import Derived.Test.YtlihnagfmfpdcaaB19
import Derived.Test.YtlihnagfmfpdcaaB22
import Derived.Test.YtlihnagfmfpdcaaB05
import Derived.Test.YtlihnagfmfpdcaaB14
import Derived.Laws.BytesArg
/- zint: Ceil, Exact, Hat. -/
namespace Go.Proofs.Ytlihnagfmfpdcaa
open Go.RowKit

def ZErr (k : Int) (w : World) (e : Ending) (w' : World) : Prop := e = .returned (.tuple #[.agg #[.bool false, .slice none 0 0], .int .i64 k]) ∧ Below w.heap.size w w'
def ZOk (Z : Int) (k : Nat) (w : World) (e : Ending) (w' : World) : Prop := ∃ v, e = .returned (.tuple #[v, .int .i64 0]) ∧ ZRes w' v Z k ∧ Below w.heap.size w w'

set_option maxHeartbeats 1000000 in
theorem ceil_no (v u : Value) (Z : Int) (k j : Nat) (w : World) (hv : ZIn w v Z k) (hu : ZIn w u 0 j) : Calls Try.prog 83 #[v, u] w (ZErr 10 w) := by
  have hv0 := hv
  have hu0 := hu
  obtain ⟨s, A, n, c, xs, rfl, -⟩ := hv
  obtain ⟨t, B, m, d, ys, rfl, -⟩ := hu
  obtain ⟨x0, y0, r0, z2, -⟩ := zstart3 w #[.bool s, .slice A n c] #[.bool t, .slice B m d] #[.bool false, .slice none 0 0]
  have hd := zdiv_no _ _ Z k j _ (hv0.below z2) (hu0.below z2)
  go_enter Try.func83, Try.ntmps83
  go_wp2_with fail
  refine hd.mono ?_
  rintro e w1 ⟨rfl, b1⟩
  have k1 := r0.next b1
  have k2 := hide ((k1.alloc (.cells #[.bool false, .slice none 0 0] 38)).alloc (.cells #[.bool false, .slice none 0 0] 38))
  have t2 := hide (((z2.next b1).next (bl_alloc w1 (.cells #[.bool false, .slice none 0 0] 38))).next (bl_alloc _ (.cells #[.bool false, .slice none 0 0] 38)))
  go_wp2_with (with_reducible refine wpList_store_z rfl _ _ rfl (w.heap.size + 1 + 1) _ _ _ _ rfl rfl _ _ k2.out ?_; intro w3 k3 ho3)
  exact bodyPost_ze rfl rfl rfl k3 rfl ⟨rfl, zback t2.out (by omega) ho3⟩

theorem sign_ne {Z : Int} (h : Z ≠ 0) : (Z.sign == 0) = false := by simpa using h
set_option maxHeartbeats 2000000 in
theorem ceil_yes (v u : Value) (Z Y : Int) (k j : Nat) (w : World) (hv : ZIn w v Z k) (hu : ZIn w u Y j) (hY : Y ≠ 0) (hk : k ≤ 68719476736) (hj : j ≤ 68719476736) : Calls Try.prog 83 #[v, u] w (ZOk (cdiv Z Y) (k + 3) w) := by
  have hv0 := hv
  have hu0 := hu
  obtain ⟨s, A, n, c, xs, rfl, -⟩ := hv
  obtain ⟨t, B, m, d, ys, rfl, -⟩ := hu
  obtain ⟨x0, y0, r0, z2, -⟩ := zstart3 w #[.bool s, .slice A n c] #[.bool t, .slice B m d] #[.bool false, .slice none 0 0]
  have hd := zdiv_yes _ _ Z Y k j _ (hv0.below z2) (hu0.below z2) hY hk hj
  have hce := hide (cdiv_eq Z Y hY)
  clear hY
  go_enter Try.func83, Try.ntmps83
  go_wp2_with fail
  refine hd.mono ?_
  rintro e w1 ⟨u1, v1, rfl, zq, zr, b1⟩
  obtain ⟨s1, A1, n1, c1, rfl⟩ := zq.form
  obtain ⟨s2, A2, n2, c2, rfl⟩ := zr.form
  have q2 := (Blk.new w1 #[.bool s1, .slice A1 n1 c1]).alloc (.cells #[.bool s2, .slice A2 n2 c2] 38)
  have k2 := ((r0.next b1).alloc (.cells #[.bool s1, .slice A1 n1 c1] 38)).alloc (.cells #[.bool s2, .slice A2 n2 c2] 38)
  have t2 := ((z2.next b1).next (bl_alloc w1 (.cells #[.bool s1, .slice A1 n1 c1] 38))).next (bl_alloc _ (.cells #[.bool s2, .slice A2 n2 c2] 38))
  have zq2 := (zq.alloc (.cells #[.bool s1, .slice A1 n1 c1] 38)).alloc (.cells #[.bool s2, .slice A2 n2 c2] 38)
  have zr2 := (zr.alloc (.cells #[.bool s1, .slice A1 n1 c1] 38)).alloc (.cells #[.bool s2, .slice A2 n2 c2] 38)
  have hne := r0.lt
  have hsz := b1.size
  have hs := sign_z _ _ j _ zr2.in_ (by omega)
  unfold SignPost at hs
  have H2 := hide (And.intro q2 (And.intro k2 (And.intro t2 zq2)))
  clear hd q2 k2 t2 zq2 zr2 zq zr
  by_cases h0 : Z.fmod Y = 0
  · rw [if_pos h0] at hce
    rw [h0, Int.sign_zero] at hs
    clear h0
    go_wp2_with fail
    refine hs.mono ?_
    rintro e w3 ⟨rfl, b3⟩
    have q3 := H2.out.1.next b3
    have q3a := q3.c0
    have q3b := q3.c1
    have k3 := hide (H2.out.2.1.next b3)
    have t3 := hide (H2.out.2.2.1.next b3)
    have z3 := hide (H2.out.2.2.2.below b3)
    clear hs H2
    go_wp2_with (with_reducible refine wpList_store_z rfl _ _ rfl (w.heap.size + 1 + 1) _ _ _ _ rfl rfl _ _ k3.out ?_; intro w4 k4 ho4)
    refine bodyPost_ze rfl rfl rfl k4 rfl ⟨_, rfl, ?_, zback t3.out (by omega) ho4⟩
    have z4 := (z3.out.only k3.out ho4).ofEq hce.out.symm
    obtain ⟨A5, n5, c5, e5, h51, h52, h53, h54⟩ := z4
    exact ⟨A5, n5, c5, e5, h51, h52, h53, by omega⟩
  · rw [if_neg h0] at hce
    have hsn := sign_ne h0
    generalize (Z.fmod Y).sign = sgn at *
    clear h0
    go_wp2_with fail
    refine hs.mono ?_
    rintro e w3 ⟨rfl, b3⟩
    have q3 := H2.out.1.next b3
    have q3d := q3.drew
    have q3a := q3d.c0
    have q3b := q3d.c1
    have k3 := hide (H2.out.2.1.next b3)
    have t3 := hide (H2.out.2.2.1.next b3)
    have z3 := hide (H2.out.2.2.2.below b3)
    clear hs H2
    go_wp2_with fail
    go_region_with (first
      | (go_at_call 64; (with_reducible refine (of_z 1 _ (by omega) (by omega)).mono ?_); rintro e w5 ⟨v5, rfl, z5, b5⟩; have q5 := q3d.next b5; have q5a := q5.c0; have q5b := q5.c1; have z5q := (z3.out.below (bl_drewN _ 1)).below b5)
      | (go_at_call 40; (with_reducible refine (add_z _ _ _ 1 (k + 2) _ (z5q.in_.mono (by omega)) (z5.in_.mono (by omega)) (by omega)).mono ?_); rintro e w6 ⟨v6, rfl, z6, b6⟩; replace z6 := z6.ofEq hce.out.symm; obtain ⟨s6, A6, n6, c6, rfl⟩ := z6.form; have q6 := q5.next b6; have q6a := q6.c0; have q6b := q6.c1; have q6c := q6.fr 0; have q6d := q6.fr 1))
    all_goals
      simp only [st2_def]
      have k6 := (((k3.out.drew).next b5).next b6).stOther (x := .bool s6) (y := .slice A6 n6 c6) (g := w1.heap.size) (by omega)
      have q7 := q6.set2 (.bool s6) (.slice A6 n6 c6)
      rw [st2_def] at q7
      have z7 := z6.st (x := .bool s6) (y := .slice A6 n6 c6) q6
      have t6 := zback ((t3.out.drew.next b5).next b6) (by omega) (only_set2 w6 w1.heap.size (.bool s6) (.slice A6 n6 c6))
      rw [st2_def] at t6
      generalize st2 w6 w1.heap.size (.bool s6) (.slice A6 n6 c6) = W7 at *
      clear q6a q6b q6c q6d q5a q5b q3a q3b
      have q7a := q7.c0
      have q7b := q7.c1
      go_wp2_with (with_reducible refine wpList_store_z rfl _ _ rfl (w.heap.size + 1 + 1) _ _ _ _ rfl rfl _ _ k6 ?_; intro w8 k8 ho8)
      exact bodyPost_ze rfl rfl rfl k8 rfl ⟨_, rfl, z7.only k6 ho8, zback t6 (by omega) ho8⟩
end Go.Proofs.Ytlihnagfmfpdcaa
/- Parse, of both packages and of both references, at every text: what error, what number. -/
namespace Go.Proofs.Ytlihnagfmfpdcaa
open Go.RowKit

instance (s : ByteArray) : Decidable (allDig s) := by unfold allDig; infer_instance
def pcode (r : ByteArray) : Int := if 4000 < r.size then 2 else if allDig r ∧ r.size ≠ 0 then 0 else 20
def pval (r : ByteArray) : Nat := if pcode r = 0 then numOf r r.size else 0
theorem pval_bad {r : ByteArray} (h : pcode r ≠ 0) : pval r = 0 := by unfold pval; rw [if_neg h]
theorem limbs_cap (N k j : Nat) (hN : N < 10 ^ k) (hk : k ≤ 4000) (hj : 446 ≤ j) : N < 4294967296 ^ j := by
  obtain ⟨M, hM⟩ : ∃ M : Nat, M = 4000 := ⟨_, rfl⟩
  refine Nat.lt_of_lt_of_le hN (Nat.le_of_lt (Nat.lt_of_le_of_lt (Nat.pow_le_pow_right (by omega) (show k ≤ M by omega)) (Nat.lt_of_lt_of_le (Dec.limbs_room M) (Nat.pow_le_pow_right (by omega) (by omega)))))
theorem pval_lt (r : ByteArray) (j : Nat) (hj : 446 ≤ j) : pval r < 4294967296 ^ j := by
  unfold pval
  split
  · rename_i h
    unfold pcode at h
    split at h
    · omega
    · rename_i hl
      split at h
      · rename_i hd
        exact limbs_cap _ r.size j (numOf_lt r hd.1 _ (Nat.le_refl _)) (by omega) hj
      · omega
  · exact Nat.pow_pos (by omega)
def ParsePost (r : ByteArray) (w : World) (e : Ending) (w' : World) : Prop := ∃ A n, e = .returned (.tuple #[.slice A n n, .int .i64 (pcode r)]) ∧ Own w' w.heap.size A n n (pval r) ∧ Below w.heap.size w w'
theorem parse_all (r : ByteArray) (w : World) (hs : r.size ≤ 9223372036854775807) : Calls Try.prog 16 #[.string r] w (ParsePost r w) := by
  unfold ParsePost
  by_cases h1 : 4000 < r.size
  · have e1 : pcode r = 2 := by unfold pcode; rw [if_pos h1]
    refine (parse_long r w h1 hs).mono ?_
    rintro e w' ⟨rfl, hb⟩
    rw [e1, pval_bad (by rw [e1]; omega)]
    exact ⟨none, 0, rfl, Own.zero _ _ _ _ (by omega), hb⟩
  · by_cases h2 : allDig r ∧ r.size ≠ 0
    · have e1 : pcode r = 0 := by unfold pcode; rw [if_neg h1, if_pos h2]
      have e2 : pval r = numOf r r.size := by unfold pval; rw [if_pos e1]
      rw [e1, e2]
      exact parse_ok r w (by omega) h2.1 h2.2
    · have e1 : pcode r = 20 := by unfold pcode; rw [if_neg h1, if_neg h2]
      refine (parse_form r w (by omega) h2).mono ?_
      rintro e w' ⟨rfl, hb⟩
      rw [e1, pval_bad (by rw [e1]; omega)]
      exact ⟨none, 0, rfl, Own.zero _ _ _ _ (by omega), hb⟩
def RParsePost (r : ByteArray) (w : World) (e : Ending) (w' : World) : Prop := ∃ A n c, e = .returned (.tuple #[.slice A n c, .int .i64 (pcode r)]) ∧ Nums w' A n (Limb.canon (pval r)) ∧ n ≤ c ∧ c ≤ 9223372036854775807 ∧ Below w.heap.size w w'
theorem rparse_all (r : ByteArray) (w : World) (hs : r.size ≤ 9223372036854775807) : Calls Try.prog 17 #[.string r] w (RParsePost r w) := by
  unfold RParsePost
  by_cases h1 : 4000 < r.size
  · have e1 : pcode r = 2 := by unfold pcode; rw [if_pos h1]
    refine (rparse_long r w h1 hs).mono ?_
    rintro e w' ⟨rfl, hb⟩
    rw [e1, pval_bad (by rw [e1]; omega), Limb.canon_zero]
    exact ⟨none, 0, 0, rfl, Nums.nil _ _, by omega, by omega, hb⟩
  · refine (rparse_any r w (by omega)).mono ?_
    intro e w' hp
    by_cases h2 : allDig r ∧ r.size ≠ 0
    · have e1 : pcode r = 0 := by unfold pcode; rw [if_neg h1, if_pos h2]
      have e2 : pval r = numOf r r.size := by unfold pval; rw [if_pos e1]
      rw [e1, e2]
      exact hp.1 h2
    · have e1 : pcode r = 20 := by unfold pcode; rw [if_neg h1, if_neg h2]
      obtain ⟨rfl, hb⟩ := hp.2 h2
      rw [e1, pval_bad (by rw [e1]; omega), Limb.canon_zero]
      exact ⟨none, 0, 0, rfl, Nums.nil _ _, by omega, by omega, hb⟩
theorem body_size (s : ByteArray) : (body s).size ≤ s.size := by
  unfold body
  split
  · simp
  · exact Nat.le_refl _
def zval (s : ByteArray) : Int := sg (dash s) (pval (body s))
def zcode (s : ByteArray) : Int := pcode (body s)
def ZParsePost (s : ByteArray) (w : World) (e : Ending) (w' : World) : Prop := ∃ v k, e = .returned (.tuple #[v, .int .i64 (zcode s)]) ∧ ZRes w' v (zval s) k ∧ k ≤ 500 ∧ Below w.heap.size w w'
set_option maxHeartbeats 1000000 in
theorem zparse_all (s : ByteArray) (w : World) (hs : s.size ≤ 9223372036854775807) : Calls Try.prog 33 #[.string s] w (ZParsePost s w) := by
  obtain ⟨z1, z2, z3⟩ := zstart1 w #[.bool false, .slice none 0 0]
  have hb := body_size s
  have hcut := cut_any s (w.alloc (.cells #[.bool false, .slice none 0 0] 38)) hs
  have HP := hide (fun W => parse_all (body s) W (by omega))
  obtain ⟨k, hk⟩ : ∃ k : Nat, k = 446 := ⟨_, rfl⟩
  have hlt := hide (pval_lt (body s) k (by omega))
  have hZ := hide (show zval s = sg (dash s) (pval (body s)) from rfl)
  have hC := hide (show zcode s = pcode (body s) from rfl)
  have hk5 : k ≤ 500 := by omega
  unfold CutDash at hcut
  generalize body s = r at *
  generalize dash s = neg at *
  clear hb hk
  go_enter Try.func33, Try.ntmps33
  go_wp2_with fail
  refine hcut.mono ?_
  rintro e w' ⟨rfl, rfl⟩
  clear hcut
  go_wp2_with fail
  refine (HP.out _).mono ?_
  rintro e w1 ⟨A1, n1, rfl, o1, b1⟩
  have l1 := own_c o1
  have k1 := z1.next b1
  generalize pcode r = q at *
  go_wp2_with fail
  refine (signed_any neg A1 n1 n1 (pval r) w1 o1.len (by omega)).mono ?_
  rintro e w2 ⟨rfl, b2⟩
  have k2 := k1.next b2
  have r2 := (zres_own (s := neg) o1 hlt.out).below b2
  go_wp2_with (with_reducible refine wpList_store_z rfl _ _ rfl w.heap.size _ _ _ _ rfl rfl _ _ k2 ?_; intro w3 k3 ho3)
  exact bodyPost_ze rfl rfl rfl k3 rfl ⟨_, k, by rw [hC.out]; rfl, (r2.only k2 ho3).ofEq hZ.out.symm, hk5, zback ((z2.next b1).next b2) (Nat.le_refl _) ho3⟩

set_option maxHeartbeats 1000000 in
theorem rzparse_all (s : ByteArray) (w : World) (hs : s.size ≤ 9223372036854775807) : Calls Try.prog 34 #[.string s] w (ZParsePost s w) := by
  obtain ⟨z1, z2, z3⟩ := zstart1 w #[.bool false, .slice none 0 0]
  have hb := body_size s
  have HP := hide (fun W => rparse_all (body s) W (by omega))
  obtain ⟨k, hk⟩ : ∃ k : Nat, k = 446 := ⟨_, rfl⟩
  have hlt := hide (pval_lt (body s) k (by omega))
  have hZ := hide (show zval s = sg (dash s) (pval (body s)) from rfl)
  have hC := hide (show zcode s = pcode (body s) from rfl)
  have hbad := hide (fun h => pval_bad (r := body s) h)
  have hk5 : k ≤ 500 := by omega
  have hcase : (s.size = 0 ∧ dash s = false ∧ body s = s) ∨ (∃ h0 : 0 < s.size, (((s[0]'h0).toNat : Int) == 45) = false ∧ dash s = false ∧ body s = s) ∨ (∃ h0 : 0 < s.size, (((s[0]'h0).toNat : Int) == 45) = true ∧ dash s = true ∧ body s = s.extract 1 s.size) := by
    rcases Nat.eq_zero_or_pos s.size with h0 | h0
    · have hn : ¬ Dash s := fun h => by have := h.1; omega
      exact Or.inl ⟨h0, decide_eq_false hn, if_neg hn⟩
    · right
      have hbe := byteAt_eq s 0 h0
      by_cases h1 : byteAt s 0 = 45
      · have hd : Dash s := ⟨h0, h1⟩
        exact Or.inr ⟨h0, by simp only [beq_iff_eq]; omega, decide_eq_true hd, if_pos hd⟩
      · have hn : ¬ Dash s := fun h => h1 h.2
        exact Or.inl ⟨h0, by simp only [beq_eq_false_iff_ne]; omega, decide_eq_false hn, if_neg hn⟩
  rcases hcase with ⟨h0, h1, h2⟩ | ⟨h0, hc, h1, h2⟩ | ⟨h0, hc, h1, h2⟩
  · rw [h1, h2] at hZ
    rw [h2] at hC hlt HP hbad
    clear h1 h2 hb
    go_enter Try.func34, Try.ntmps34
    go_wp2_with fail
    refine (HP.out _).mono ?_
    rintro e w1 ⟨A1, n1, c1, rfl, o1, l1, m1, b1⟩
    have k1 := z1.next b1
    have t1 := z2.next b1
    by_cases hq : pcode s = 0
    · rw [hq] at hC
      rw [hq]
      clear hq hbad
      go_wp2_with fail
      refine (rfrom_any false A1 n1 c1 k _ w1 o1 (short_canon o1 hlt.out) (by omega)).mono ?_
      rintro e w2 ⟨v2, rfl, r2, b2⟩
      rw [Limb.val_canon] at r2
      obtain ⟨s2, A2, n2, c2, rfl⟩ := r2.form
      have k2 := k1.next b2
      go_wp2_with (with_reducible refine wpList_store_z rfl _ _ rfl w.heap.size _ _ _ _ rfl rfl _ _ k2 ?_; intro w3 k3 ho3)
      exact bodyPost_ze rfl rfl rfl k3 rfl ⟨_, k, by rw [hC.out]; rfl, (r2.only k2 ho3).ofEq hZ.out.symm, hk5, zback (t1.next b2) (Nat.le_refl _) ho3⟩
    · have hv := hbad.out hq
      have hq2 : (pcode s == 0) = false := by simpa using hq
      have hq3 : (pcode s != 0) = true := by simpa using hq
      rw [hv] at hZ
      clear hq hbad hv
      generalize pcode s = q at *
      go_wp2_with (with_reducible refine wpList_store_z rfl _ _ rfl w.heap.size _ _ _ _ rfl rfl _ _ k1 ?_; intro w3 k3 ho3)
      exact bodyPost_ze rfl rfl rfl k3 rfl ⟨_, k, by rw [hC.out]; rfl, (ZRes.zero w3 k).ofEq (by rw [hZ.out, sg_zero]), hk5, zback t1 (Nat.le_refl _) ho3⟩
  · rw [h1, h2] at hZ
    rw [h2] at hC hlt HP hbad
    clear h1 h2 hb
    go_enter Try.func34, Try.ntmps34
    go_wp2_with fail
    refine (HP.out _).mono ?_
    rintro e w1 ⟨A1, n1, c1, rfl, o1, l1, m1, b1⟩
    have k1 := z1.next b1
    have t1 := z2.next b1
    by_cases hq : pcode s = 0
    · rw [hq] at hC
      rw [hq]
      clear hq hbad
      go_wp2_with fail
      refine (rfrom_any false A1 n1 c1 k _ w1 o1 (short_canon o1 hlt.out) (by omega)).mono ?_
      rintro e w2 ⟨v2, rfl, r2, b2⟩
      rw [Limb.val_canon] at r2
      obtain ⟨s2, A2, n2, c2, rfl⟩ := r2.form
      have k2 := k1.next b2
      go_wp2_with (with_reducible refine wpList_store_z rfl _ _ rfl w.heap.size _ _ _ _ rfl rfl _ _ k2 ?_; intro w3 k3 ho3)
      exact bodyPost_ze rfl rfl rfl k3 rfl ⟨_, k, by rw [hC.out]; rfl, (r2.only k2 ho3).ofEq hZ.out.symm, hk5, zback (t1.next b2) (Nat.le_refl _) ho3⟩
    · have hv := hbad.out hq
      have hq2 : (pcode s == 0) = false := by simpa using hq
      have hq3 : (pcode s != 0) = true := by simpa using hq
      rw [hv] at hZ
      clear hq hbad hv
      generalize pcode s = q at *
      go_wp2_with (with_reducible refine wpList_store_z rfl _ _ rfl w.heap.size _ _ _ _ rfl rfl _ _ k1 ?_; intro w3 k3 ho3)
      exact bodyPost_ze rfl rfl rfl k3 rfl ⟨_, k, by rw [hC.out]; rfl, (ZRes.zero w3 k).ofEq (by rw [hZ.out, sg_zero]), hk5, zback t1 (Nat.le_refl _) ho3⟩
  · rw [h1, h2] at hZ
    rw [h2] at hC hlt HP hbad
    clear h1 h2 hb
    go_enter Try.func34, Try.ntmps34
    go_wp2_with fail
    refine (HP.out _).mono ?_
    rintro e w1 ⟨A1, n1, c1, rfl, o1, l1, m1, b1⟩
    have k1 := z1.next b1
    have t1 := z2.next b1
    by_cases hq : pcode (s.extract 1 s.size) = 0
    · rw [hq] at hC
      rw [hq]
      clear hq hbad
      go_wp2_with fail
      refine (rfrom_any true A1 n1 c1 k _ w1 o1 (short_canon o1 hlt.out) (by omega)).mono ?_
      rintro e w2 ⟨v2, rfl, r2, b2⟩
      rw [Limb.val_canon] at r2
      obtain ⟨s2, A2, n2, c2, rfl⟩ := r2.form
      have k2 := k1.next b2
      go_wp2_with (with_reducible refine wpList_store_z rfl _ _ rfl w.heap.size _ _ _ _ rfl rfl _ _ k2 ?_; intro w3 k3 ho3)
      exact bodyPost_ze rfl rfl rfl k3 rfl ⟨_, k, by rw [hC.out]; rfl, (r2.only k2 ho3).ofEq hZ.out.symm, hk5, zback (t1.next b2) (Nat.le_refl _) ho3⟩
    · have hv := hbad.out hq
      have hq2 : (pcode (s.extract 1 s.size) == 0) = false := by simpa using hq
      have hq3 : (pcode (s.extract 1 s.size) != 0) = true := by simpa using hq
      rw [hv] at hZ
      clear hq hbad hv
      generalize pcode (s.extract 1 s.size) = q at *
      go_wp2_with (with_reducible refine wpList_store_z rfl _ _ rfl w.heap.size _ _ _ _ rfl rfl _ _ k1 ?_; intro w3 k3 ho3)
      exact bodyPost_ze rfl rfl rfl k3 rfl ⟨_, k, by rw [hC.out]; rfl, (ZRes.zero w3 k).ofEq (by rw [hZ.out, sg_zero]), hk5, zback t1 (Nat.le_refl _) ho3⟩
end Go.Proofs.Ytlihnagfmfpdcaa
/- Rows of bytes: make. -/
namespace Go.Proofs.Ytlihnagfmfpdcaa
open Go.RowKit

def u8s (xs : List Nat) : List Value := xs.map fun (x : Nat) => Value.int .u8 (x : Int)
theorem u8s_length (xs : List Nat) : (u8s xs).length = xs.length := by simp [u8s]
theorem u8s_get (xs : List Nat) (i : Nat) (h : i < xs.length) : (u8s xs)[i]? = some (.int .u8 ((xs.getD i 0 : Nat) : Int)) := by
  simp [u8s, List.getElem?_map, List.getD_eq_getElem?_getD, List.getElem?_eq_getElem h]
theorem u8s_replicate (n : Nat) : u8s (List.replicate n 0) = List.replicate n (.int .u8 0) := by simp [u8s]
/-- Block g is a row of just the bytes zs. -/
def BRow (w : World) (g : Nat) (zs : List Nat) : Prop := w.heap[g]? = some (.cells (u8s zs).toArray 5 (0, 0))
theorem BRow.lt {w : World} {g : Nat} {zs : List Nat} (h : BRow w g zs) : g < w.heap.size := by
  rcases Nat.lt_or_ge g w.heap.size with hlt | hge
  · exact hlt
  · unfold BRow at h; rw [Array.getElem?_eq_none hge] at h; cases h
theorem BRow.cell {w : World} {g : Nat} {zs : List Nat} {i : Nat} (h : BRow w g zs) (hi : i < zs.length) : w.cell? ⟨g, i, none⟩ = some (.int .u8 ((zs.getD i 0 : Nat) : Int)) := by
  rw [cell_of_row w g i _ _ _ h, List.getElem?_toArray, u8s_get zs i hi]
theorem BRow.frozen {w : World} {g : Nat} {zs : List Nat} (h : BRow w g zs) (i : Nat) : w.frozen? ⟨g, i, none⟩ = false := by
  unfold BRow at h
  simp [World.frozen?, h]
theorem BRow.set_ {w : World} {g : Nat} {zs : List Nat} (h : BRow w g zs) (i v : Nat) : BRow (w.setCell ⟨g, i, none⟩ (.int .u8 (v : Int))) g (zs.set i v) := by
  unfold BRow at h ⊢
  simp [World.setCell, Array.getElem?_modify, h, u8s, List.map_set]
theorem BRow.keep {w w' : World} {g : Nat} {zs : List Nat} (h : BRow w g zs) (hk : w'.heap[g]? = w.heap[g]?) : BRow w' g zs := hk.trans h
theorem BRow.other {w w' : World} {g r : Nat} {zs : List Nat} (h : BRow w g zs) (ho : Only r w w') (hne : g ≠ r) : BRow w' g zs := h.keep (ho.block g h.lt (fun hh => hne (by injection hh)))

theorem u8_info : (Try.prog.info? 5).map (fun i => (i.zero, i.size, i.bytes)) = some (some (.int .u8 0), 1, 1) := by kernel_rfl
theorem BRow.made {w' : World} {g n : Nat} {base : Nat} (h : w'.ownsRow base 5 1 (.slice (some ⟨g, 0, none⟩) n n) n (madeCells (Value.int .u8 0).cells (n * 1)).toList) : BRow w' g (List.replicate n 0) ∧ base ≤ g := by
  obtain ⟨hl, hc⟩ := h
  rcases hc with ⟨h0, _⟩ | ⟨g', cap, cur, hv, hb, hh, h1, h2, h3, h4⟩
  · cases h0
  · injection hv with hv1 hv2 hv3
    injection hv1 with hv1
    injection hv1 with hv1
    subst hv1
    subst hv3
    have e : cur.toList = List.replicate n (.int .u8 0) := by
      have h5 : cur.toList.length = n * 1 := by simpa using h3
      rw [List.take_of_length_le (by omega)] at h4
      rw [h4, Nat.mul_one]
      exact toList_madeCells_one _ _
    refine ⟨?_, hb⟩
    unfold BRow
    rw [hh, u8s_replicate, ← e]
theorem wpList_make_u8 (w : World) {ops : Array Oper} {rest : List Oper} {o : Oper} {a : Act} {Q : Exit → Act → World → Prop} (hg : o.guard = none) (l c : Operand) (hop : o.op = Op.makeSlice 63 l c)
    (L : Int) (n : Nat) (hl : a.eval l = .int .i64 L) (hc : a.eval c = .int .i64 L) (hL : L = (n : Int)) (hn : n ≤ 35184372088832)
    (hK : ∀ w', BRow w' w.heap.size (List.replicate n 0) → Below w.heap.size w w' → w.heap.size < w'.heap.size → wpList Try.prog ops Q rest (a.put o.dst (.slice (some ⟨w.heap.size, 0, none⟩) n n)) w') :
    wpList Try.prog ops Q (o :: rest) a w := by
  obtain ⟨i0, hi0, hz0, hz1, hz2⟩ := info_parts u8_info
  refine wpList_make_full _ hg l c _ hop w.heap.size 5 i0 _ 1 Try.underlying63 hi0 hz0 hz1 .i64 .i64 L L n hl hc hL hL (by rw [hz2]; omega) (by unfold maxLen; omega) (Nat.le_refl _) ?_
  intro w' ho hgr
  have hr := (BRow.made (base := w.heap.size) ho).1
  exact hK w' hr ((Below.refl _ _).grown hgr (Nat.le_refl _) (fun k hk => by cases hk)) hr.lt
end Go.Proofs.Ytlihnagfmfpdcaa
/- nat.Text. -/
namespace Go.Proofs.Ytlihnagfmfpdcaa
open Go.RowKit
open Limb (limb limb_lt upto upto_succ upto_all upto_zero)

/-- What stands in the text's row while its last d places hold the lowest d digits of N. -/
def TxRel (gT T N d : Nat) (wr : World) : Prop := ∃ bs : List Nat, bs.length = T ∧ d ≤ T ∧ BRow wr gT bs ∧ bs.drop (T - d) = Dec.low N d
theorem TxRel.step {gT T N d : Nat} {wr : World} (h : TxRel gT T N d wr) (hd : d + 1 ≤ T) : TxRel gT T N (d + 1) (wr.setCell ⟨gT, T - (d + 1), none⟩ (.int .u8 ((48 + N / 10 ^ d % 10 : Nat) : Int))) := by
  obtain ⟨bs, hl, hd0, hr, hv⟩ := h
  refine ⟨bs.set (T - (d + 1)) (48 + N / 10 ^ d % 10), by simp [hl], hd, hr.set_ _ _, ?_⟩
  have hlt : T - (d + 1) < (bs.set (T - (d + 1)) (48 + N / 10 ^ d % 10)).length := by simp [hl]; omega
  rw [List.drop_eq_getElem_cons hlt, List.getElem_set_self, Dec.low]
  congr 1
  have e : T - (d + 1) + 1 = T - d := by omega
  rw [e, List.drop_set_of_lt (by omega), hv]
theorem TxRel.cell {gT T N d : Nat} {wr : World} (h : TxRel gT T N d wr) (i : Nat) (hi : i < T) : ∃ b : Nat, wr.cell? ⟨gT, i, none⟩ = some (.int .u8 (b : Int)) ∧ wr.frozen? ⟨gT, i, none⟩ = false := by
  obtain ⟨bs, hl, hd0, hr, hv⟩ := h
  exact ⟨_, hr.cell (by omega), hr.frozen i⟩
theorem TxRel.digit {gT T N d : Nat} {wr : World} (h : TxRel gT T N d wr) (j : Nat) (hj : j < d) : wr.cell? ⟨gT, T - (j + 1), none⟩ = some (.int .u8 ((48 + N / 10 ^ j % 10 : Nat) : Int)) := by
  obtain ⟨bs, hl, hd0, hr, hv⟩ := h
  rw [hr.cell (by omega)]
  have h1 : bs.getD (T - (j + 1)) 0 = (bs.drop (T - d)).getD (d - (j + 1)) 0 := by
    have e : T - d + (d - (j + 1)) = T - (j + 1) := by omega
    simp [List.getD_eq_getElem?_getD, List.getElem?_drop, e]
  rw [h1, hv, Dec.low_get N d _ (by omega)]
  have e2 : d - 1 - (d - (j + 1)) = j := by omega
  rw [e2]
end Go.Proofs.Ytlihnagfmfpdcaa
