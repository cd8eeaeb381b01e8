/- Texts of one seat, put together: RefGcd GcdZ LcmZ BezMath. -/
import Derived.Test.YtlihnagfmfpdcaaB27
import Derived.Test.YtlihnagfmfpdcaaB17
import Derived.Test.YtlihnagfmfpdcaaB28
import Derived.Test.YtlihnagfmfpdcaaB24
/- plumblineref01.Gcd. -/
namespace Go.Proofs.Ytlihnagfmfpdcaa
open Go.RowKit

set_option maxHeartbeats 4000000 in
theorem rgcd_any (A B : Option Addr) (n c m d : Nat) (xs ys : List Nat) (w : World) (hx : Nums w A n xs) (hn : n ≤ 1099511626) (hy : Nums w B m ys) (hm : m ≤ 1099511626) :
    Calls Try.prog 77 #[.slice A n c, .slice B m d] w (RefPost (Nat.gcd (Limb.val xs) (Limb.val ys)) w) := by
  have hxl := hide hx.lt
  have hyl := hide hy.lt
  generalize hN : Limb.val xs = N at *
  generalize hM : Limb.val ys = M at *
  have HN := hide hN
  have HM := hide hM
  clear hN hM
  go_enter Try.func77, Try.ntmps77
  go_wp2_with fail
  refine (rtrim_any A n c xs w hx (by omega)).mono ?_
  rintro e w1 ⟨A1, n1, c1, rfl, o1, l1, m1, b1⟩
  rw [HN.out] at o1
  have ln1 : n1 ≤ n := short_canon o1 hxl.out
  go_wp2_with fail
  refine (rtrim_any B m d ys w1 (hy.below b1) (by omega)).mono ?_
  rintro e w2 ⟨A2, n2, c2, rfl, o2, l2, m2, b2⟩
  rw [HM.out] at o2
  have ln2 : n2 ≤ m := short_canon o2 hyl.out
  have t2 := b1.next b2
  have o1a := o1.below b2
  clear o1 b1 b2 hxl hyl HN HM hx hy
  go_wp2_with fail
  generalize M = k0 at *
  go_loopg [5, 6] k0 (fun k va vb wr => ∃ X P p pc Q q qc, va = .slice P p pc ∧ vb = .slice Q q qc ∧ Nums wr P p (Limb.canon X) ∧ Nums wr Q q (Limb.canon k) ∧ p ≤ pc ∧ pc ≤ 9223372036854775807 ∧ q ≤ qc ∧ qc ≤ 9223372036854775807 ∧ p ≤ 1099511626 ∧ q ≤ 1099511626 ∧ Below w.heap.size w wr ∧ Hid (Nat.gcd X k = Nat.gcd N k0))
  case atStart => exact ⟨N, A1, n1, c1, A2, n2, c2, rfl, rfl, o1a, o2, l1, m1, l2, m2, by omega, by omega, t2, rfl⟩
  case round =>
    clear o1a o2 t2 l1 m1 l2 m2 ln1 ln2
    obtain ⟨X, P, p, pc, Q, q, qc, rfl, rfl, oP, oQ, lp, mp, lq, mq, hp, hq, tr, HG⟩ := hrel
    have hql := hide oQ.len
    rcases Nat.eq_zero_or_pos q with hq0 | hq0
    · subst hq0
      have hk0 : gk = 0 := (Limb.canon_len_zero _).1 hql.out
      subst hk0
      have hgx : Hid (X = Nat.gcd N k0) := by show _ = _; rw [← HG.out, Nat.gcd_zero_right]
      go_wp2_with fail
      go_ret
      rw [hgx.out] at oP
      exact ⟨P, p, pc, rfl, oP, lp, mp, tr⟩
    · have hk : gk ≠ 0 := fun h0 => by
        have := hql.out
        rw [h0, Limb.canon_zero] at this
        simp at this
        omega
      have hml := Nat.mod_lt X (Nat.pos_of_ne_zero hk)
      have HK := hide hk
      clear hk
      go_wp2_with fail
      refine (rdiv_yes P Q p pc q qc _ _ wr oP (by omega) oQ (by omega) (by rw [Limb.val_canon]; exact HK.out)).mono ?_
      rintro e w3 ⟨A3, n3, c3, A4, n4, c4, rfl, o3, l3, m3, o4, l4, m4, b3⟩
      rw [Limb.val_canon, Limb.val_canon] at o4
      have ln4 : n4 ≤ q := by rw [← o4.len, ← hql.out]; exact Limb.canon_len_mono (Nat.le_of_lt hml)
      go_wp2_with fail
      go_roundg (X % gk)
      case rel => exact ⟨gk, Q, q, qc, A4, n4, c4, rfl, rfl, oQ.below b3, o4, lq, mq, l4, m4, by omega, by omega, tr.next b3, by show _ = _; rw [← HG.out, Nat.gcd_comm gk, ← Nat.gcd_rec, Nat.gcd_comm]⟩
      case measure => exact hml

end Go.Proofs.Ytlihnagfmfpdcaa
/- zint.Gcd, plumblineref02.Gcd. -/
namespace Go.Proofs.Ytlihnagfmfpdcaa
open Go.RowKit

def gcdZ (Z Y : Int) : Int := (Nat.gcd Z.natAbs Y.natAbs : Nat)
theorem gcdN_lt {a b K : Nat} (ha : a < K) (hb : b < K) : Nat.gcd a b < K := by
  rcases Nat.eq_zero_or_pos a with h | h
  · subst h; rw [Nat.gcd_zero_left]; exact hb
  · exact Nat.lt_of_le_of_lt (Nat.le_of_dvd h (Nat.gcd_dvd_left a b)) ha
theorem gcdZ_abs (Z Y : Int) : (gcdZ Z Y).natAbs = Nat.gcd Z.natAbs Y.natAbs := rfl
theorem gcdZ_lt {Z Y : Int} {k : Nat} (hZ : Z.natAbs < 4294967296 ^ k) (hY : Y.natAbs < 4294967296 ^ k) : (gcdZ Z Y).natAbs < 4294967296 ^ k := gcdN_lt hZ hY
theorem gcdZ_nonneg (Z Y : Int) : 0 ≤ gcdZ Z Y := by unfold gcdZ; omega
set_option maxHeartbeats 1000000 in
theorem gcd_z (v u : Value) (Z Y : Int) (k : Nat) (w : World) (hv : ZIn w v Z k) (hu : ZIn w u Y k) (hk : k ≤ 68719476736) : Calls Try.prog 28 #[v, u] w (ZPost (gcdZ Z Y) k w) := by
  have hlt := hide (gcdN_lt hv.lt hu.lt)
  obtain ⟨s, A, n, c, xs, rfl, hx, hc, hm, hn, hZ⟩ := hv
  obtain ⟨t, B, m, d, ys, rfl, hy, hd, hmd, hmk, hY⟩ := hu
  obtain ⟨x0, y0, r0, z2, -⟩ := zstart3 w #[.bool s, .slice A n c] #[.bool t, .slice B m d] #[.bool false, .slice none 0 0]
  have hg := gcd_any A B n c m d xs ys _ (hx.below z2) hc hm (by omega) (hy.below z2) hd hmd (by omega)
  rw [ZIn.abs hZ, ZIn.abs hY] at hg
  have HG := hide (show gcdZ Z Y = sg false (Nat.gcd Z.natAbs Y.natAbs) from rfl)
  clear hx hy hZ hY
  generalize Nat.gcd Z.natAbs Y.natAbs = G at *
  go_enter Try.func28, Try.ntmps28
  go_wp2_with fail
  refine hg.mono ?_
  rintro e w1 ⟨A1, n1, rfl, o1, b1⟩
  have l1 := own_c o1
  have k1 := r0.next b1
  have t1 := z2.next b1
  clear hg
  go_wp2_with fail
  refine (signed_any false A1 n1 n1 G w1 o1.len (by omega)).mono ?_
  rintro e w2 ⟨rfl, b2⟩
  have k2 := k1.next b2
  have r2 := (zres_own (s := false) o1 hlt.out).below b2
  go_wp2_with (with_reducible refine wpList_store_z rfl _ _ rfl (w.heap.size + 1 + 1) _ _ _ _ rfl rfl _ _ k2 ?_; intro w3 k3 ho3)
  refine bodyPost_z rfl rfl k3 rfl ?_
  exact ⟨_, rfl, (r2.only k2 ho3).ofEq HG.out.symm, zback (t1.next b2) (by omega) ho3⟩
set_option maxHeartbeats 1000000 in
theorem rgcd_z (v u : Value) (Z Y : Int) (k : Nat) (w : World) (hv : ZIn w v Z k) (hu : ZIn w u Y k) (hk : k ≤ 1099511626) : Calls Try.prog 29 #[v, u] w (ZPost (gcdZ Z Y) k w) := by
  have hlt := hide (gcdN_lt hv.lt hu.lt)
  obtain ⟨s, A, n, c, xs, rfl, hx, hc, hm, hn, hZ⟩ := hv
  obtain ⟨t, B, m, d, ys, rfl, hy, hd, hmd, hmk, hY⟩ := hu
  obtain ⟨x0, y0, r0, z2, -⟩ := zstart3 w #[.bool s, .slice A n c] #[.bool t, .slice B m d] #[.bool false, .slice none 0 0]
  have hg := rgcd_any A B n c m d xs ys _ (hx.below z2) (by omega) (hy.below z2) (by omega)
  rw [ZIn.abs hZ, ZIn.abs hY] at hg
  have HG := hide (show gcdZ Z Y = sg false (Nat.gcd Z.natAbs Y.natAbs) from rfl)
  clear hx hy hZ hY
  generalize Nat.gcd Z.natAbs Y.natAbs = G at *
  go_enter Try.func29, Try.ntmps29
  go_wp2_with fail
  refine hg.mono ?_
  rintro e w1 ⟨A1, n1, c1, rfl, o1, l1, m1, b1⟩
  have k1 := r0.next b1
  have t1 := z2.next b1
  clear hg
  go_wp2_with fail
  refine (rfrom_any false A1 n1 c1 k _ w1 o1 (short_canon o1 hlt.out) (by omega)).mono ?_
  rintro e w2 ⟨v2, rfl, r2, b2⟩
  rw [Limb.val_canon] at r2
  obtain ⟨s2, A2, n2, c2, rfl⟩ := r2.form
  have k2 := k1.next b2
  go_wp2_with (with_reducible refine wpList_store_z rfl _ _ rfl (w.heap.size + 1 + 1) _ _ _ _ rfl rfl _ _ k2 ?_; intro w3 k3 ho3)
  refine bodyPost_z rfl rfl k3 rfl ?_
  exact ⟨_, rfl, (r2.only k2 ho3).ofEq HG.out.symm, zback (t1.next b2) (by omega) ho3⟩

def lcmZ (Z Y : Int) : Int := if Z = 0 ∨ Y = 0 then 0 else ((Z.natAbs / Nat.gcd Z.natAbs Y.natAbs * Y.natAbs : Nat) : Int)
theorem lcmZ_zero {Z Y : Int} (h : Z = 0 ∨ Y = 0) : lcmZ Z Y = 0 := by unfold lcmZ; rw [if_pos h]
theorem lcmZ_pos {Z Y : Int} (h : ¬ (Z = 0 ∨ Y = 0)) : lcmZ Z Y = ((Z.natAbs / Nat.gcd Z.natAbs Y.natAbs * Y.natAbs : Nat) : Int) := by unfold lcmZ; rw [if_neg h]
set_option maxHeartbeats 1000000 in
theorem lcm_zero (v u : Value) (Z Y : Int) (k : Nat) (w : World) (hv : ZIn w v Z k) (hu : ZIn w u Y k) (hk : k ≤ 68719476736) (h : Z = 0 ∨ Y = 0) : Calls Try.prog 30 #[v, u] w (ZPost 0 (k + k) w) := by
  have hv0 := hv
  have hu0 := hu
  obtain ⟨s, A, n, c, xs, rfl, -⟩ := hv
  obtain ⟨t, B, m, d, ys, rfl, -⟩ := hu
  obtain ⟨x0, y0, r0, z2, -⟩ := zstart3 w #[.bool s, .slice A n c] #[.bool t, .slice B m d] #[.bool false, .slice none 0 0]
  have HSX := hide (fun W (hb : Below w.heap.size w W) => sign_z _ Z k W (hv0.below hb) (by omega))
  have HSY := hide (fun W (hb : Below w.heap.size w W) => sign_z _ Y k W (hu0.below hb) (by omega))
  unfold SignPost at HSX HSY
  by_cases hz : Z = 0
  · have e1 : Z.sign = 0 := by rw [hz]; rfl
    rw [e1] at HSX
    clear e1 hz h
    go_enter Try.func30, Try.ntmps30
    go_wp2_with fail
    refine (HSX.out _ z2).mono ?_
    rintro e w1 ⟨rfl, b1⟩
    have k1 := hide (r0.next b1)
    have t1 := hide (z2.next b1)
    go_wp2_with (with_reducible refine wpList_store_z rfl _ _ rfl (w.heap.size + 1 + 1) _ _ _ _ rfl rfl _ _ k1.out ?_; intro w3 k3 ho3)
    exact bodyPost_z rfl rfl k3 rfl ⟨_, rfl, ZRes.zero _ _, zback t1.out (by omega) ho3⟩
  · have e1 : Y.sign = 0 := by rw [h.resolve_left hz]; rfl
    have e2 : (Z.sign == 0) = false := sign_ne hz
    rw [e1] at HSY
    generalize Z.sign = q at *
    clear e1 hz h
    go_enter Try.func30, Try.ntmps30
    go_wp2_with fail
    refine (HSX.out _ z2).mono ?_
    rintro e w1 ⟨rfl, b1⟩
    have y1 := y0.next b1
    have y1a := y1.c0
    have y1b := y1.c1
    have r1 := r0.next b1
    have t1 := z2.next b1
    go_wp2_with fail
    refine (HSY.out _ t1).mono ?_
    rintro e w2 ⟨rfl, b2⟩
    have k2 := hide (r1.next b2)
    have t2 := hide (t1.next b2)
    clear y1a y1b
    go_wp2_with (with_reducible refine wpList_store_z rfl _ _ rfl (w.heap.size + 1 + 1) _ _ _ _ rfl rfl _ _ k2.out ?_; intro w3 k3 ho3)
    exact bodyPost_z rfl rfl k3 rfl ⟨_, rfl, ZRes.zero _ _, zback t2.out (by omega) ho3⟩
end Go.Proofs.Ytlihnagfmfpdcaa
/- zint.Lcm. -/
namespace Go.Proofs.Ytlihnagfmfpdcaa
open Go.RowKit

theorem lcm_lt {a b g K : Nat} (ha : a < K) (hb : b < K) : a / g * b < K * K :=
  Nat.mul_lt_mul'' (Nat.lt_of_le_of_lt (Nat.div_le_self a g) ha) hb
set_option maxHeartbeats 2000000 in
theorem lcm_pos (v u : Value) (Z Y : Int) (k : Nat) (w : World) (hv : ZIn w v Z k) (hu : ZIn w u Y k) (hk : k ≤ 68719476736) (h : ¬ (Z = 0 ∨ Y = 0)) : Calls Try.prog 30 #[v, u] w (ZPost (lcmZ Z Y) (k + k) w) := by
  have hv0 := hv
  have hu0 := hu
  have hlv := hv.lt
  have hlu := hu.lt
  have hl1 := hide (gcdN_lt hlv hlu)
  have hl2 := hide (lcm_lt (g := Nat.gcd Z.natAbs Y.natAbs) hlv hlu)
  have hG0 := hide (show Nat.gcd Z.natAbs Y.natAbs ≠ 0 from fun h0 => h (Or.inl (Int.natAbs_eq_zero.1 (Nat.eq_zero_of_gcd_eq_zero_left h0))))
  obtain ⟨s, A, n, c, xs, rfl, hx, hc, hm, hn, hZ⟩ := hv
  obtain ⟨t, B, m, d, ys, rfl, hy, hd, hmd, hmk, hY⟩ := hu
  obtain ⟨x0, y0, r0, z2, -⟩ := zstart3 w #[.bool s, .slice A n c] #[.bool t, .slice B m d] #[.bool false, .slice none 0 0]
  have HSX := hide (fun W (hb : Below w.heap.size w W) => sign_z _ Z k W (hv0.below hb) (by omega))
  have HSY := hide (fun W (hb : Below w.heap.size w W) => sign_z _ Y k W (hu0.below hb) (by omega))
  unfold SignPost at HSX HSY
  have hzs : (Z.sign == 0) = false := sign_ne (fun h0 => h (Or.inl h0))
  have hys : (Y.sign == 0) = false := sign_ne (fun h0 => h (Or.inr h0))
  have HL := hide (lcmZ_pos h)
  have HG := hide (fun W (hb : Below w.heap.size w W) => (show Calls Try.prog 51 #[.slice A n c, .slice B m d] W (CutPost (Nat.gcd Z.natAbs Y.natAbs) W) by
    have := gcd_any A B n c m d xs ys W (hx.below hb) hc hm (by omega) (hy.below hb) hd hmd (by omega)
    rw [ZIn.abs hZ, ZIn.abs hY] at this
    exact this))
  have HD := hide (fun W A1 n1 (G : Nat) (hG : G ≠ 0) (hb : Below w.heap.size w W) (h1 : Nums W A1 n1 (Limb.canon G)) (h2 : n1 ≤ k) => (show Calls Try.prog 49 #[.slice A n c, .slice A1 n1 n1] W (DivYesPost (Z.natAbs / G) (Z.natAbs % G) W) by
    have := div_yes A A1 n c n1 n1 xs _ W (hx.below hb) hc hm (by omega) h1 (Nat.le_refl _) (by omega) (by omega) (by rw [Limb.val_canon]; exact hG)
    rw [ZIn.abs hZ, Limb.val_canon] at this
    exact this))
  have HM := hide (fun W A1 n1 c1 (q : Nat) (hb : Below w.heap.size w W) (h1 : Nums W A1 n1 (Limb.canon q)) (h2 : n1 ≤ k) (h3 : n1 ≤ c1) (h4 : c1 ≤ 9223372036854775807) => (show Calls Try.prog 13 #[.slice A1 n1 c1, .slice B m d] W (CutPost (q * Y.natAbs) W) by
    have := mul_any A1 B n1 c1 m d _ ys W h1 h3 h4 (hy.below hb) hd hmd (by omega)
    rw [ZIn.abs hY, Limb.val_canon] at this
    exact this))
  have hq1 := hide (show Z.natAbs / Nat.gcd Z.natAbs Y.natAbs < 4294967296 ^ k from Nat.lt_of_le_of_lt (Nat.div_le_self _ _) hlv)
  have hsg := hide (show ((Z.natAbs / Nat.gcd Z.natAbs Y.natAbs * Y.natAbs : Nat) : Int) = sg false (Z.natAbs / Nat.gcd Z.natAbs Y.natAbs * Y.natAbs) from rfl)
  rw [← Nat.pow_add] at hl2
  clear hx hy hZ hY h hv0 hu0 hlv hlu
  generalize Nat.gcd Z.natAbs Y.natAbs = G at *
  generalize Z.sign = zs at *
  generalize Y.sign = ysn at *
  go_enter Try.func30, Try.ntmps30
  go_wp2_with fail
  refine (HSX.out _ z2).mono ?_
  rintro e w1 ⟨rfl, b1⟩
  have y1 := y0.next b1
  have y1a := y1.c0
  have y1b := y1.c1
  have x1 := x0.next b1
  have r1 := r0.next b1
  have t1 := z2.next b1
  go_wp2_with fail
  refine (HSY.out _ t1).mono ?_
  rintro e w2 ⟨rfl, b2⟩
  have x2 := x1.next b2
  have y2 := y1.next b2
  have r2 := hide (r1.next b2)
  have t2 := t1.next b2
  clear y1a y1b x0 y0 r0 z2 x1 y1 r1 t1 hzs
  have HK := hide (((Keeps.nil t2).add y2 (by omega)).add x2 (by omega))
  have SOF := hide (show ∀ W, Keeps w [(w.heap.size, .bool s, .slice A n c), (w.heap.size + 1, .bool t, .slice B m d)] W → (fun W => Keeps w [(w.heap.size, .bool s, .slice A n c), (w.heap.size + 1, .bool t, .slice B m d)] W ∧ W.cell? ⟨w.heap.size, 1, none⟩ = some (.slice A n c) ∧ W.cell? ⟨w.heap.size + 1, 1, none⟩ = some (.slice B m d)) W from fun W k => ⟨k, (k.blk (List.Mem.head _)).c1, (k.blk (List.Mem.tail _ (List.Mem.head _))).c1⟩)
  clear x2 y2 t2
  go_wp2_with fail
  go_region_held3 (fun W => Keeps w [(w.heap.size, .bool s, .slice A n c), (w.heap.size + 1, .bool t, .slice B m d)] W ∧ W.cell? ⟨w.heap.size, 1, none⟩ = some (.slice A n c) ∧ W.cell? ⟨w.heap.size + 1, 1, none⟩ = some (.slice B m d))
    (with_reducible first | exact SOF.out _ HK.out.drew | exact SOF.out _ (Keeps.call (And.left (a := Keeps w _ _) (by assumption)) (by assumption)))
    (first
      | (go_at_call 51; (with_reducible refine (HG.out _ HK.out.drew.old).mono ?_); rintro e w3 ⟨A3, n3, rfl, o3, b3⟩; have T3 := (bl_drewN w2 1).next b3; have l3 := short_canon o3.nums hl1.out)
      | (go_at_call 49; (with_reducible refine (HD.out w3 A3 n3 G hG0.out (HK.out.call T3).old o3.nums l3).mono ?_); rintro e w4 ⟨A4, n4, c4, A5, n5, c5, rfl, o4, o5, b4⟩; have T4 := T3.next b4))
  have K4 := HK.out.call T4
  have r4 := r2.out.next T4
  have y4b := (K4.blk (List.Mem.tail _ (List.Mem.head _))).c1
  have l4 := short_canon o4.nums hq1.out
  clear HK SOF
  go_wp2_with fail
  refine (HM.out w4 A4 n4 c4 _ K4.old o4.nums l4 o4.2.1 (by have := o4.2.2.1; omega)).mono ?_
  rintro e w5 ⟨A6, n6, rfl, o6, b5⟩
  clear y4b
  go_wp2_with fail
  refine (signed_any false A6 n6 n6 _ w5 o6.len (by have := own_c o6; omega)).mono ?_
  rintro e w6 ⟨rfl, b6⟩
  have k6 := (r4.next b5).next b6
  have z6 := (zres_own (s := false) o6 hl2.out).below b6
  have t6 := (K4.old.next b5).next b6
  go_wp2_with (with_reducible refine wpList_store_z rfl _ _ rfl (w.heap.size + 1 + 1) _ _ _ _ rfl rfl _ _ k6 ?_; intro w7 k7 ho7)
  refine bodyPost_z rfl rfl k7 rfl ?_
  exact ⟨_, rfl, (z6.only k6 ho7).ofEq (by rw [HL.out]; exact hsg.out.symm), zback t6 (by omega) ho7⟩
theorem lcm_z (v u : Value) (Z Y : Int) (k : Nat) (w : World) (hv : ZIn w v Z k) (hu : ZIn w u Y k) (hk : k ≤ 68719476736) : Calls Try.prog 30 #[v, u] w (ZPost (lcmZ Z Y) (k + k) w) := by
  by_cases h : Z = 0 ∨ Y = 0
  · rw [lcmZ_zero h]; exact lcm_zero v u Z Y k w hv hu hk h
  · exact lcm_pos v u Z Y k w hv hu hk h
end Go.Proofs.Ytlihnagfmfpdcaa
/- Euclid's steps with the two factors, on plain numbers. -/
namespace Go.Proofs.Ytlihnagfmfpdcaa
open Go.RowKit

def bez (r0 r1 : Nat) (x0 y0 x1 y1 : Int) : Nat × Int × Int :=
  if h : r1 = 0 then (r0, x0, y0) else bez r1 (r0 % r1) x1 y1 (x0 - ((r0 / r1 : Nat) : Int) * x1) (y0 - ((r0 / r1 : Nat) : Int) * y1)
termination_by r1
decreasing_by exact Nat.mod_lt _ (Nat.pos_of_ne_zero h)
theorem bez_end (r0 : Nat) (x0 y0 x1 y1 : Int) : bez r0 0 x0 y0 x1 y1 = (r0, x0, y0) := by rw [bez, dif_pos rfl]
theorem bez_step (r0 r1 : Nat) (x0 y0 x1 y1 : Int) (h : r1 ≠ 0) : bez r0 r1 x0 y0 x1 y1 = bez r1 (r0 % r1) x1 y1 (x0 - ((r0 / r1 : Nat) : Int) * x1) (y0 - ((r0 / r1 : Nat) : Int) * y1) := by rw [bez, dif_neg h]

/-- The factors' signs alternate, and the products make up the numbers that it began with. -/
def BezSign (N M r0 r1 : Nat) (x0 y0 x1 y1 : Int) : Prop :=
  (0 ≤ x0 ∧ x1 ≤ 0 ∧ (r1 : Int) * x0 - (r0 : Int) * x1 = (M : Int) ∧ y0 ≤ 0 ∧ 0 ≤ y1 ∧ (r0 : Int) * y1 - (r1 : Int) * y0 = (N : Int)) ∨
  (x0 ≤ 0 ∧ 0 ≤ x1 ∧ (r0 : Int) * x1 - (r1 : Int) * x0 = (M : Int) ∧ 0 ≤ y0 ∧ y1 ≤ 0 ∧ (r1 : Int) * y0 - (r0 : Int) * y1 = (N : Int))
def BezInv (N M r0 r1 : Nat) (x0 y0 x1 y1 : Int) : Prop :=
  (r0 : Int) = (N : Int) * x0 + (M : Int) * y0 ∧ (r1 : Int) = (N : Int) * x1 + (M : Int) * y1 ∧ Nat.gcd r0 r1 = Nat.gcd N M ∧ BezSign N M r0 r1 x0 y0 x1 y1 ∧
  r0 ≤ N + M + 1 ∧ r1 ≤ N + M + 1 ∧ x0.natAbs ≤ N + M + 1 ∧ x1.natAbs ≤ N + M + 1 ∧ y0.natAbs ≤ N + M + 1 ∧ y1.natAbs ≤ N + M + 1
theorem bez_start (N M : Nat) : BezInv N M N M 1 0 0 1 := by
  refine ⟨by omega, by omega, rfl, Or.inl ⟨by omega, by omega, by omega, by omega, by omega, by omega⟩, by omega, by omega, by omega, by omega, by omega, by omega⟩
theorem bez_id (r0 r1 q r2 x0 x1 : Int) (h : r0 = r1 * q + r2) : r1 * (x0 - q * x1) - r2 * x1 = r1 * x0 - r0 * x1 := by
  subst h
  rw [Int.mul_sub, Int.add_mul, Int.mul_assoc r1 q x1]
  omega
theorem bez_lin (N M r0 r1 q r2 x0 x1 y0 y1 : Int) (h : r0 = r1 * q + r2) (h0 : r0 = N * x0 + M * y0) (h1 : r1 = N * x1 + M * y1) : r2 = N * (x0 - q * x1) + M * (y0 - q * y1) := by
  have e : r2 = r0 - r1 * q := by omega
  rw [e, h0, h1, Int.mul_sub, Int.mul_sub, Int.add_mul, Int.mul_assoc N x1 q, Int.mul_assoc M y1 q, Int.mul_comm x1 q, Int.mul_comm y1 q]
  omega
theorem le_of_prod {r x K : Int} (hr : 1 ≤ r) (hx : 0 ≤ x) (h : r * x ≤ K) : x ≤ K := by
  have := Int.mul_le_mul_of_nonneg_right hr hx
  omega
theorem bez_next {N M r0 r1 : Nat} {x0 y0 x1 y1 : Int} (h : BezInv N M r0 r1 x0 y0 x1 y1) (hr : r1 ≠ 0) : BezInv N M r1 (r0 % r1) x1 y1 (x0 - ((r0 / r1 : Nat) : Int) * x1) (y0 - ((r0 / r1 : Nat) : Int) * y1) := by
  obtain ⟨e0, e1, hg, hs, b0, b1, c0, c1, d0, d1⟩ := h
  have hq : (r0 : Int) = (r1 : Int) * ((r0 / r1 : Nat) : Int) + ((r0 % r1 : Nat) : Int) := by
    rw [← Int.natCast_mul, ← Int.natCast_add, Nat.div_add_mod]
  have hm := Nat.mod_lt r0 (Nat.pos_of_ne_zero hr)
  have hlin := bez_lin N M r0 r1 _ _ x0 x1 y0 y1 hq e0 e1
  have hx := bez_id r0 r1 _ _ x0 x1 hq
  have hy := bez_id r0 r1 _ _ y0 y1 hq
  have hg2 : Nat.gcd r1 (r0 % r1) = Nat.gcd N M := by rw [← hg, Nat.gcd_comm r1, ← Nat.gcd_rec, Nat.gcd_comm]
  generalize r0 / r1 = q at *
  generalize r0 % r1 = r2 at *
  have hq0 : (0 : Int) ≤ (q : Int) := by omega
  have hr1 : (1 : Int) ≤ (r1 : Int) := by omega
  have hr2 : (0 : Int) ≤ (r2 : Int) := by omega
  rcases hs with ⟨s1, s2, s3, s4, s5, s6⟩ | ⟨s1, s2, s3, s4, s5, s6⟩
  · have p1 : (q : Int) * x1 ≤ 0 := Int.mul_nonpos_of_nonneg_of_nonpos hq0 s2
    have p2 : 0 ≤ (q : Int) * y1 := Int.mul_nonneg hq0 s5
    have p3 : (r2 : Int) * x1 ≤ 0 := Int.mul_nonpos_of_nonneg_of_nonpos hr2 s2
    have p4 : 0 ≤ (r2 : Int) * y1 := Int.mul_nonneg hr2 s5
    have t1 : 0 ≤ x0 - (q : Int) * x1 := by omega
    have t2 : 0 ≤ -(y0 - (q : Int) * y1) := by omega
    have k1 := le_of_prod hr1 t1 (show _ ≤ (M : Int) by omega)
    have k2 := le_of_prod hr1 t2 (show _ ≤ (N : Int) by rw [Int.mul_neg]; omega)
    generalize x0 - (q : Int) * x1 = x2 at *
    generalize y0 - (q : Int) * y1 = y2 at *
    exact ⟨e1, hlin, hg2, Or.inr ⟨s2, by omega, by omega, s5, by omega, by omega⟩, b1, by omega, c1, by omega, d1, by omega⟩
  · have p1 : 0 ≤ (q : Int) * x1 := Int.mul_nonneg hq0 s2
    have p2 : (q : Int) * y1 ≤ 0 := Int.mul_nonpos_of_nonneg_of_nonpos hq0 s5
    have p3 : 0 ≤ (r2 : Int) * x1 := Int.mul_nonneg hr2 s2
    have p4 : (r2 : Int) * y1 ≤ 0 := Int.mul_nonpos_of_nonneg_of_nonpos hr2 s5
    have t1 : 0 ≤ -(x0 - (q : Int) * x1) := by omega
    have t2 : 0 ≤ y0 - (q : Int) * y1 := by omega
    have k1 := le_of_prod hr1 t1 (show _ ≤ (M : Int) by rw [Int.mul_neg]; omega)
    have k2 := le_of_prod hr1 t2 (show _ ≤ (N : Int) by omega)
    generalize x0 - (q : Int) * x1 = x2 at *
    generalize y0 - (q : Int) * y1 = y2 at *
    exact ⟨e1, hlin, hg2, Or.inl ⟨s2, by omega, by omega, s5, by omega, by omega⟩, b1, by omega, c1, by omega, d1, by omega⟩

/-- What it ends with: the divisor, made of both. -/
theorem bez_ends (N M : Nat) : ∀ (r0 r1 : Nat) (x0 y0 x1 y1 : Int), BezInv N M r0 r1 x0 y0 x1 y1 →
    (bez r0 r1 x0 y0 x1 y1).1 = Nat.gcd N M ∧ ((bez r0 r1 x0 y0 x1 y1).1 : Int) = (N : Int) * (bez r0 r1 x0 y0 x1 y1).2.1 + (M : Int) * (bez r0 r1 x0 y0 x1 y1).2.2 ∧
    (bez r0 r1 x0 y0 x1 y1).2.1.natAbs ≤ N + M + 1 ∧ (bez r0 r1 x0 y0 x1 y1).2.2.natAbs ≤ N + M + 1 := by
  intro r0 r1
  induction r1 using Nat.strongRecOn generalizing r0 with
  | _ r1 ih =>
    intro x0 y0 x1 y1 h
    by_cases h0 : r1 = 0
    · subst h0
      rw [bez_end]
      obtain ⟨e0, -, hg, -, -, -, c0, -, d0, -⟩ := h
      rw [Nat.gcd_zero_right] at hg
      exact ⟨hg, e0, c0, d0⟩
    · rw [bez_step _ _ _ _ _ _ h0]
      exact ih (r0 % r1) (Nat.mod_lt _ (Nat.pos_of_ne_zero h0)) r1 _ _ _ _ (bez_next h h0)
end Go.Proofs.Ytlihnagfmfpdcaa
