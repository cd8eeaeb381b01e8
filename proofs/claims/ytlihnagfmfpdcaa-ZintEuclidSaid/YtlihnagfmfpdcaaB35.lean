/- Texts of one seat, put together: ZEuclid. -/
import Derived.Test.YtlihnagfmfpdcaaB34
/- plumblinelaw02.ZintEuclid: the walk. -/
namespace Go.Proofs.Ytlihnagfmfpdcaa
open Go.RowKit

theorem gcdZ_comm (Z Y : Int) : gcdZ Y Z = gcdZ Z Y := by unfold gcdZ; rw [Nat.gcd_comm]
theorem abs_mul_sign (Z x : Int) : Z * (if Z < 0 then -x else x) = (Z.natAbs : Int) * x := by
  split
  · rename_i h
    have e : (Z.natAbs : Int) = -Z := by omega
    rw [e, Int.mul_neg, Int.neg_mul]
  · rename_i h
    have e : (Z.natAbs : Int) = Z := by omega
    rw [e]
theorem bz_sum (Z Y : Int) : Z * bzX Z Y + Y * bzY Z Y = gcdZ Z Y := by
  have h := bez_ends Z.natAbs Y.natAbs _ _ _ _ _ _ (bez_start Z.natAbs Y.natAbs)
  unfold bzX bzY
  rw [abs_mul_sign, abs_mul_sign, ← h.2.1]
  unfold gcdZ
  rw [h.1]
theorem lcm_gcd (Z Y : Int) : lcmZ Z Y * gcdZ Z Y = ((Z * Y).natAbs : Int) := by
  by_cases h : Z = 0 ∨ Y = 0
  · rw [lcmZ_zero h, Int.zero_mul]
    rcases h with rfl | rfl
    · simp
    · simp
  · rw [lcmZ_pos h, Int.natAbs_mul]
    unfold gcdZ
    have hd := Nat.gcd_dvd_left Z.natAbs Y.natAbs
    have h1 := Nat.div_mul_cancel hd
    rw [← Int.natCast_mul, Nat.mul_right_comm, h1]
theorem gcdZ_zero {Z Y : Int} (h : gcdZ Z Y = 0) : Z = 0 ∧ Y = 0 := by
  unfold gcdZ at h
  have h1 : Nat.gcd Z.natAbs Y.natAbs = 0 := by omega
  exact ⟨Int.natAbs_eq_zero.1 (Nat.eq_zero_of_gcd_eq_zero_left h1), Int.natAbs_eq_zero.1 (Nat.eq_zero_of_gcd_eq_zero_right h1)⟩
theorem gcdZ_fmod (Z Y : Int) : Z.fmod (gcdZ Z Y) = 0 ∧ Y.fmod (gcdZ Z Y) = 0 := by
  unfold gcdZ
  exact ⟨Int.fmod_eq_zero_of_dvd (Int.ofNat_dvd_left.2 (Nat.gcd_dvd_left _ _)), Int.fmod_eq_zero_of_dvd (Int.ofNat_dvd_left.2 (Nat.gcd_dvd_right _ _))⟩
set_option maxRecDepth 100000 in
set_option maxHeartbeats 8000000 in
theorem zintEuclid_walk (s : Bool) (A : Option Addr) (n c : Nat) (xs : List Nat) (t : Bool) (B : Option Addr) (m d : Nat) (ys : List Nat) (w : World) (hx : Nums w A n xs) (hc : n ≤ c) (hm : c ≤ 9223372036854775807) (hy : Nums w B m ys) (hd : m ≤ d) (hmd : d ≤ 9223372036854775807) :
    Calls Try.prog 8 #[.agg #[.bool s, .slice A n c], .agg #[.bool t, .slice B m d]] w (YesPost w) := by
  obtain ⟨x, y, z2, -⟩ := zstart2 w #[.bool s, .slice A n c] #[.bool t, .slice B m d]
  have K := ((Keeps.nil z2).add y (by omega)).add x (by omega)
  clear x y z2
  by_cases hs : n ≤ 30 ∧ m ≤ 30
  · obtain ⟨hn, hmk⟩ := hs
    have hv : ZIn w (.agg #[.bool s, .slice A n c]) (sg s (Limb.val xs)) 30 := ⟨s, A, n, c, xs, rfl, hx, hc, hm, hn, rfl⟩
    have hu : ZIn w (.agg #[.bool t, .slice B m d]) (sg t (Limb.val ys)) 30 := ⟨t, B, m, d, ys, rfl, hy, hd, hmd, hmk, rfl⟩
    generalize sg s (Limb.val xs) = Z at *
    generalize sg t (Limb.val ys) = Y at *
    have HBZ := hide (fun W (h1 : ZIn W (.agg #[.bool s, .slice A n c]) Z 30) (h2 : ZIn W (.agg #[.bool t, .slice B m d]) Y 30) => bezout_z _ _ Z Y 30 31 W h1 h2 (by omega) rfl)
    have hsum := hide (bz_sum Z Y)
    have hlg := hide (lcm_gcd Z Y)
    have hcm := hide (gcdZ_comm Z Y)
    have hg0 := hide (gcdZ_nonneg Z Y)
    have hgz := hide (fun h => gcdZ_zero (Z := Z) (Y := Y) h)
    have hfm := hide (gcdZ_fmod Z Y)
    have HGC := hide (fun W (h1 : ZIn W (.agg #[.bool t, .slice B m d]) Y 30) (h2 : ZIn W (.agg #[.bool s, .slice A n c]) Z 30) => (show Calls Try.prog 28 #[.agg #[.bool t, .slice B m d], .agg #[.bool s, .slice A n c]] W (ZPost (gcdZ Z Y) 30 W) by rw [← hcm.out]; exact gcd_z _ _ Y Z 30 W h1 h2 (by omega)))
    have HLC := hide (fun W (h1 : ZIn W (.agg #[.bool s, .slice A n c]) Z 30) (h2 : ZIn W (.agg #[.bool t, .slice B m d]) Y 30) => lcm_z _ _ Z Y 30 W h1 h2 (by omega))
    unfold BzPost at HBZ
    generalize gcdZ Z Y = g at *
    generalize bzX Z Y = X at *
    generalize bzY Z Y = V at *
    generalize lcmZ Z Y = L at *
    by_cases hg : g = 0
    · obtain ⟨hZ0, hY0⟩ := hgz.out hg
      have HSN := hide (show g.sign = 0 by rw [hg]; rfl)
      have HSG := hide (fun v W (h : ZIn W v g 31) => (show Calls Try.prog 42 #[v] W (fun e w' => e = .returned (.int .i64 0) ∧ Below W.heap.size W w') by
        have := sign_z v g 31 W h (by omega)
        unfold SignPost at this
        rw [HSN.out] at this
        exact this))
      have HZ0 := hide (fun W (h : ZIn W (.agg #[.bool s, .slice A n c]) Z 30) => (show Calls Try.prog 42 #[.agg #[.bool s, .slice A n c]] W (fun e w' => e = .returned (.int .i64 0) ∧ Below W.heap.size W w') by
        have := sign_z _ Z 30 W h (by omega)
        unfold SignPost at this
        rw [hZ0] at this
        exact this))
      have HY0 := hide (fun W (h : ZIn W (.agg #[.bool t, .slice B m d]) Y 30) => (show Calls Try.prog 42 #[.agg #[.bool t, .slice B m d]] W (fun e w' => e = .returned (.int .i64 0) ∧ Below W.heap.size W w') by
        have := sign_z _ Y 30 W h (by omega)
        unfold SignPost at this
        rw [hY0] at this
        exact this))
      clear hg hZ0 hY0 hfm hg0 hgz
      go_enter Try.func8, Try.ntmps8
      go_wp2_with fail
      refine (counting_any _).mono ?_
      rintro e w1 ⟨rfl, b1⟩
      replace K := K.call b1
      clear b1
      go_wp2_with fail
      refine (zdividing_any w1).mono ?_
      rintro e w2 ⟨rfl, b2⟩
      replace K := K.call b2
      clear b2
      go_wp2_with fail
      refine (zsharing_any w2).mono ?_
      rintro e w3 ⟨rfl, b3⟩
      replace K := K.call b3
      clear b3
      have cxa := (K.blk (List.Mem.head _)).c0
      have cxb := (K.blk (List.Mem.head _)).c1
      have cya := (K.blk (List.Mem.tail _ (List.Mem.head _))).c0
      have cyb := (K.blk (List.Mem.tail _ (List.Mem.head _))).c1
      go_wp2_with fail
      refine (z2short_yes _ _ Z Y 30 30 w3 (hv.below K.old) (hu.below K.old) (by omega) (by omega)).mono ?_
      rintro e w4 ⟨rfl, b4⟩
      clear cxa cxb cya cyb
      replace K := K.call b4
      clear b4
      have cxa := (K.blk (List.Mem.head _)).c0
      have cxb := (K.blk (List.Mem.head _)).c1
      have cya := (K.blk (List.Mem.tail _ (List.Mem.head _))).c0
      have cyb := (K.blk (List.Mem.tail _ (List.Mem.head _))).c1
      go_wp2_with fail
      refine (HBZ.out w4 (hv.below K.old) (hu.below K.old)).mono ?_
      rintro e w5 ⟨v5, v5a, v5b, rfl, rg, rx, ry, b5⟩
      clear cxa cxb cya cyb
      replace K := K.call b5
      clear b5
      obtain ⟨sG, AG, nG, cG, rfl⟩ := rg.form
      obtain ⟨sX, AX, nX, cX, rfl⟩ := rx.form
      obtain ⟨sY, AY, nY, cY, rfl⟩ := ry.form
      have tt := ((bl_alloc w5 (.cells #[.bool sG, .slice AG nG cG] 38)).next (bl_alloc _ (.cells #[.bool sX, .slice AX nX cX] 38))).next (bl_alloc _ (.cells #[.bool sY, .slice AY nY cY] 38))
      replace K := K.made3 (a := .bool sG) (b := .slice AG nG cG) (c := .bool sX) (d := .slice AX nX cX) (e := .bool sY) (f := .slice AY nY cY)
      replace rg := rg.below tt
      replace rx := rx.below tt
      replace ry := ry.below tt
      clear tt
      have SOF := hide (show ∀ W, Keeps w [(w5.heap.size + 1 + 1, .bool sY, .slice AY nY cY), (w5.heap.size + 1, .bool sX, .slice AX nX cX), (w5.heap.size, .bool sG, .slice AG nG cG), (w.heap.size, .bool s, .slice A n c), (w.heap.size + 1, .bool t, .slice B m d)] W → (fun W => Keeps w [(w5.heap.size + 1 + 1, .bool sY, .slice AY nY cY), (w5.heap.size + 1, .bool sX, .slice AX nX cX), (w5.heap.size, .bool sG, .slice AG nG cG), (w.heap.size, .bool s, .slice A n c), (w.heap.size + 1, .bool t, .slice B m d)] W ∧ W.cell? ⟨w5.heap.size + 1 + 1, 0, none⟩ = some (.bool sY) ∧ W.cell? ⟨w5.heap.size + 1 + 1, 1, none⟩ = some (.slice AY nY cY) ∧ W.cell? ⟨w5.heap.size + 1, 0, none⟩ = some (.bool sX) ∧ W.cell? ⟨w5.heap.size + 1, 1, none⟩ = some (.slice AX nX cX) ∧ W.cell? ⟨w5.heap.size, 0, none⟩ = some (.bool sG) ∧ W.cell? ⟨w5.heap.size, 1, none⟩ = some (.slice AG nG cG) ∧ W.cell? ⟨w.heap.size, 0, none⟩ = some (.bool s) ∧ W.cell? ⟨w.heap.size, 1, none⟩ = some (.slice A n c) ∧ W.cell? ⟨w.heap.size + 1, 0, none⟩ = some (.bool t) ∧ W.cell? ⟨w.heap.size + 1, 1, none⟩ = some (.slice B m d)) W from fun W k => ⟨k, (k.blk (List.Mem.head _)).c0, (k.blk (List.Mem.head _)).c1, (k.blk (List.Mem.tail _ (List.Mem.head _))).c0, (k.blk (List.Mem.tail _ (List.Mem.head _))).c1, (k.blk (List.Mem.tail _ (List.Mem.tail _ (List.Mem.head _)))).c0, (k.blk (List.Mem.tail _ (List.Mem.tail _ (List.Mem.head _)))).c1, (k.blk (List.Mem.tail _ (List.Mem.tail _ (List.Mem.tail _ (List.Mem.head _))))).c0, (k.blk (List.Mem.tail _ (List.Mem.tail _ (List.Mem.tail _ (List.Mem.head _))))).c1, (k.blk (List.Mem.tail _ (List.Mem.tail _ (List.Mem.tail _ (List.Mem.tail _ (List.Mem.head _)))))).c0, (k.blk (List.Mem.tail _ (List.Mem.tail _ (List.Mem.tail _ (List.Mem.tail _ (List.Mem.head _)))))).c1⟩)
      have HK := hide K
      have T6 : Below (((w5.alloc (.cells #[.bool sG, .slice AG nG cG] 38)).alloc (.cells #[.bool sX, .slice AX nX cX] 38)).alloc (.cells #[.bool sY, .slice AY nY cY] 38)).heap.size (((w5.alloc (.cells #[.bool sG, .slice AG nG cG] 38)).alloc (.cells #[.bool sX, .slice AX nX cX] 38)).alloc (.cells #[.bool sY, .slice AY nY cY] 38)) (((w5.alloc (.cells #[.bool sG, .slice AG nG cG] 38)).alloc (.cells #[.bool sX, .slice AX nX cX] 38)).alloc (.cells #[.bool sY, .slice AY nY cY] 38)).drew := bl_drewN (((w5.alloc (.cells #[.bool sG, .slice AG nG cG] 38)).alloc (.cells #[.bool sX, .slice AX nX cX] 38)).alloc (.cells #[.bool sY, .slice AY nY cY] 38)) 1
      clear K
      go_wp2_with fail
      go_region_held3 (fun W => Keeps w [(w5.heap.size + 1 + 1, .bool sY, .slice AY nY cY), (w5.heap.size + 1, .bool sX, .slice AX nX cX), (w5.heap.size, .bool sG, .slice AG nG cG), (w.heap.size, .bool s, .slice A n c), (w.heap.size + 1, .bool t, .slice B m d)] W ∧ W.cell? ⟨w5.heap.size + 1 + 1, 0, none⟩ = some (.bool sY) ∧ W.cell? ⟨w5.heap.size + 1 + 1, 1, none⟩ = some (.slice AY nY cY) ∧ W.cell? ⟨w5.heap.size + 1, 0, none⟩ = some (.bool sX) ∧ W.cell? ⟨w5.heap.size + 1, 1, none⟩ = some (.slice AX nX cX) ∧ W.cell? ⟨w5.heap.size, 0, none⟩ = some (.bool sG) ∧ W.cell? ⟨w5.heap.size, 1, none⟩ = some (.slice AG nG cG) ∧ W.cell? ⟨w.heap.size, 0, none⟩ = some (.bool s) ∧ W.cell? ⟨w.heap.size, 1, none⟩ = some (.slice A n c) ∧ W.cell? ⟨w.heap.size + 1, 0, none⟩ = some (.bool t) ∧ W.cell? ⟨w.heap.size + 1, 1, none⟩ = some (.slice B m d))
        (with_reducible first | exact SOF.out _ HK.out.drew | exact SOF.out _ (Keeps.call (And.left (a := Keeps w _ _) (by assumption)) (by assumption)))
        (first
          | (go_at_call 41; (with_reducible refine (mul_z _ _ Z X 30 31 (((w5.alloc (.cells #[.bool sG, .slice AG nG cG] 38)).alloc (.cells #[.bool sX, .slice AX nX cX] 38)).alloc (.cells #[.bool sY, .slice AY nY cY] 38)).drew (hv.below (HK.out.old.next T6)) (rx.below T6).in_ (by omega) (by omega)).mono ?_); rintro e w7 ⟨v7, rfl, r7, b7⟩; have T7 := T6.next b7)
          | (go_at_call 41; (with_reducible refine (mul_z _ _ Y V 30 31 w7 (hu.below (HK.out.old.next T7)) (ry.below T7).in_ (by omega) (by omega)).mono ?_); rintro e w8 ⟨v8, rfl, r8, b8⟩; have T8 := T7.next b8; have r7 := r7.below b8)
          | (go_at_call 40; (with_reducible refine (add_z _ _ (Z * X) (Y * V) 61 w8 r7.in_ r8.in_ (by omega)).mono ?_); rintro e w9 ⟨v9, rfl, r9, b9⟩; have T9 := T8.next b9; replace r9 := r9.ofEq hsum.out)
          | (go_at_call 39; (with_reducible refine (cmp_same _ _ g 62 w9 r9.in_ ((rg.below T9).in_.mono (by omega)) (by omega)).mono ?_); rintro e w10 ⟨rfl, b10⟩; have T10 := T9.next b10)
          | (go_at_call 42; (with_reducible refine (HSG.out _ w10 (rg.below T10).in_).mono ?_); rintro e w11 ⟨rfl, b11⟩; have T11 := T10.next b11)
          | (go_at_call 28; (with_reducible refine (HGC.out w11 (hu.below (HK.out.old.next T11)) (hv.below (HK.out.old.next T11))).mono ?_); rintro e w12 ⟨v12, rfl, r12, b12⟩; have T12 := T11.next b12)
          | (go_at_call 39; (with_reducible refine (cmp_same _ _ g 31 w12 (rg.below T12).in_ (r12.in_.mono (by omega)) (by omega)).mono ?_); rintro e w13 ⟨rfl, b13⟩; have T13 := T12.next b13))
      have K := HK.out.call T13
      replace rg := rg.below T13
      replace rx := rx.below T13
      replace ry := ry.below T13
      clear HK SOF T6 T7 T8 T9 T10 T11 T12 T13
      have SOF := hide (show ∀ W, Keeps w [(w5.heap.size + 1 + 1, .bool sY, .slice AY nY cY), (w5.heap.size + 1, .bool sX, .slice AX nX cX), (w5.heap.size, .bool sG, .slice AG nG cG), (w.heap.size, .bool s, .slice A n c), (w.heap.size + 1, .bool t, .slice B m d)] W → (fun W => Keeps w [(w5.heap.size + 1 + 1, .bool sY, .slice AY nY cY), (w5.heap.size + 1, .bool sX, .slice AX nX cX), (w5.heap.size, .bool sG, .slice AG nG cG), (w.heap.size, .bool s, .slice A n c), (w.heap.size + 1, .bool t, .slice B m d)] W ∧ W.cell? ⟨w5.heap.size + 1 + 1, 0, none⟩ = some (.bool sY) ∧ W.cell? ⟨w5.heap.size + 1 + 1, 1, none⟩ = some (.slice AY nY cY) ∧ W.cell? ⟨w5.heap.size + 1, 0, none⟩ = some (.bool sX) ∧ W.cell? ⟨w5.heap.size + 1, 1, none⟩ = some (.slice AX nX cX) ∧ W.cell? ⟨w5.heap.size, 0, none⟩ = some (.bool sG) ∧ W.cell? ⟨w5.heap.size, 1, none⟩ = some (.slice AG nG cG) ∧ W.cell? ⟨w.heap.size, 0, none⟩ = some (.bool s) ∧ W.cell? ⟨w.heap.size, 1, none⟩ = some (.slice A n c) ∧ W.cell? ⟨w.heap.size + 1, 0, none⟩ = some (.bool t) ∧ W.cell? ⟨w.heap.size + 1, 1, none⟩ = some (.slice B m d)) W from fun W k => ⟨k, (k.blk (List.Mem.head _)).c0, (k.blk (List.Mem.head _)).c1, (k.blk (List.Mem.tail _ (List.Mem.head _))).c0, (k.blk (List.Mem.tail _ (List.Mem.head _))).c1, (k.blk (List.Mem.tail _ (List.Mem.tail _ (List.Mem.head _)))).c0, (k.blk (List.Mem.tail _ (List.Mem.tail _ (List.Mem.head _)))).c1, (k.blk (List.Mem.tail _ (List.Mem.tail _ (List.Mem.tail _ (List.Mem.head _))))).c0, (k.blk (List.Mem.tail _ (List.Mem.tail _ (List.Mem.tail _ (List.Mem.head _))))).c1, (k.blk (List.Mem.tail _ (List.Mem.tail _ (List.Mem.tail _ (List.Mem.tail _ (List.Mem.head _)))))).c0, (k.blk (List.Mem.tail _ (List.Mem.tail _ (List.Mem.tail _ (List.Mem.tail _ (List.Mem.head _)))))).c1⟩)
      have HK := hide K
      have T14 : Below w13.heap.size w13 w13.drew := bl_drewN w13 1
      clear K
      go_wp2_with fail
      go_region_held3 (fun W => Keeps w [(w5.heap.size + 1 + 1, .bool sY, .slice AY nY cY), (w5.heap.size + 1, .bool sX, .slice AX nX cX), (w5.heap.size, .bool sG, .slice AG nG cG), (w.heap.size, .bool s, .slice A n c), (w.heap.size + 1, .bool t, .slice B m d)] W ∧ W.cell? ⟨w5.heap.size + 1 + 1, 0, none⟩ = some (.bool sY) ∧ W.cell? ⟨w5.heap.size + 1 + 1, 1, none⟩ = some (.slice AY nY cY) ∧ W.cell? ⟨w5.heap.size + 1, 0, none⟩ = some (.bool sX) ∧ W.cell? ⟨w5.heap.size + 1, 1, none⟩ = some (.slice AX nX cX) ∧ W.cell? ⟨w5.heap.size, 0, none⟩ = some (.bool sG) ∧ W.cell? ⟨w5.heap.size, 1, none⟩ = some (.slice AG nG cG) ∧ W.cell? ⟨w.heap.size, 0, none⟩ = some (.bool s) ∧ W.cell? ⟨w.heap.size, 1, none⟩ = some (.slice A n c) ∧ W.cell? ⟨w.heap.size + 1, 0, none⟩ = some (.bool t) ∧ W.cell? ⟨w.heap.size + 1, 1, none⟩ = some (.slice B m d))
        (with_reducible first | exact SOF.out _ HK.out.drew | exact SOF.out _ (Keeps.call (And.left (a := Keeps w _ _) (by assumption)) (by assumption)))
        (first
          | (go_at_call 30; (with_reducible refine (HLC.out w13.drew (hv.below (HK.out.old.next T14)) (hu.below (HK.out.old.next T14))).mono ?_); rintro e w15 ⟨v15, rfl, r15, b15⟩; have T15 := T14.next b15)
          | (go_at_call 41; (with_reducible refine (mul_z _ _ L g 60 31 w15 r15.in_ (rg.below T15).in_ (by omega) (by omega)).mono ?_); rintro e w16 ⟨v16, rfl, r16, b16⟩; have T16 := T15.next b16; replace r16 := r16.ofEq hlg.out)
          | (go_at_call 41; (with_reducible refine (mul_z _ _ Z Y 30 30 w16 (hv.below (HK.out.old.next T16)) (hu.below (HK.out.old.next T16)) (by omega) (by omega)).mono ?_); rintro e w17 ⟨v17, rfl, r17, b17⟩; have T17 := T16.next b17; have r16 := r16.below b17)
          | (go_at_call 43; (with_reducible refine (abs_z _ (Z * Y) 60 w17 r17.in_ (by omega)).mono ?_); rintro e w18 ⟨v18, rfl, r18, b18⟩; have T18 := T17.next b18; have r16 := r16.below b18)
          | (go_at_call 39; (with_reducible refine (cmp_same _ _ (((Z * Y).natAbs : Nat) : Int) 91 w18 r16.in_ (r18.in_.mono (by omega)) (by omega)).mono ?_); rintro e w19 ⟨rfl, b19⟩; have T19 := T18.next b19))
      have K := HK.out.call T19
      replace rg := rg.below T19
      replace rx := rx.below T19
      replace ry := ry.below T19
      clear HK SOF T14 T15 T16 T17 T18 T19
      have cGa := (K.blk (List.Mem.tail _ (List.Mem.tail _ (List.Mem.head _)))).c0
      have cGb := (K.blk (List.Mem.tail _ (List.Mem.tail _ (List.Mem.head _)))).c1
      go_wp2_with fail
      refine (HSG.out _ w19 rg.in_).mono ?_
      rintro e w20 ⟨rfl, b20⟩
      clear cGa cGb
      replace K := K.call b20
      replace rg := rg.below b20
      replace rx := rx.below b20
      replace ry := ry.below b20
      clear b20
      have cxa := (K.blk (List.Mem.tail _ (List.Mem.tail _ (List.Mem.tail _ (List.Mem.head _))))).c0
      have cxb := (K.blk (List.Mem.tail _ (List.Mem.tail _ (List.Mem.tail _ (List.Mem.head _))))).c1
      go_wp2_with fail
      refine (HZ0.out w20 (hv.below K.old)).mono ?_
      rintro e w21 ⟨rfl, b21⟩
      clear cxa cxb
      replace K := K.call b21
      replace rg := rg.below b21
      replace rx := rx.below b21
      replace ry := ry.below b21
      clear b21
      have cya := (K.blk (List.Mem.tail _ (List.Mem.tail _ (List.Mem.tail _ (List.Mem.tail _ (List.Mem.head _)))))).c0
      have cyb := (K.blk (List.Mem.tail _ (List.Mem.tail _ (List.Mem.tail _ (List.Mem.tail _ (List.Mem.head _)))))).c1
      go_wp2_with fail
      refine (HY0.out w21 (hu.below K.old)).mono ?_
      rintro e w22 ⟨rfl, b22⟩
      clear cya cyb
      replace K := K.call b22
      replace rg := rg.below b22
      replace rx := rx.below b22
      replace ry := ry.below b22
      clear b22
      go_wp2_with fail
      go_ret
      exact ⟨rfl, K.old⟩
    · have HG0 := hide hg
      have HSN := hide (show g.sign = 1 from Int.sign_eq_one_of_pos (by have := hg0.out; omega))
      have HSG := hide (fun v W (h : ZIn W v g 31) => (show Calls Try.prog 42 #[v] W (fun e w' => e = .returned (.int .i64 1) ∧ Below W.heap.size W w') by
        have := sign_z v g 31 W h (by omega)
        unfold SignPost at this
        rw [HSN.out] at this
        exact this))
      clear hg hg0 hgz
      go_enter Try.func8, Try.ntmps8
      go_wp2_with fail
      refine (counting_any _).mono ?_
      rintro e w1 ⟨rfl, b1⟩
      replace K := K.call b1
      clear b1
      go_wp2_with fail
      refine (zdividing_any w1).mono ?_
      rintro e w2 ⟨rfl, b2⟩
      replace K := K.call b2
      clear b2
      go_wp2_with fail
      refine (zsharing_any w2).mono ?_
      rintro e w3 ⟨rfl, b3⟩
      replace K := K.call b3
      clear b3
      have cxa := (K.blk (List.Mem.head _)).c0
      have cxb := (K.blk (List.Mem.head _)).c1
      have cya := (K.blk (List.Mem.tail _ (List.Mem.head _))).c0
      have cyb := (K.blk (List.Mem.tail _ (List.Mem.head _))).c1
      go_wp2_with fail
      refine (z2short_yes _ _ Z Y 30 30 w3 (hv.below K.old) (hu.below K.old) (by omega) (by omega)).mono ?_
      rintro e w4 ⟨rfl, b4⟩
      clear cxa cxb cya cyb
      replace K := K.call b4
      clear b4
      have cxa := (K.blk (List.Mem.head _)).c0
      have cxb := (K.blk (List.Mem.head _)).c1
      have cya := (K.blk (List.Mem.tail _ (List.Mem.head _))).c0
      have cyb := (K.blk (List.Mem.tail _ (List.Mem.head _))).c1
      go_wp2_with fail
      refine (HBZ.out w4 (hv.below K.old) (hu.below K.old)).mono ?_
      rintro e w5 ⟨v5, v5a, v5b, rfl, rg, rx, ry, b5⟩
      clear cxa cxb cya cyb
      replace K := K.call b5
      clear b5
      obtain ⟨sG, AG, nG, cG, rfl⟩ := rg.form
      obtain ⟨sX, AX, nX, cX, rfl⟩ := rx.form
      obtain ⟨sY, AY, nY, cY, rfl⟩ := ry.form
      have tt := ((bl_alloc w5 (.cells #[.bool sG, .slice AG nG cG] 38)).next (bl_alloc _ (.cells #[.bool sX, .slice AX nX cX] 38))).next (bl_alloc _ (.cells #[.bool sY, .slice AY nY cY] 38))
      replace K := K.made3 (a := .bool sG) (b := .slice AG nG cG) (c := .bool sX) (d := .slice AX nX cX) (e := .bool sY) (f := .slice AY nY cY)
      replace rg := rg.below tt
      replace rx := rx.below tt
      replace ry := ry.below tt
      clear tt
      have SOF := hide (show ∀ W, Keeps w [(w5.heap.size + 1 + 1, .bool sY, .slice AY nY cY), (w5.heap.size + 1, .bool sX, .slice AX nX cX), (w5.heap.size, .bool sG, .slice AG nG cG), (w.heap.size, .bool s, .slice A n c), (w.heap.size + 1, .bool t, .slice B m d)] W → (fun W => Keeps w [(w5.heap.size + 1 + 1, .bool sY, .slice AY nY cY), (w5.heap.size + 1, .bool sX, .slice AX nX cX), (w5.heap.size, .bool sG, .slice AG nG cG), (w.heap.size, .bool s, .slice A n c), (w.heap.size + 1, .bool t, .slice B m d)] W ∧ W.cell? ⟨w5.heap.size + 1 + 1, 0, none⟩ = some (.bool sY) ∧ W.cell? ⟨w5.heap.size + 1 + 1, 1, none⟩ = some (.slice AY nY cY) ∧ W.cell? ⟨w5.heap.size + 1, 0, none⟩ = some (.bool sX) ∧ W.cell? ⟨w5.heap.size + 1, 1, none⟩ = some (.slice AX nX cX) ∧ W.cell? ⟨w5.heap.size, 0, none⟩ = some (.bool sG) ∧ W.cell? ⟨w5.heap.size, 1, none⟩ = some (.slice AG nG cG) ∧ W.cell? ⟨w.heap.size, 0, none⟩ = some (.bool s) ∧ W.cell? ⟨w.heap.size, 1, none⟩ = some (.slice A n c) ∧ W.cell? ⟨w.heap.size + 1, 0, none⟩ = some (.bool t) ∧ W.cell? ⟨w.heap.size + 1, 1, none⟩ = some (.slice B m d)) W from fun W k => ⟨k, (k.blk (List.Mem.head _)).c0, (k.blk (List.Mem.head _)).c1, (k.blk (List.Mem.tail _ (List.Mem.head _))).c0, (k.blk (List.Mem.tail _ (List.Mem.head _))).c1, (k.blk (List.Mem.tail _ (List.Mem.tail _ (List.Mem.head _)))).c0, (k.blk (List.Mem.tail _ (List.Mem.tail _ (List.Mem.head _)))).c1, (k.blk (List.Mem.tail _ (List.Mem.tail _ (List.Mem.tail _ (List.Mem.head _))))).c0, (k.blk (List.Mem.tail _ (List.Mem.tail _ (List.Mem.tail _ (List.Mem.head _))))).c1, (k.blk (List.Mem.tail _ (List.Mem.tail _ (List.Mem.tail _ (List.Mem.tail _ (List.Mem.head _)))))).c0, (k.blk (List.Mem.tail _ (List.Mem.tail _ (List.Mem.tail _ (List.Mem.tail _ (List.Mem.head _)))))).c1⟩)
      have HK := hide K
      have T6 : Below (((w5.alloc (.cells #[.bool sG, .slice AG nG cG] 38)).alloc (.cells #[.bool sX, .slice AX nX cX] 38)).alloc (.cells #[.bool sY, .slice AY nY cY] 38)).heap.size (((w5.alloc (.cells #[.bool sG, .slice AG nG cG] 38)).alloc (.cells #[.bool sX, .slice AX nX cX] 38)).alloc (.cells #[.bool sY, .slice AY nY cY] 38)) (((w5.alloc (.cells #[.bool sG, .slice AG nG cG] 38)).alloc (.cells #[.bool sX, .slice AX nX cX] 38)).alloc (.cells #[.bool sY, .slice AY nY cY] 38)).drew := bl_drewN (((w5.alloc (.cells #[.bool sG, .slice AG nG cG] 38)).alloc (.cells #[.bool sX, .slice AX nX cX] 38)).alloc (.cells #[.bool sY, .slice AY nY cY] 38)) 1
      clear K
      go_wp2_with fail
      go_region_held3 (fun W => Keeps w [(w5.heap.size + 1 + 1, .bool sY, .slice AY nY cY), (w5.heap.size + 1, .bool sX, .slice AX nX cX), (w5.heap.size, .bool sG, .slice AG nG cG), (w.heap.size, .bool s, .slice A n c), (w.heap.size + 1, .bool t, .slice B m d)] W ∧ W.cell? ⟨w5.heap.size + 1 + 1, 0, none⟩ = some (.bool sY) ∧ W.cell? ⟨w5.heap.size + 1 + 1, 1, none⟩ = some (.slice AY nY cY) ∧ W.cell? ⟨w5.heap.size + 1, 0, none⟩ = some (.bool sX) ∧ W.cell? ⟨w5.heap.size + 1, 1, none⟩ = some (.slice AX nX cX) ∧ W.cell? ⟨w5.heap.size, 0, none⟩ = some (.bool sG) ∧ W.cell? ⟨w5.heap.size, 1, none⟩ = some (.slice AG nG cG) ∧ W.cell? ⟨w.heap.size, 0, none⟩ = some (.bool s) ∧ W.cell? ⟨w.heap.size, 1, none⟩ = some (.slice A n c) ∧ W.cell? ⟨w.heap.size + 1, 0, none⟩ = some (.bool t) ∧ W.cell? ⟨w.heap.size + 1, 1, none⟩ = some (.slice B m d))
        (with_reducible first | exact SOF.out _ HK.out.drew | exact SOF.out _ (Keeps.call (And.left (a := Keeps w _ _) (by assumption)) (by assumption)))
        (first
          | (go_at_call 41; (with_reducible refine (mul_z _ _ Z X 30 31 (((w5.alloc (.cells #[.bool sG, .slice AG nG cG] 38)).alloc (.cells #[.bool sX, .slice AX nX cX] 38)).alloc (.cells #[.bool sY, .slice AY nY cY] 38)).drew (hv.below (HK.out.old.next T6)) (rx.below T6).in_ (by omega) (by omega)).mono ?_); rintro e w7 ⟨v7, rfl, r7, b7⟩; have T7 := T6.next b7)
          | (go_at_call 41; (with_reducible refine (mul_z _ _ Y V 30 31 w7 (hu.below (HK.out.old.next T7)) (ry.below T7).in_ (by omega) (by omega)).mono ?_); rintro e w8 ⟨v8, rfl, r8, b8⟩; have T8 := T7.next b8; have r7 := r7.below b8)
          | (go_at_call 40; (with_reducible refine (add_z _ _ (Z * X) (Y * V) 61 w8 r7.in_ r8.in_ (by omega)).mono ?_); rintro e w9 ⟨v9, rfl, r9, b9⟩; have T9 := T8.next b9; replace r9 := r9.ofEq hsum.out)
          | (go_at_call 39; (with_reducible refine (cmp_same _ _ g 62 w9 r9.in_ ((rg.below T9).in_.mono (by omega)) (by omega)).mono ?_); rintro e w10 ⟨rfl, b10⟩; have T10 := T9.next b10)
          | (go_at_call 42; (with_reducible refine (HSG.out _ w10 (rg.below T10).in_).mono ?_); rintro e w11 ⟨rfl, b11⟩; have T11 := T10.next b11)
          | (go_at_call 28; (with_reducible refine (HGC.out w11 (hu.below (HK.out.old.next T11)) (hv.below (HK.out.old.next T11))).mono ?_); rintro e w12 ⟨v12, rfl, r12, b12⟩; have T12 := T11.next b12)
          | (go_at_call 39; (with_reducible refine (cmp_same _ _ g 31 w12 (rg.below T12).in_ (r12.in_.mono (by omega)) (by omega)).mono ?_); rintro e w13 ⟨rfl, b13⟩; have T13 := T12.next b13))
      have K := HK.out.call T13
      replace rg := rg.below T13
      replace rx := rx.below T13
      replace ry := ry.below T13
      clear HK SOF T6 T7 T8 T9 T10 T11 T12 T13
      have SOF := hide (show ∀ W, Keeps w [(w5.heap.size + 1 + 1, .bool sY, .slice AY nY cY), (w5.heap.size + 1, .bool sX, .slice AX nX cX), (w5.heap.size, .bool sG, .slice AG nG cG), (w.heap.size, .bool s, .slice A n c), (w.heap.size + 1, .bool t, .slice B m d)] W → (fun W => Keeps w [(w5.heap.size + 1 + 1, .bool sY, .slice AY nY cY), (w5.heap.size + 1, .bool sX, .slice AX nX cX), (w5.heap.size, .bool sG, .slice AG nG cG), (w.heap.size, .bool s, .slice A n c), (w.heap.size + 1, .bool t, .slice B m d)] W ∧ W.cell? ⟨w5.heap.size + 1 + 1, 0, none⟩ = some (.bool sY) ∧ W.cell? ⟨w5.heap.size + 1 + 1, 1, none⟩ = some (.slice AY nY cY) ∧ W.cell? ⟨w5.heap.size + 1, 0, none⟩ = some (.bool sX) ∧ W.cell? ⟨w5.heap.size + 1, 1, none⟩ = some (.slice AX nX cX) ∧ W.cell? ⟨w5.heap.size, 0, none⟩ = some (.bool sG) ∧ W.cell? ⟨w5.heap.size, 1, none⟩ = some (.slice AG nG cG) ∧ W.cell? ⟨w.heap.size, 0, none⟩ = some (.bool s) ∧ W.cell? ⟨w.heap.size, 1, none⟩ = some (.slice A n c) ∧ W.cell? ⟨w.heap.size + 1, 0, none⟩ = some (.bool t) ∧ W.cell? ⟨w.heap.size + 1, 1, none⟩ = some (.slice B m d)) W from fun W k => ⟨k, (k.blk (List.Mem.head _)).c0, (k.blk (List.Mem.head _)).c1, (k.blk (List.Mem.tail _ (List.Mem.head _))).c0, (k.blk (List.Mem.tail _ (List.Mem.head _))).c1, (k.blk (List.Mem.tail _ (List.Mem.tail _ (List.Mem.head _)))).c0, (k.blk (List.Mem.tail _ (List.Mem.tail _ (List.Mem.head _)))).c1, (k.blk (List.Mem.tail _ (List.Mem.tail _ (List.Mem.tail _ (List.Mem.head _))))).c0, (k.blk (List.Mem.tail _ (List.Mem.tail _ (List.Mem.tail _ (List.Mem.head _))))).c1, (k.blk (List.Mem.tail _ (List.Mem.tail _ (List.Mem.tail _ (List.Mem.tail _ (List.Mem.head _)))))).c0, (k.blk (List.Mem.tail _ (List.Mem.tail _ (List.Mem.tail _ (List.Mem.tail _ (List.Mem.head _)))))).c1⟩)
      have HK := hide K
      have T14 : Below w13.heap.size w13 w13.drew := bl_drewN w13 1
      clear K
      go_wp2_with fail
      go_region_held3 (fun W => Keeps w [(w5.heap.size + 1 + 1, .bool sY, .slice AY nY cY), (w5.heap.size + 1, .bool sX, .slice AX nX cX), (w5.heap.size, .bool sG, .slice AG nG cG), (w.heap.size, .bool s, .slice A n c), (w.heap.size + 1, .bool t, .slice B m d)] W ∧ W.cell? ⟨w5.heap.size + 1 + 1, 0, none⟩ = some (.bool sY) ∧ W.cell? ⟨w5.heap.size + 1 + 1, 1, none⟩ = some (.slice AY nY cY) ∧ W.cell? ⟨w5.heap.size + 1, 0, none⟩ = some (.bool sX) ∧ W.cell? ⟨w5.heap.size + 1, 1, none⟩ = some (.slice AX nX cX) ∧ W.cell? ⟨w5.heap.size, 0, none⟩ = some (.bool sG) ∧ W.cell? ⟨w5.heap.size, 1, none⟩ = some (.slice AG nG cG) ∧ W.cell? ⟨w.heap.size, 0, none⟩ = some (.bool s) ∧ W.cell? ⟨w.heap.size, 1, none⟩ = some (.slice A n c) ∧ W.cell? ⟨w.heap.size + 1, 0, none⟩ = some (.bool t) ∧ W.cell? ⟨w.heap.size + 1, 1, none⟩ = some (.slice B m d))
        (with_reducible first | exact SOF.out _ HK.out.drew | exact SOF.out _ (Keeps.call (And.left (a := Keeps w _ _) (by assumption)) (by assumption)))
        (first
          | (go_at_call 30; (with_reducible refine (HLC.out w13.drew (hv.below (HK.out.old.next T14)) (hu.below (HK.out.old.next T14))).mono ?_); rintro e w15 ⟨v15, rfl, r15, b15⟩; have T15 := T14.next b15)
          | (go_at_call 41; (with_reducible refine (mul_z _ _ L g 60 31 w15 r15.in_ (rg.below T15).in_ (by omega) (by omega)).mono ?_); rintro e w16 ⟨v16, rfl, r16, b16⟩; have T16 := T15.next b16; replace r16 := r16.ofEq hlg.out)
          | (go_at_call 41; (with_reducible refine (mul_z _ _ Z Y 30 30 w16 (hv.below (HK.out.old.next T16)) (hu.below (HK.out.old.next T16)) (by omega) (by omega)).mono ?_); rintro e w17 ⟨v17, rfl, r17, b17⟩; have T17 := T16.next b17; have r16 := r16.below b17)
          | (go_at_call 43; (with_reducible refine (abs_z _ (Z * Y) 60 w17 r17.in_ (by omega)).mono ?_); rintro e w18 ⟨v18, rfl, r18, b18⟩; have T18 := T17.next b18; have r16 := r16.below b18)
          | (go_at_call 39; (with_reducible refine (cmp_same _ _ (((Z * Y).natAbs : Nat) : Int) 91 w18 r16.in_ (r18.in_.mono (by omega)) (by omega)).mono ?_); rintro e w19 ⟨rfl, b19⟩; have T19 := T18.next b19))
      have K := HK.out.call T19
      replace rg := rg.below T19
      replace rx := rx.below T19
      replace ry := ry.below T19
      clear HK SOF T14 T15 T16 T17 T18 T19
      have cGa := (K.blk (List.Mem.tail _ (List.Mem.tail _ (List.Mem.head _)))).c0
      have cGb := (K.blk (List.Mem.tail _ (List.Mem.tail _ (List.Mem.head _)))).c1
      go_wp2_with fail
      refine (HSG.out _ w19 rg.in_).mono ?_
      rintro e w20 ⟨rfl, b20⟩
      clear cGa cGb
      replace K := K.call b20
      replace rg := rg.below b20
      replace rx := rx.below b20
      replace ry := ry.below b20
      clear b20
      have cxa := (K.blk (List.Mem.tail _ (List.Mem.tail _ (List.Mem.tail _ (List.Mem.head _))))).c0
      have cxb := (K.blk (List.Mem.tail _ (List.Mem.tail _ (List.Mem.tail _ (List.Mem.head _))))).c1
      have cGa := (K.blk (List.Mem.tail _ (List.Mem.tail _ (List.Mem.head _)))).c0
      have cGb := (K.blk (List.Mem.tail _ (List.Mem.tail _ (List.Mem.head _)))).c1
      go_wp2_with fail
      refine (exact_even _ _ Z g 30 31 w20 (hv.below K.old) rg.in_ HG0.out (by omega) (by omega) hfm.out.1).mono ?_
      rintro e w21 ⟨v21, rfl, r21, b21⟩
      clear cxa cxb cGa cGb
      replace K := K.call b21
      replace rg := rg.below b21
      replace rx := rx.below b21
      replace ry := ry.below b21
      clear b21
      obtain ⟨sE, AE, nE, cE, rfl⟩ := r21.form
      have tt := bl_alloc w21 (.cells #[.bool sE, .slice AE nE cE] 38)
      replace K := K.made1 (a := .bool sE) (b := .slice AE nE cE)
      replace rg := rg.below tt
      replace rx := rx.below tt
      replace ry := ry.below tt
      replace r21 := r21.below tt
      clear tt
      have cya := (K.blk (List.Mem.tail _ (List.Mem.tail _ (List.Mem.tail _ (List.Mem.tail _ (List.Mem.tail _ (List.Mem.head _))))))).c0
      have cyb := (K.blk (List.Mem.tail _ (List.Mem.tail _ (List.Mem.tail _ (List.Mem.tail _ (List.Mem.tail _ (List.Mem.head _))))))).c1
      have cGa := (K.blk (List.Mem.tail _ (List.Mem.tail _ (List.Mem.tail _ (List.Mem.head _))))).c0
      have cGb := (K.blk (List.Mem.tail _ (List.Mem.tail _ (List.Mem.tail _ (List.Mem.head _))))).c1
      go_wp2_with fail
      refine (exact_even _ _ Y g 30 31 (w21.alloc (.cells #[.bool sE, .slice AE nE cE] 38)) (hu.below K.old) rg.in_ HG0.out (by omega) (by omega) hfm.out.2).mono ?_
      rintro e w22 ⟨v22, rfl, r22, b22⟩
      clear cya cyb cGa cGb
      replace K := K.call b22
      replace rg := rg.below b22
      replace rx := rx.below b22
      replace ry := ry.below b22
      replace r21 := r21.below b22
      clear b22
      obtain ⟨sF, AF, nF, cF, rfl⟩ := r22.form
      have tt := bl_alloc w22 (.cells #[.bool sF, .slice AF nF cF] 38)
      replace K := K.made1 (a := .bool sF) (b := .slice AF nF cF)
      replace rg := rg.below tt
      replace rx := rx.below tt
      replace ry := ry.below tt
      replace r21 := r21.below tt
      replace r22 := r22.below tt
      clear tt
      go_wp2_with fail
      go_ret
      exact ⟨rfl, K.old⟩
  · go_enter Try.func8, Try.ntmps8
    go_wp2_with fail
    refine (counting_any _).mono ?_
    rintro e w1 ⟨rfl, b1⟩
    replace K := K.call b1
    clear b1
    go_wp2_with fail
    refine (zdividing_any w1).mono ?_
    rintro e w2 ⟨rfl, b2⟩
    replace K := K.call b2
    clear b2
    go_wp2_with fail
    refine (zsharing_any w2).mono ?_
    rintro e w3 ⟨rfl, b3⟩
    replace K := K.call b3
    clear b3
    have cxa := (K.blk (List.Mem.head _)).c0
    have cxb := (K.blk (List.Mem.head _)).c1
    have cya := (K.blk (List.Mem.tail _ (List.Mem.head _))).c0
    have cyb := (K.blk (List.Mem.tail _ (List.Mem.head _))).c1
    go_wp2_with fail
    refine (z2short_no s t A B n c m d 30 w3 (by omega) (by omega) (by omega) (by omega)).mono ?_
    rintro e w4 ⟨rfl, b4⟩
    clear cxa cxb cya cyb
    replace K := K.call b4
    clear b4
    go_wp2_with fail
    go_ret
    exact ⟨rfl, K.old⟩
end Go.Proofs.Ytlihnagfmfpdcaa
