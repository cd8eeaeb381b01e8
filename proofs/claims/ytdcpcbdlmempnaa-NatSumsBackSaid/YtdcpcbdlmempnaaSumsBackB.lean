/- plumblinelaw01.NatSumsBack: the walk. -/
import Derived.Test.YtdcpcbdlmempnaaSumsBack
import Derived.Test.YtdcpcbdlmempnaaProdBack
namespace Go.Proofs.Ytdcpcbdlmempnaa
open Go.RowKit

theorem len_add3 {w : World} {A : Option Addr} {n a b c k : Nat} (h : Nums w A n (Limb.canon (a + b + c))) (ha : a < 4294967296 ^ k) (hb : b < 4294967296 ^ k) (hc : c < 4294967296 ^ k) : n ≤ k + 2 :=
  len_add (k := k + 1) h (add_lt a b k ha hb) (Nat.lt_of_lt_of_le hc (Limb.pow_mono (Nat.le_succ k)))

set_option maxHeartbeats 8000000 in
theorem natSumsBack_walk (A : Option Addr) (n c : Nat) (xs : List Nat) (B : Option Addr) (m d : Nat) (ys : List Nat) (C : Option Addr) (q u : Nat) (zs : List Nat) (w : World) (hx : Nums w A n xs) (hc : n ≤ c) (hm : c ≤ 9223372036854775807) (hy : Nums w B m ys) (hd : m ≤ d) (hmd : d ≤ 9223372036854775807) (hz : Nums w C q zs) (hu : q ≤ u) (hmu : u ≤ 9223372036854775807) :
    Calls Try.prog 9 #[.slice A n c, .slice B m d, .slice C q u] w (YesPost w) := by
  by_cases hs : n ≤ 300 ∧ m ≤ 300
  · obtain ⟨hn3, hm3⟩ := hs
    by_cases hq3 : q ≤ 300
    · have hxl := hide (lt_pow hx hn3)
      have hyl := hide (lt_pow hy hm3)
      have hzl := hide (lt_pow hz hq3)
      have HXL := hide hx.len
      go_enter Try.func9, Try.ntmps9
      go_wp2_with fail
      refine (adding_any w).mono ?_
      rintro e w1 ⟨rfl, b1⟩
      go_wp2_with fail
      refine (short_yes A B n c m d 300 w1 (by omega) (by omega) (by omega)).mono ?_
      rintro e w' ⟨rfl, rfl⟩
      have hx1 := hx.below b1
      have L0 := hide (Lst.empty w1 w1.heap.size (Nat.le_refl _))
      have ba := bl_alloc w1 (.cells #[] 48)
      have ta := b1.next ba
      have sa : w1.heap.size + 1 ≤ (w1.alloc (.cells #[] 48)).heap.size := by simp
      go_wp2_with (at_builtin; refine wpList_append_all _ rfl _ _ rfl w1.heap.size _ _ rfl L0.out A n c xs rfl (hx1.below ba) (by simp; omega) (by omega) ?_; intro v2 w2 L2 b2 s2)
      have t2 : Below w.heap.size w w2 := ta.trans (b2.mono b1.size)
      have t12 : Below w1.heap.size w1 w2 := ba.trans b2
      have s2' : w1.heap.size < w2.heap.size := by omega
      rw [List.nil_append] at L2
      obtain ⟨A2, c2, g2, rfl, N2, l2, m2, gb2, gl2, B2⟩ := L2.bump s2' HXL.out
      have HB2 := hide B2
      clear B2 L2 L0 b2 s2 ba ta sa
      go_wp2_with fail
      refine (add_any A2 B n c2 m d xs ys w2 N2 l2 m2 (by omega) (hy.below t2) hd hmd (by omega)).mono ?_
      rintro e w3 ⟨AS, nS, rfl, oS, b3⟩
      have t3 := t2.next b3
      have lS : nS ≤ 301 := len_add oS.nums hxl.out hyl.out
      have B3 := hide (HB2.out.drewN w3 b3 gl2)
      clear N2 HB2
      go_wp2_with fail
      go_loopw [37] (fun i wr => ∃ k : Nat, k ≤ n ∧ i = .int .i64 (k : Int) ∧ Hid (Bump A2 n g2 w3 wr)) (fun i _ => n - (intOf i).toNat)
      case atStart => exact ⟨0, Nat.zero_le _, rfl, B3⟩
      case round =>
        clear B3
        obtain ⟨k, hk, rfl, R⟩ := hrel
        by_cases hkn : k < n
        · obtain ⟨o, x, rfl, hx32, hcell, hfroz, hstep⟩ := R.out.at_ hkn
          have HS := hide hstep
          clear hstep
          go_wp2_with fail
          go_roundw
          case rel => exact ⟨k + 1, by omega, by go_num, HS.out _ (by omega) (by omega)⟩
          case measure => simp [intOf]; omega
        · have tr : Below w.heap.size w wr := t3.trans (R.out.1.below t3.size (by have := b1.size; omega))
          have oS2 := oS.grown0 R.out.1.gb (fun h0 => oS.apart h0 gl2)
          clear R oS
          go_wp2_with fail
          refine (sub_yes AS B nS nS m d _ ys wr oS2.nums (by omega) (by omega) (by omega) (hy.below tr) hd hmd (by rw [Limb.val_canon]; omega)).mono ?_
          rintro e w4 ⟨AD, nD, rfl, oD, b4⟩
          rw [Limb.val_canon, Nat.add_sub_cancel] at oD
          have lD : nD ≤ 300 := short_canon oD.nums hxl.out
          have t4 := tr.next b4
          go_wp2_with fail
          refine (sub_yes AS A nS nS n c _ xs w4 (oS2.nums.below b4) (by omega) (by omega) (by omega) (hx.below t4) hc hm (by rw [Limb.val_canon]; omega)).mono ?_
          rintro e w5 ⟨AE, nE, rfl, oE, b5⟩
          rw [Limb.val_canon, Nat.add_sub_cancel_left] at oE
          have lE : nE ≤ 300 := short_canon oE.nums hyl.out
          have t5 := t4.next b5
          have p5 := b4.next b5
          go_wp2_with fail
          refine (cmp_any AD A nD nD n c _ xs w5 (oD.nums.below b5) (by omega) (by omega) (hx.below t5) hc hm).mono ?_
          rintro e w6 ⟨rfl, k6, rfl⟩
          rw [Limb.val_canon, cmpN_eq']
          have d6 := bl_drewN w5 k6
          have t6 := t5.next d6
          go_wp2_with fail
          refine (cmp_any AE B nE nE m d _ ys _ (oE.nums.below d6) (by omega) (by omega) (hy.below t6) hd hmd).mono ?_
          rintro e w7 ⟨rfl, k7, rfl⟩
          rw [Limb.val_canon, cmpN_eq']
          have d7 := bl_drewN w5 (k6 + k7)
          have t7 := t5.next d7
          have p7 := p5.next d7
          go_wp2_with fail
          refine (add_any B A m d n c ys xs _ (hy.below t7) hd hmd (by omega) (hx.below t7) hc hm (by omega)).mono ?_
          rintro e w8 ⟨AF, nF, rfl, oF, b8⟩
          have lF : nF ≤ 301 := len_add oF.nums hyl.out hxl.out
          have t8 := t7.next b8
          have NS := oS2.nums.below (p7.next b8)
          clear oS2 p5 p7 d6 d7 t6 t7 oD oE b5 b4 t4 t5
          go_wp2_with fail
          refine (cmp_any AS AF nS nS nF nF _ _ w8 NS (by omega) (by omega) oF.nums (by omega) (by omega)).mono ?_
          rintro e w9 ⟨rfl, k9, rfl⟩
          rw [Limb.val_canon, Limb.val_canon, Nat.add_comm (Limb.val ys), cmpN_eq']
          have d9 := bl_drewN w8 k9
          have t9 := t8.next d9
          have NS9 := NS.below d9
          clear NS oF
          go_wp2_with fail
          refine (add_any A B n c m d xs ys _ (hx.below t9) hc hm (by omega) (hy.below t9) hd hmd (by omega)).mono ?_
          rintro e w10 ⟨A10, n10, rfl, o10, b10⟩
          have l10 : n10 ≤ 301 := len_add o10.nums hxl.out hyl.out
          have t10 := t9.next b10
          have NS10 := NS9.below b10
          clear NS9
          go_wp2_with fail
          refine (add_any A10 C n10 n10 q u _ zs w10 o10.nums (by omega) (by omega) (by omega) (hz.below t10) hu hmu (by omega)).mono ?_
          rintro e w11 ⟨AX, nX, rfl, oX, b11⟩
          rw [Limb.val_canon] at oX
          have lX : nX ≤ 302 := len_add3 oX.nums hxl.out hyl.out hzl.out
          have t11 := t10.next b11
          have NS11 := NS10.below b11
          clear NS10 o10
          go_wp2_with fail
          refine (add_any B C m d q u ys zs w11 (hy.below t11) hd hmd (by omega) (hz.below t11) hu hmu (by omega)).mono ?_
          rintro e w12 ⟨A12, n12, rfl, o12, b12⟩
          have l12 : n12 ≤ 301 := len_add o12.nums hyl.out hzl.out
          have t12 := t11.next b12
          have NS12 := NS11.below b12
          have NX12 := oX.nums.below b12
          clear NS11 oX
          go_wp2_with fail
          refine (add_any A A12 n c n12 n12 xs _ w12 (hx.below t12) hc hm (by omega) o12.nums (by omega) (by omega) (by omega)).mono ?_
          rintro e w13 ⟨AY, nY, rfl, oY, b13⟩
          rw [Limb.val_canon, ← Nat.add_assoc] at oY
          have lY : nY ≤ 302 := len_add3 oY.nums hxl.out hyl.out hzl.out
          have t13 := t12.next b13
          have NS13 := hide (NS12.below b13)
          have NX13 := hide (NX12.below b13)
          have NY13 := hide oY.nums
          clear NS12 NX12 o12 oY
          go_wp2_with fail
          refine (trim_any A n c xs _ (hx.below t13) hc hm (by omega)).mono ?_
          rintro e w14 ⟨AT, nT, rfl, oT, b14⟩
          have t14 := t13.next b14
          have lT : nT ≤ 300 := short_canon oT.nums hxl.out
          obtain ⟨gT, gTb, BT⟩ := oT.bump
          have HBT := hide BT
          clear oT BT
          go_wp2_with fail
          go_loopw [99] (fun i wr => ∃ k : Nat, k ≤ nT ∧ i = .int .i64 (k : Int) ∧ Hid (Bump AT nT gT w14 wr)) (fun i _ => nT - (intOf i).toNat)
          case atStart => exact ⟨0, Nat.zero_le _, rfl, HBT⟩
          case round =>
            clear HBT
            obtain ⟨j, hj, rfl, R⟩ := hrel
            by_cases hjn : j < nT
            · obtain ⟨o, x, rfl, hx32, hcell, hfroz, hstep⟩ := R.out.at_ hjn
              have HS := hide hstep
              clear hstep
              go_wp2_with fail
              go_roundw
              case rel => exact ⟨j + 1, by omega, by go_num, HS.out _ (by omega) (by omega)⟩
              case measure => simp [intOf]; omega
            · have tw : Below w.heap.size w wr := t14.trans (R.out.1.below t14.size (by have := t13.size; omega))
              have NS := (NS13.out.below b14).grown' R.out.1.gb (fun h0 => NS13.out.apart h0 gTb)
              have NX := (NX13.out.below b14).grown' R.out.1.gb (fun h0 => NX13.out.apart h0 gTb)
              have NY := (NY13.out.below b14).grown' R.out.1.gb (fun h0 => NY13.out.apart h0 gTb)
              clear R NS13 NX13 NY13
              go_wp2_with fail
              refine (cmp_any AX AY nX nX nY nY _ _ wr NX (by omega) (by omega) NY (by omega) (by omega)).mono ?_
              rintro e w15 ⟨rfl, k15, rfl⟩
              rw [Limb.val_canon, cmpN_eq']
              have d15 := bl_drewN wr k15
              have t15 := tw.next d15
              go_wp2_with fail
              refine (cmp_any AS A nS nS n c _ xs _ (NS.below d15) (by omega) (by omega) (hx.below t15) hc hm).mono ?_
              rintro e w16 ⟨rfl, k16, rfl⟩
              rw [Limb.val_canon]
              have g16 := cmpN_ge (Nat.le_add_right (Limb.val xs) (Limb.val ys))
              have s16 := cmpN_small (Limb.val xs + Limb.val ys) (Limb.val xs)
              generalize cmpN (Limb.val xs + Limb.val ys) (Limb.val xs) = z16 at g16 s16 ⊢
              have t16 := tw.next (bl_drewN wr (k15 + k16))
              go_wp2_with fail
              refine (cmp_any A B n c m d xs ys _ (hx.below t16) hc hm (hy.below t16) hd hmd).mono ?_
              rintro e w17 ⟨rfl, k17, rfl⟩
              have t17 := tw.next (bl_drewN wr (k15 + k16 + k17))
              have s17 := cmpN_small (Limb.val xs) (Limb.val ys)
              have f17 := hide (cmpN_flip (Limb.val xs) (Limb.val ys))
              generalize cmpN (Limb.val xs) (Limb.val ys) = z17 at s17 f17 ⊢
              go_wp2_with fail
              refine (cmp_any B A m d n c ys xs _ (hy.below t17) hd hmd (hx.below t17) hc hm).mono ?_
              rintro e w18 ⟨rfl, k18, rfl⟩
              rw [f17.out]
              have t18 := tw.next (bl_drewN wr (k15 + k16 + k17 + k18))
              clear f17
              go_wp2_with fail
              refine (trim_any A n c xs _ (hx.below t18) hc hm (by omega)).mono ?_
              rintro e w19 ⟨A19, n19, rfl, o19, b19⟩
              have t19 := t18.next b19
              have l19 : n19 ≤ 300 := short_canon o19.nums hxl.out
              go_wp2_with fail
              refine (cmp_any A19 A n19 n19 n c _ xs w19 o19.nums (by omega) (by omega) (hx.below t19) hc hm).mono ?_
              rintro e w20 ⟨rfl, k20, rfl⟩
              rw [Limb.val_canon, cmpN_eq']
              go_wp2_with fail
              go_ret
              exact ⟨rfl, t19.next (bl_drewN _ k20)⟩
    · go_enter Try.func9, Try.ntmps9
      go_wp2_with fail
      refine (adding_any w).mono ?_
      rintro e w1 ⟨rfl, b1⟩
      go_wp2_with fail
      refine (short_yes A B n c m d 300 w1 (by omega) (by omega) (by omega)).mono ?_
      rintro e w' ⟨rfl, rfl⟩
      go_wp2_with fail
      go_ret
      exact ⟨rfl, b1⟩
  · go_enter Try.func9, Try.ntmps9
    go_wp2_with fail
    refine (adding_any w).mono ?_
    rintro e w1 ⟨rfl, b1⟩
    go_wp2_with fail
    refine (short_no A B n c m d 300 w1 (by omega) (by omega) (by omega) (by omega)).mono ?_
    rintro e w' ⟨rfl, rfl⟩
    go_wp2_with fail
    go_ret
    exact ⟨rfl, b1⟩
end Go.Proofs.Ytdcpcbdlmempnaa
