/- Texts of one seat, put together: ExprWk. -/
import Derived.Test.YtneiajkcikcnnaaDoorB30
set_option linter.unusedVariables false
/- 'ExprWalks', walked. -/
namespace Go.Proofs.YtneiajkcikcnnaaDoor
open Go.RowKit
open Lx Ex

theorem OpTab.lt {w : World} (h : OpTab w) : 1 < w.heap.size := by
  have := h 0 (by decide)
  unfold World.cell? at this
  rcases Nat.lt_or_ge 1 w.heap.size with q | q
  · exact q
  · rw [Array.getElem?_eq_none q] at this; cases this
theorem whole_both (s : ByteArray) (known : Bool) (A0 : Option Addr) (n0 c0 : Nat) (xs : List ByteArray) (w : World) (hs : s.size ≤ 2000) (hx : SIn w A0 n0 xs) (hA : A0 = none → n0 = 0 ∧ c0 = 0) (hn : n0 ≤ 1000) (htab : OpTab w) :
    Calls Tryd.prog 13 #[.string s, .slice A0 n0 c0, .bool known, .func (.func 9) #[] #[]] w (fun e w' => ∃ (kd : Int) (Al : Option Addr) (nl cl : Nat) (Ar : Option Addr) (nr cr : Nat) (op : Int) (p q : ByteArray) (A : Option Addr) (n c : Nat) (x y z : Nat), e = .returned (.tuple #[.agg #[.int .i64 kd, .slice Al nl cl, .slice Ar nr cr, .int .i64 op, .string p, .string q, .slice A n c], .agg #[.int .i64 x, .int .i64 y], .int .i64 z]) ∧ Below w.heap.size w w' ∧
      ((lexAll (byteAt s) s.size).code = 0 → x = endL (hd (toksK s) (opos (toksK s) 0 (parsF (fun x => !known || memS x xs) .cond 60 (rd (toksK s) 0)))).kind (ocd (parsF (fun x => !known || memS x xs) .cond 60 (rd (toksK s) 0))) (hd (toksK s) (opos (toksK s) 0 (parsF (fun x => !known || memS x xs) .cond 60 (rd (toksK s) 0)))).line ∧ y = endL (hd (toksK s) (opos (toksK s) 0 (parsF (fun x => !known || memS x xs) .cond 60 (rd (toksK s) 0)))).kind (ocd (parsF (fun x => !known || memS x xs) .cond 60 (rd (toksK s) 0))) (hd (toksK s) (opos (toksK s) 0 (parsF (fun x => !known || memS x xs) .cond 60 (rd (toksK s) 0)))).col ∧ z = endC (hd (toksK s) (opos (toksK s) 0 (parsF (fun x => !known || memS x xs) .cond 60 (rd (toksK s) 0)))).kind (ocd (parsF (fun x => !known || memS x xs) .cond 60 (rd (toksK s) 0))) ∧ (endC (hd (toksK s) (opos (toksK s) 0 (parsF (fun x => !known || memS x xs) .cond 60 (rd (toksK s) 0)))).kind (ocd (parsF (fun x => !known || memS x xs) .cond 60 (rd (toksK s) 0))) = 0 → TIn (From w.heap.size) w' (otree (parsF (fun x => !known || memS x xs) .cond 60 (rd (toksK s) 0))) [.int .i64 kd, .slice Al nl cl, .slice Ar nr cr, .int .i64 op, .string p, .string q, .slice A n c]))) := by
  by_cases hc : (lexAll (byteAt s) s.size).code = 0
  · refine (whole_norm s known A0 n0 c0 xs w hs hx hA hn htab (toksK s) (fun x => !known || memS x xs) rfl rfl hc).mono ?_
    rintro e w' ⟨kd, Al, nl, cl, Ar, nr, cr, op, p, q, A, n, c, he, hT, hb⟩
    exact ⟨kd, Al, nl, cl, Ar, nr, cr, op, p, q, A, n, c, _, _, _, he, hb, fun _ => ⟨rfl, rfl, rfl, hT⟩⟩
  · refine (whole_bad s known A0 n0 c0 xs w hs hx hA hn htab hc).mono ?_
    rintro e w' ⟨kd, Al, nl, cl, Ar, nr, cr, op, p, q, A, n, c, x, y, z, he, hb⟩
    exact ⟨kd, Al, nl, cl, Ar, nr, cr, op, p, q, A, n, c, x, y, z, he, hb, fun h => absurd h hc⟩
set_option maxRecDepth 100000 in
set_option maxHeartbeats 64000000 in
theorem exprWalks_walk (hwk : ∀ W, Calls Tryd.prog 4 #[] W (LexYes W)) (s : ByteArray) (f : Int) (A : Option Addr) (n c : Nat) (xs : List ByteArray) (known : Bool) (w0 : World) (hx : SIn w0 A n xs) (hA : A = none → n = 0 ∧ c = 0) (hnc : n ≤ c) (hcm : c ≤ 9223372036854775807) (htab : OpTab w0) :
    Calls Tryd.prog 3 #[.string s, .int .i64 f, .slice A n c, .bool known] w0 (LexYes w0) := by
  have HWK := hide hwk
  clear hwk
  by_cases h1 : 2000 < s.size
  · have g1 : (2000 : Int) < (s.size : Int) := by omega
    clear h1
    go_enter Tryd.func3, Tryd.ntmps3
    go_wp2_with fail
    refine (HWK.out _).mono ?_
    rintro e w1 ⟨rfl, b1⟩
    have B1 := hide b1
    clear b1 HWK
    go_wp2_with fail
    go_ret
    exact ⟨rfl, B1.out⟩
  · have g1 : ¬ (2000 : Int) < (s.size : Int) := by omega
    by_cases h2 : 100 < n
    · have g2 : (100 : Int) < (n : Int) := by omega
      clear h2
      go_enter Tryd.func3, Tryd.ntmps3
      go_wp2_with fail
      refine (HWK.out _).mono ?_
      rintro e w1 ⟨rfl, b1⟩
      have B1 := hide b1
      clear b1 HWK
      go_wp2_with fail
      go_ret
      exact ⟨rfl, B1.out⟩
    · have g2 : ¬ (100 : Int) < (n : Int) := by omega
      obtain ⟨fi, hfi, hbits⟩ : ∃ q : Nat, q ≤ 4095 ∧ bits .and .i64 f 4095 = (q : Int) := ⟨(f % 4096).toNat, by omega, by rw [i64_low4095]; omega⟩
      have HLX := hide (fun W => lex_norm s W (by omega))
      have HRL := hide (fun W => rlex_norm s W (by omega))
      have HLE := hide (toksK_len s)
      have hcd := hide (rfl : (lexAll (byteAt s) s.size).code = (lexAll (byteAt s) s.size).code)
      obtain ⟨cd, hcde⟩ : ∃ cd, cd = (lexAll (byteAt s) s.size).code := ⟨_, rfl⟩
      obtain ⟨ps, hps⟩ : ∃ ps, ps = resPos s (lexAll (byteAt s) s.size) := ⟨_, rfl⟩
      rw [← hcde, ← hps] at HLX HRL
      have HCD := hide hcde
      obtain ⟨nn, hnn⟩ : ∃ nn, nn = (toksK s).length := ⟨_, rfl⟩
      rw [← hnn] at HLX HRL HLE
      have HNN := hide hnn
      have HL1 := hide (olist_few (s := s) (kn := fun x => !known || memS x xs) (i := fi))
      have HT1 := hide (otree_small (s := s) (kn := fun x => !known || memS x xs) (i := fi))
      have HT0 := hide (otree_small (s := s) (kn := fun x => !known || memS x xs) (i := 0))
      have HSUM := hide (fun A1 c1 g W (h : Cur ⟨A1, nn, c1, toksK s, A, n, c, xs, known⟩ g W fi) => sum_norm ⟨A1, nn, c1, toksK s, A, n, c, xs, known⟩ g fi W (toksK s) (fun x => !known || memS x xs) rfl rfl h)
      have HRSUM := hide (fun A2 c2 W (h : Tp ⟨A2, nn, c2, toksK s, A, n, c, xs, known⟩ W fi) => rsum_norm ⟨A2, nn, c2, toksK s, A, n, c, xs, known⟩ fi W (toksK s) (fun x => !known || memS x xs) rfl rfl h)
      have HCON := hide (fun A1 c1 g W (h : Cur ⟨A1, nn, c1, toksK s, A, n, c, xs, known⟩ g W fi) (ht : OpTab W) => cond_norm ⟨A1, nn, c1, toksK s, A, n, c, xs, known⟩ g fi W (toksK s) (fun x => !known || memS x xs) rfl rfl h ht)
      have HRCON := hide (fun A2 c2 W (h : Tp ⟨A2, nn, c2, toksK s, A, n, c, xs, known⟩ W fi) => rcond_norm ⟨A2, nn, c2, toksK s, A, n, c, xs, known⟩ fi W (toksK s) (fun x => !known || memS x xs) rfl rfl h)
      have HRC0 := hide (fun A2 c2 W (h : Tp ⟨A2, nn, c2, toksK s, A, n, c, xs, known⟩ W 0) => rcond_norm ⟨A2, nn, c2, toksK s, A, n, c, xs, known⟩ 0 W (toksK s) (fun x => !known || memS x xs) rfl rfl h)
      have HWH := hide (fun W (hx : SIn W A n xs) (ht : OpTab W) => whole_both s known A n c xs W (by omega) hx hA (by omega) ht)
      rw [← HCD.out] at HWH
      generalize sumP (fun x => !known || memS x xs) (rd (toksK s) fi) = O1 at *
      generalize parsF (fun x => !known || memS x xs) .cond 60 (rd (toksK s) fi) = O2 at *
      generalize parsF (fun x => !known || memS x xs) .cond 60 (rd (toksK s) 0) = O0 at *
      obtain ⟨L1, hL1⟩ : ∃ L1, L1 = olist O1 := ⟨_, rfl⟩
      obtain ⟨cd1, hcd1⟩ : ∃ cd1, cd1 = ocd O1 := ⟨_, rfl⟩
      obtain ⟨p1, hp1⟩ : ∃ p1, p1 = opos (toksK s) fi O1 := ⟨_, rfl⟩
      rw [← hL1] at HL1
      simp only [← hL1, ← hcd1, ← hp1] at HSUM HRSUM
      obtain ⟨G2, hG2⟩ : ∃ G2, G2 = otree O2 := ⟨_, rfl⟩
      obtain ⟨cd2, hcd2⟩ : ∃ cd2, cd2 = ocd O2 := ⟨_, rfl⟩
      obtain ⟨p2, hp2⟩ : ∃ p2, p2 = opos (toksK s) fi O2 := ⟨_, rfl⟩
      rw [← hG2] at HT1
      simp only [← hG2, ← hcd2, ← hp2] at HCON HRCON
      obtain ⟨G0, hG0⟩ : ∃ G0, G0 = otree O0 := ⟨_, rfl⟩
      obtain ⟨cd0, hcd0⟩ : ∃ cd0, cd0 = ocd O0 := ⟨_, rfl⟩
      obtain ⟨p0, hp0⟩ : ∃ p0, p0 = opos (toksK s) 0 O0 := ⟨_, rfl⟩
      rw [← hG0] at HT0
      simp only [← hG0, ← hcd0, ← hp0] at HRC0 HWH
      clear hL1 hcd1 hp1 hG2 hcd2 hp2 hG0 hcd0 hp0 O1 O2 O0
      have e1 : ((cd1 : Int) != (cd1 : Int)) = false := by simp
      have e2 : ((cd2 : Int) != (cd2 : Int)) = false := by simp
      have e0 : ((cd : Int) != (cd : Int)) = false := by simp
      clear hcd hcde hps hnn
      go_enter Tryd.func3, Tryd.ntmps3
      go_wp2_with fail
      refine (HWK.out _).mono ?_
      rintro e w1 ⟨rfl, b1⟩
      have B1 := hide b1
      clear b1 HWK
      go_wp2_with fail
      refine (HLX.out _).mono ?_
      rintro e w2 ⟨A1, c1, rfl, b2, n1, n2, k1⟩
      have hb2 := bl_alloc w2 (.cells #[.int .i64 (ps.1 : Nat), .int .i64 (ps.2 : Nat)] 26)
      have K1 := hide (k1.below hb2)
      have B2 := hide ((B1.out.next b2).next hb2)
      clear b2 hb2 k1 B1
      go_wp2_with fail
      generalize hW2 : w2.alloc (.cells #[.int .i64 (ps.1 : Nat), .int .i64 (ps.2 : Nat)] 26) = W2 at *
      clear hW2
      refine (HRL.out _).mono ?_
      rintro e w3 ⟨A2, c2, rfl, b3, n3, n4, k2⟩
      have hb3 := bl_alloc w3 (.cells #[.int .i64 (ps.1 : Nat), .int .i64 (ps.2 : Nat)] 26)
      obtain ⟨B, hB⟩ : ∃ B, B = (w3.alloc (.cells #[.int .i64 (ps.1 : Nat), .int .i64 (ps.2 : Nat)] 26)).heap.size := ⟨_, rfl⟩
      have BS3 := hide (show Bs s w0 B A1 c1 A2 c2 nn A n c xs (w3.alloc (.cells #[.int .i64 (ps.1 : Nat), .int .i64 (ps.2 : Nat)] 26)) from by
        have bel := (B2.out.next b3).next hb3
        have kk1 := (K1.out.below b3).below hb3
        have kk2 := k2.below hb3
        have sn := hx.below bel
        have tab := htab.below bel
        refine ⟨bel, by rw [hB]; exact bel.size, Nat.le_of_eq hB, HNN.out.symm, kk1, kk2, sn, tab, fun h0 a e => ?_, fun h0 a e => ?_, fun h0 a e => ?_, by rw [hB]; exact tab.lt, n1, n2, n3, n4, hnc, hcm, by omega⟩
        · obtain ⟨b, o, e2, hlt, -⟩ := kk1.2 h0
          rw [e2] at e; injection e with e; subst e; rw [hB]; exact hlt
        · obtain ⟨b, o, e2, hlt, -⟩ := kk2.2 h0
          rw [e2] at e; injection e with e; subst e; rw [hB]; exact hlt
        · obtain ⟨b, o, e2, hlt, -⟩ := sn.2 h0
          rw [e2] at e; injection e with e; subst e; rw [hB]; exact hlt)
      have hBs := hB.symm
      clear b3 hb3 k2 K1 B2 n1 n2 n3 n4 hx htab hnc hcm HLX HRL hB
      go_wp2_with fail
      generalize hW3 : w3.alloc (.cells #[.int .i64 (ps.1 : Nat), .int .i64 (ps.2 : Nat)] 26) = W3 at *
      clear hW3
      obtain ⟨x0, x1, x2, x3, x4⟩ := bstart3 35 35 37 W3 #[.slice A1 nn c1, .int .i64 (fi : Int), .slice A n c, .bool known] #[.slice A1 nn c1, .int .i64 (fi : Int), .slice A n c, .bool known] #[.slice A2 nn c2, .int .i64 (fi : Int), .slice A n c, .bool known]
      rw [hBs] at x0 x1 x2
      have hzB : B + 1 + 1 < ((((W3.alloc (.cells #[.slice A1 nn c1, .int .i64 (fi : Int), .slice A n c, .bool known] 35)).alloc (.cells #[.slice A1 nn c1, .int .i64 (fi : Int), .slice A n c, .bool known] 35)).alloc (.cells #[.slice A2 nn c2, .int .i64 (fi : Int), .slice A n c, .bool known] 37))).heap.size := x2.lt
      have BS4 := hide (BS3.out.below x3)
      have X0 := hide x0
      have X1 := hide x1
      have XT := hide x2
      clear x0 x1 x2 x3 x4 BS3 hBs
      generalize hW4 : ((W3.alloc (.cells #[.slice A1 nn c1, .int .i64 (fi : Int), .slice A n c, .bool known] 35)).alloc (.cells #[.slice A1 nn c1, .int .i64 (fi : Int), .slice A n c, .bool known] 35)).alloc (.cells #[.slice A2 nn c2, .int .i64 (fi : Int), .slice A n c, .bool known] 37) = W4 at *
      clear hW4
      refine (HSUM.out _ _ _ _ (BS4.out.cur X0.out (Nat.le_refl _) (BS4.out.fits (by omega)))).mono ?_
      rintro e W5 ⟨AL, cL, rfl, hm1, hw⟩
      have BS5 := hide (BS4.out.only hw.1 (Nat.le_refl _))
      have Y0 := hide hw.2.box
      have Y1 := hide (X1.out.other hw.1 (by omega))
      have YT := hide (XT.out.other hw.1 (by omega))
      have M1 := hide hm1
      have hs5 := hw.1.size
      clear hw hm1 BS4 X0 X1 XT HSUM
      have TPT := YT.out.cell
      go_wp2_with fail
      have BS_101 := hide (BS5.out)
      have c0_102 := hide (Y0.out)
      have c1_103 := hide (Y1.out)
      have t17_104 := hide (YT.out)
      have m1_105 := hide (M1.out)
      clear BS5 Y0 Y1 YT M1 TPT
      refine (HRSUM.out _ _ _ (BS_101.out.tp (BS_101.out.fits (by omega)))).mono ?_
      rintro e W6 ⟨AR, cR, rfl, hm2, hf1, hb⟩
      have hs6 := hb.size
      have BS_106 := hide (BS_101.out.below hb)
      have c0_107 := hide (c0_102.out.next hb)
      have c1_108 := hide (c1_103.out.next hb)
      have t17_109 := hide (t17_104.out.next hb)
      have m1_110 := hide (m1_105.out.keep (Keep.of_below hb))
      clear BS_101 c0_102 c1_103 t17_104 m1_105
      have m2_111 := hide (hm2)
      clear hb hm2 HRSUM
      have hb := bl_alloc W6 (.cells #[.slice A2 nn c2, .int .i64 (p1 : Int), .slice A n c, .bool known] 37)
      have hsV6 := hb.size
      have BS_112 := hide (BS_106.out.below hb)
      have c0_113 := hide (c0_107.out.next hb)
      have c1_114 := hide (c1_108.out.next hb)
      have t17_115 := hide (t17_109.out.next hb)
      have m1_116 := hide (m1_110.out.keep (Keep.of_below hb))
      have m2_117 := hide (m2_111.out.keep (Keep.of_below hb))
      clear BS_106 c0_107 c1_108 t17_109 m1_110 m2_111
      have t20_118 := hide (Box.new 37 W6 #[.slice A2 nn c2, .int .i64 (p1 : Int), .slice A n c, .bool known])
      clear hb
      go_wp2_with fail
      generalize hV : W6.alloc (.cells #[.slice A2 nn c2, .int .i64 (p1 : Int), .slice A n c, .bool known] 37) = V6 at *
      clear hV
      refine (HCON.out _ _ _ _ (BS_112.out.cur c1_114.out (by omega) (BS_112.out.fits (by omega))) BS_112.out.tab).mono ?_
      rintro e W7 ⟨kdu, Alu, nlu, clu, Aru, nru, cru, opu, pu, qu, Au, nu, cu, rfl, hT, hw⟩
      have hs7 := hw.1.size
      have BS_119 := hide (BS_112.out.only hw.1 (by omega))
      have c0_120 := hide (c0_113.out.other hw.1 (by omega))
      have t17_121 := hide (t17_115.out.other hw.1 (by omega))
      have m1_122 := hide (m1_116.out.keep (Keep.of_only' hw.1 (by unfold From; omega)))
      have m2_123 := hide (m2_117.out.keep (Keep.of_only' hw.1 (by unfold From; omega)))
      have t20_124 := hide (t20_118.out.other hw.1 (by omega))
      clear BS_112 c0_113 c1_114 t17_115 m1_116 m2_117 t20_118
      have c1_125 := hide (hw.2.box)
      have g1_126 := hide (hT)
      have hfp2 := hw.2.fits
      clear hw hT HCON
      have hb := bl_alloc W7 (.cells #[.int .i64 kdu, .slice Alu nlu clu, .slice Aru nru cru, .int .i64 opu, .string pu, .string qu, .slice Au nu cu] 45)
      have hsV7 := hb.size
      have BS_127 := hide (BS_119.out.below hb)
      have c0_128 := hide (c0_120.out.next hb)
      have t17_129 := hide (t17_121.out.next hb)
      have m1_130 := hide (m1_122.out.keep (Keep.of_below hb))
      have m2_131 := hide (m2_123.out.keep (Keep.of_below hb))
      have t20_132 := hide (t20_124.out.next hb)
      have c1_133 := hide (c1_125.out.next hb)
      have g1_134 := hide (g1_126.out.keep (Keep.of_below hb))
      clear BS_119 c0_120 t17_121 m1_122 m2_123 t20_124 c1_125 g1_126
      have t23_135 := hide (Box.new 45 W7 #[.int .i64 kdu, .slice Alu nlu clu, .slice Aru nru cru, .int .i64 opu, .string pu, .string qu, .slice Au nu cu])
      clear hb
      have TPT := t17_129.out.cell
      go_wp2_with fail
      generalize hV : W7.alloc (.cells #[.int .i64 kdu, .slice Alu nlu clu, .slice Aru nru cru, .int .i64 opu, .string pu, .string qu, .slice Au nu cu] 45) = V7 at *
      clear hV TPT
      refine (HRCON.out _ _ _ (BS_127.out.tp (BS_127.out.fits (by omega)))).mono ?_
      rintro e W8 ⟨kdv, Alv, nlv, clv, Arv, nrv, crv, opv, pv, qv, Av, nv, cv, rfl, hT, -, hb⟩
      have hs8 := hb.size
      have BS_136 := hide (BS_127.out.below hb)
      have c0_137 := hide (c0_128.out.next hb)
      have t17_138 := hide (t17_129.out.next hb)
      have m1_139 := hide (m1_130.out.keep (Keep.of_below hb))
      have m2_140 := hide (m2_131.out.keep (Keep.of_below hb))
      have t20_141 := hide (t20_132.out.next hb)
      have c1_142 := hide (c1_133.out.next hb)
      have g1_143 := hide (g1_134.out.keep (Keep.of_below hb))
      have t23_144 := hide (t23_135.out.next hb)
      clear BS_127 c0_128 t17_129 m1_130 m2_131 t20_132 c1_133 g1_134 t23_135
      have g2_145 := hide (hT)
      clear hb hT HRCON
      have hb := bl_alloc W8 (.cells #[.slice A2 nn c2, .int .i64 (p2 : Int), .slice A n c, .bool known] 37)
      have hsX8 := hb.size
      have BS_146 := hide (BS_136.out.below hb)
      have c0_147 := hide (c0_137.out.next hb)
      have t17_148 := hide (t17_138.out.next hb)
      have m1_149 := hide (m1_139.out.keep (Keep.of_below hb))
      have m2_150 := hide (m2_140.out.keep (Keep.of_below hb))
      have t20_151 := hide (t20_141.out.next hb)
      have c1_152 := hide (c1_142.out.next hb)
      have g1_153 := hide (g1_143.out.keep (Keep.of_below hb))
      have t23_154 := hide (t23_144.out.next hb)
      have g2_155 := hide (g2_145.out.keep (Keep.of_below hb))
      clear BS_136 c0_137 t17_138 m1_139 m2_140 t20_141 c1_142 g1_143 t23_144 g2_145
      have t25_156 := hide (Box.new 37 W8 #[.slice A2 nn c2, .int .i64 (p2 : Int), .slice A n c, .bool known])
      clear hb
      have hz8 := World.size_alloc W8 (.cells #[.slice A2 nn c2, .int .i64 (p2 : Int), .slice A n c, .bool known] 37)
      generalize hX : W8.alloc (.cells #[.slice A2 nn c2, .int .i64 (p2 : Int), .slice A n c, .bool known] 37) = X8 at *
      have hb := bl_alloc X8 (.cells #[.int .i64 kdv, .slice Alv nlv clv, .slice Arv nrv crv, .int .i64 opv, .string pv, .string qv, .slice Av nv cv] 45)
      have hsV8 := hb.size
      have BS_157 := hide (BS_146.out.below hb)
      have c0_158 := hide (c0_147.out.next hb)
      have t17_159 := hide (t17_148.out.next hb)
      have m1_160 := hide (m1_149.out.keep (Keep.of_below hb))
      have m2_161 := hide (m2_150.out.keep (Keep.of_below hb))
      have t20_162 := hide (t20_151.out.next hb)
      have c1_163 := hide (c1_152.out.next hb)
      have g1_164 := hide (g1_153.out.keep (Keep.of_below hb))
      have t23_165 := hide (t23_154.out.next hb)
      have g2_166 := hide (g2_155.out.keep (Keep.of_below hb))
      have t25_167 := hide (t25_156.out.next hb)
      clear BS_146 c0_147 t17_148 m1_149 m2_150 t20_151 c1_152 g1_153 t23_154 g2_155 t25_156
      clear hb
      have t26_168 := hide ((by have hh := Box.new 45 X8 #[.int .i64 kdv, .slice Alv nlv clv, .slice Arv nrv crv, .int .i64 opv, .string pv, .string qv, .slice Av nv cv]; rw [hz8] at hh; exact hh : Box 45 (X8.alloc (.cells #[.int .i64 kdv, .slice Alv nlv clv, .slice Arv nrv crv, .int .i64 opv, .string pv, .string qv, .slice Av nv cv] 45)) (W8.heap.size + 1) #[.int .i64 kdv, .slice Alv nlv clv, .slice Arv nrv crv, .int .i64 opv, .string pv, .string qv, .slice Av nv cv]))
      have hz8 := hz8
      go_upto_region 17 with fail
      generalize hV : X8.alloc (.cells #[.int .i64 kdv, .slice Alv nlv clv, .slice Arv nrv crv, .int .i64 opv, .string pv, .string qv, .slice Av nv cv] 45) = V8 at *
      clear hV hX
      have SOF := hide (show ∀ W, Below V8.heap.size V8 W → (W.cell? ⟨B, 1, none⟩ = some (.int .i64 (p1 : Int)) ∧ W.cell? ⟨W6.heap.size, 1, none⟩ = some (.int .i64 (p1 : Int)) ∧ W.cell? ⟨B + 1, 1, none⟩ = some (.int .i64 (p2 : Int)) ∧ W.cell? ⟨W8.heap.size, 1, none⟩ = some (.int .i64 (p2 : Int)) ∧ W.cell? ⟨W7.heap.size, 0, none⟩ = some (.int .i64 kdu) ∧ W.cell? ⟨W7.heap.size, 1, none⟩ = some (.slice Alu nlu clu) ∧ W.cell? ⟨W7.heap.size, 2, none⟩ = some (.slice Aru nru cru) ∧ W.cell? ⟨W7.heap.size, 3, none⟩ = some (.int .i64 opu) ∧ W.cell? ⟨W7.heap.size, 4, none⟩ = some (.string pu) ∧ W.cell? ⟨W7.heap.size, 5, none⟩ = some (.string qu) ∧ W.cell? ⟨W7.heap.size, 6, none⟩ = some (.slice Au nu cu) ∧ W.cell? ⟨W8.heap.size + 1, 0, none⟩ = some (.int .i64 kdv) ∧ W.cell? ⟨W8.heap.size + 1, 1, none⟩ = some (.slice Alv nlv clv) ∧ W.cell? ⟨W8.heap.size + 1, 2, none⟩ = some (.slice Arv nrv crv) ∧ W.cell? ⟨W8.heap.size + 1, 3, none⟩ = some (.int .i64 opv) ∧ W.cell? ⟨W8.heap.size + 1, 4, none⟩ = some (.string pv) ∧ W.cell? ⟨W8.heap.size + 1, 5, none⟩ = some (.string qv) ∧ W.cell? ⟨W8.heap.size + 1, 6, none⟩ = some (.slice Av nv cv)) from fun W h => ⟨(c0_158.out.next h).cell 1 _ rfl, (t20_162.out.next h).cell 1 _ rfl, (c1_163.out.next h).cell 1 _ rfl, (t25_167.out.next h).cell 1 _ rfl, (t23_165.out.next h).cell 0 _ rfl, (t23_165.out.next h).cell 1 _ rfl, (t23_165.out.next h).cell 2 _ rfl, (t23_165.out.next h).cell 3 _ rfl, (t23_165.out.next h).cell 4 _ rfl, (t23_165.out.next h).cell 5 _ rfl, (t23_165.out.next h).cell 6 _ rfl, (t26_168.out.next h).cell 0 _ rfl, (t26_168.out.next h).cell 1 _ rfl, (t26_168.out.next h).cell 2 _ rfl, (t26_168.out.next h).cell 3 _ rfl, (t26_168.out.next h).cell 4 _ rfl, (t26_168.out.next h).cell 5 _ rfl, (t26_168.out.next h).cell 6 _ rfl⟩)
      have HSS := hide (fun W (h : Below V8.heap.size V8 W) => samesum_yes _ _ AL AR L1.length cL cR L1 W (m1_160.out.keep (Keep.of_below h)) (m2_161.out.keep (Keep.of_below h)) (by have := HL1.out; omega))
      have HSA := hide (fun W (h : Below V8.heap.size V8 W) => same_yes g1_164.out HT1.out W _ _ h (g2_166.out.keep (Keep.of_below h)))
      unfold LexYes at HSS HSA
      refine wp_drawn (by kernel_rfl) (by kernel_rfl) (by kernel_rfl) (fun w w' => Below w.heap.size w w') (fun j v w => match j with | 0 => v = .int .i64 (cd1 : Nat) | 1 => v = .int .i64 (cd1 : Nat) | 2 => v = .bool false | 3 => v = .bool false | 4 => v = .pointer (some ⟨B, 0, none⟩) | 5 => v = .pointer (some ⟨B, 0, none⟩) | 6 => v = .pointer (some ⟨B, 1, none⟩) | 7 => v = .int .i64 (p1 : Int) | 8 => v = .pointer (some ⟨W6.heap.size, 1, none⟩) | 9 => v = .int .i64 (p1 : Int) | 10 => v = .bool false | 11 => v = .bool false | 12 => v = .bool false | 13 => v = .slice AL L1.length cL | 14 => v = .slice AR L1.length cR | 15 => v = .bool true | 16 => v = .bool false | 17 => v = .bool false | 18 => v = .bool false | 19 => v = .int .i64 (cd2 : Nat) | 20 => v = .int .i64 (cd2 : Nat) | 21 => v = .bool false | 22 => v = .bool false | 23 => v = .bool false | 24 => v = .pointer (some ⟨B + 1, 0, none⟩) | 25 => v = .pointer (some ⟨B + 1, 0, none⟩) | 26 => v = .pointer (some ⟨B + 1, 1, none⟩) | 27 => v = .int .i64 (p2 : Int) | 28 => v = .pointer (some ⟨W8.heap.size, 1, none⟩) | 29 => v = .int .i64 (p2 : Int) | 30 => v = .bool false | 31 => v = .bool false | 32 => v = .bool false | 33 => v = .agg #[.int .i64 kdu, .slice Alu nlu clu, .slice Aru nru cru, .int .i64 opu, .string pu, .string qu, .slice Au nu cu] | 34 => v = .agg #[.int .i64 kdv, .slice Alv nlv clv, .slice Arv nrv crv, .int .i64 opv, .string pv, .string qv, .slice Av nv cv] | 35 => v = .bool true | 36 => v = .bool false | 37 => v = .bool false | _ => True) (fun _ _ w => Below V8.heap.size V8 w) ?_ (fun _ => bl_drewN V8 1) ?_ ?_
      · intro j v w w' hT h
        match j, h with
        | 0, h => exact h
        | 1, h => exact h
        | 2, h => exact h
        | 3, h => exact h
        | 4, h => exact h
        | 5, h => exact h
        | 6, h => exact h
        | 7, h => exact h
        | 8, h => exact h
        | 9, h => exact h
        | 10, h => exact h
        | 11, h => exact h
        | 12, h => exact h
        | 13, h => exact h
        | 14, h => exact h
        | 15, h => exact h
        | 16, h => exact h
        | 17, h => exact h
        | 18, h => exact h
        | 19, h => exact h
        | 20, h => exact h
        | 21, h => exact h
        | 22, h => exact h
        | 23, h => exact h
        | 24, h => exact h
        | 25, h => exact h
        | 26, h => exact h
        | 27, h => exact h
        | 28, h => exact h
        | 29, h => exact h
        | 30, h => exact h
        | 31, h => exact h
        | 32, h => exact h
        | 33, h => exact h
        | 34, h => exact h
        | 35, h => exact h
        | 36, h => exact h
        | 37, h => exact h
        | j + 38, h => trivial
      · refine ⟨?_, ?_, ?_, ?_, ?_, ?_, ?_, ?_, ?_, ?_, ?_, ?_, ?_, ?_, ?_, ?_, ?_, ?_, ?_, ?_, ?_, ?_, ?_, ?_, ?_, ?_, ?_, ?_, ?_, ?_, ?_, ?_, ?_, ?_, ?_, ?_, ?_, ?_, trivial⟩
        · intro listed σ w a hin hout hl hc hp hG hF
          refine Guarded.none rfl ?_
          have e19 : a.tmps.getD 19 undef = .int .i64 (cd1 : Nat) := hout 19 (outB_spec (by kernel_rfl))
          refine Does.val (.int .i64 (cd1 : Nat)) (w' := w) ?_ ⟨Below.refl _ _, rfl, hG⟩
          simp only [Array.getD_eq_getD_getElem?] at e19
          go_simp
        · intro listed σ w a hin hout hl hc hp hG hF
          refine Guarded.none rfl ?_
          have e22 : a.tmps.getD 22 undef = .int .i64 (cd1 : Nat) := hout 22 (outB_spec (by kernel_rfl))
          refine Does.val (.int .i64 (cd1 : Nat)) (w' := w) ?_ ⟨Below.refl _ _, rfl, hG⟩
          simp only [Array.getD_eq_getD_getElem?] at e22
          go_simp
        · intro listed σ w a hin hout hl hc hp hG hF
          refine Guarded.none rfl ?_
          have e103 : a.tmps.getD 103 undef = .int .i64 (cd1 : Nat) := (hin 0 103 rfl (hp ⟨0, .data⟩ (by simp) rfl)).trans (hF 0 (hp ⟨0, .data⟩ (by simp) rfl))
          have e104 : a.tmps.getD 104 undef = .int .i64 (cd1 : Nat) := (hin 1 104 rfl (hp ⟨1, .data⟩ (by simp) rfl)).trans (hF 1 (hp ⟨1, .data⟩ (by simp) rfl))
          refine Does.val (.bool false) (w' := w) ?_ ⟨Below.refl _ _, rfl, hG⟩
          simp only [Array.getD_eq_getD_getElem?] at e103 e104
          go_simp
        · intro listed σ w a hin hout hl hc hp hG hF
          refine Guarded.none rfl ?_
          have e105 : a.tmps.getD 105 undef = .bool false := (hin 2 105 rfl (hp ⟨2, .data⟩ (by simp) rfl)).trans (hF 2 (hp ⟨2, .data⟩ (by simp) rfl))
          refine Does.val (.bool false) (w' := w) ?_ ⟨Below.refl _ _, rfl, hG⟩
          simp only [Array.getD_eq_getD_getElem?] at e105
          go_simp
        · intro listed σ w a hin hout hl hc hp hG hF
          refine Guarded.some (d := 106) (b := false) rfl rfl ((hin 3 106 rfl (hp ⟨3, .guard⟩ (by simp) rfl)).trans (hF 3 (hp ⟨3, .guard⟩ (by simp) rfl))) ?_
          refine Or.inl ⟨rfl, ?_⟩
          have e15 : a.tmps.getD 15 undef = .pointer (some ⟨B, 0, none⟩) := hout 15 (outB_spec (by kernel_rfl))
          refine Does.val (.pointer (some ⟨B, 0, none⟩)) (w' := w) ?_ ⟨Below.refl _ _, rfl, hG⟩
          simp only [Array.getD_eq_getD_getElem?] at e15
          go_simp
        · intro listed σ w a hin hout hl hc hp hG hF
          refine Guarded.some (d := 106) (b := false) rfl rfl ((hin 3 106 rfl (hp ⟨3, .guard⟩ (by simp) rfl)).trans (hF 3 (hp ⟨3, .guard⟩ (by simp) rfl))) ?_
          refine Or.inl ⟨rfl, ?_⟩
          have e107 : a.tmps.getD 107 undef = .pointer (some ⟨B, 0, none⟩) := (hin 4 107 rfl (hp ⟨4, .data⟩ (by simp) rfl)).trans (hF 4 (hp ⟨4, .data⟩ (by simp) rfl))
          refine Does.val (.pointer (some ⟨B, 0, none⟩)) (w' := w) ?_ ⟨Below.refl _ _, rfl, hG⟩
          simp only [Array.getD_eq_getD_getElem?] at e107
          go_simp
        · intro listed σ w a hin hout hl hc hp hG hF
          refine Guarded.some (d := 106) (b := false) rfl rfl ((hin 3 106 rfl (hp ⟨3, .guard⟩ (by simp) rfl)).trans (hF 3 (hp ⟨3, .guard⟩ (by simp) rfl))) ?_
          refine Or.inl ⟨rfl, ?_⟩
          have e108 : a.tmps.getD 108 undef = .pointer (some ⟨B, 0, none⟩) := (hin 5 108 rfl (hp ⟨5, .data⟩ (by simp) rfl)).trans (hF 5 (hp ⟨5, .data⟩ (by simp) rfl))
          refine Does.val (.pointer (some ⟨B, 1, none⟩)) (w' := w) ?_ ⟨Below.refl _ _, rfl, hG⟩
          simp only [Array.getD_eq_getD_getElem?] at e108
          go_simp
        · intro listed σ w a hin hout hl hc hp hG hF
          refine Guarded.some (d := 106) (b := false) rfl rfl ((hin 3 106 rfl (hp ⟨3, .guard⟩ (by simp) rfl)).trans (hF 3 (hp ⟨3, .guard⟩ (by simp) rfl))) ?_
          refine Or.inl ⟨rfl, ?_⟩
          have e109 : a.tmps.getD 109 undef = .pointer (some ⟨B, 1, none⟩) := (hin 6 109 rfl (hp ⟨6, .data⟩ (by simp) rfl)).trans (hF 6 (hp ⟨6, .data⟩ (by simp) rfl))
          have CC := SOF.out w hG; obtain ⟨C0, C1, C2, C3, C4, C5, C6, C7, C8, C9, C10, C11, C12, C13, C14, C15, C16, C17⟩ := CC
          refine Does.val (.int .i64 (p1 : Int)) (w' := w) ?_ ⟨Below.refl _ _, rfl, hG⟩
          go_simp
        · intro listed σ w a hin hout hl hc hp hG hF
          refine Guarded.some (d := 106) (b := false) rfl rfl ((hin 3 106 rfl (hp ⟨3, .guard⟩ (by simp) rfl)).trans (hF 3 (hp ⟨3, .guard⟩ (by simp) rfl))) ?_
          refine Or.inl ⟨rfl, ?_⟩
          have e20 : a.tmps.getD 20 undef = .pointer (some ⟨W6.heap.size, 0, none⟩) := hout 20 (outB_spec (by kernel_rfl))
          refine Does.val (.pointer (some ⟨W6.heap.size, 1, none⟩)) (w' := w) ?_ ⟨Below.refl _ _, rfl, hG⟩
          simp only [Array.getD_eq_getD_getElem?] at e20
          go_simp
        · intro listed σ w a hin hout hl hc hp hG hF
          refine Guarded.some (d := 106) (b := false) rfl rfl ((hin 3 106 rfl (hp ⟨3, .guard⟩ (by simp) rfl)).trans (hF 3 (hp ⟨3, .guard⟩ (by simp) rfl))) ?_
          refine Or.inl ⟨rfl, ?_⟩
          have e111 : a.tmps.getD 111 undef = .pointer (some ⟨W6.heap.size, 1, none⟩) := (hin 8 111 rfl (hp ⟨8, .data⟩ (by simp) rfl)).trans (hF 8 (hp ⟨8, .data⟩ (by simp) rfl))
          have CC := SOF.out w hG; obtain ⟨C0, C1, C2, C3, C4, C5, C6, C7, C8, C9, C10, C11, C12, C13, C14, C15, C16, C17⟩ := CC
          refine Does.val (.int .i64 (p1 : Int)) (w' := w) ?_ ⟨Below.refl _ _, rfl, hG⟩
          go_simp
        · intro listed σ w a hin hout hl hc hp hG hF
          refine Guarded.some (d := 106) (b := false) rfl rfl ((hin 3 106 rfl (hp ⟨3, .guard⟩ (by simp) rfl)).trans (hF 3 (hp ⟨3, .guard⟩ (by simp) rfl))) ?_
          refine Or.inl ⟨rfl, ?_⟩
          have e110 : a.tmps.getD 110 undef = .int .i64 (p1 : Int) := (hin 7 110 rfl (hp ⟨7, .data⟩ (by simp) rfl)).trans (hF 7 (hp ⟨7, .data⟩ (by simp) rfl))
          have e112 : a.tmps.getD 112 undef = .int .i64 (p1 : Int) := (hin 9 112 rfl (hp ⟨9, .data⟩ (by simp) rfl)).trans (hF 9 (hp ⟨9, .data⟩ (by simp) rfl))
          refine Does.val (.bool false) (w' := w) ?_ ⟨Below.refl _ _, rfl, hG⟩
          simp only [Array.getD_eq_getD_getElem?] at e110 e112
          go_simp
        · intro listed σ w a hin hout hl hc hp hG hF
          refine Guarded.none rfl ?_
          have e106 : a.tmps.getD 106 undef = .bool false := (hin 3 106 rfl (hp ⟨3, .data⟩ (by simp) rfl)).trans (hF 3 (hp ⟨3, .data⟩ (by simp) rfl))
          have e113 : a.tmps.getD 113 undef = .bool false := (hin 10 113 rfl (hp ⟨10, .data⟩ (by simp) rfl)).trans (hF 10 (hp ⟨10, .data⟩ (by simp) rfl))
          refine Does.val (.bool false) (w' := w) ?_ ⟨Below.refl _ _, rfl, hG⟩
          simp only [Array.getD_eq_getD_getElem?] at e106 e113
          go_simp
        · intro listed σ w a hin hout hl hc hp hG hF
          refine Guarded.none rfl ?_
          have e114 : a.tmps.getD 114 undef = .bool false := (hin 11 114 rfl (hp ⟨11, .data⟩ (by simp) rfl)).trans (hF 11 (hp ⟨11, .data⟩ (by simp) rfl))
          refine Does.val (.bool false) (w' := w) ?_ ⟨Below.refl _ _, rfl, hG⟩
          simp only [Array.getD_eq_getD_getElem?] at e114
          go_simp
        · intro listed σ w a hin hout hl hc hp hG hF
          refine Guarded.some (d := 115) (b := false) rfl rfl ((hin 12 115 rfl (hp ⟨12, .guard⟩ (by simp) rfl)).trans (hF 12 (hp ⟨12, .guard⟩ (by simp) rfl))) ?_
          refine Or.inl ⟨rfl, ?_⟩
          have e18 : a.tmps.getD 18 undef = .slice AL L1.length cL := hout 18 (outB_spec (by kernel_rfl))
          refine Does.val (.slice AL L1.length cL) (w' := w) ?_ ⟨Below.refl _ _, rfl, hG⟩
          simp only [Array.getD_eq_getD_getElem?] at e18
          go_simp
        · intro listed σ w a hin hout hl hc hp hG hF
          refine Guarded.some (d := 115) (b := false) rfl rfl ((hin 12 115 rfl (hp ⟨12, .guard⟩ (by simp) rfl)).trans (hF 12 (hp ⟨12, .guard⟩ (by simp) rfl))) ?_
          refine Or.inl ⟨rfl, ?_⟩
          have e21 : a.tmps.getD 21 undef = .slice AR L1.length cR := hout 21 (outB_spec (by kernel_rfl))
          refine Does.val (.slice AR L1.length cR) (w' := w) ?_ ⟨Below.refl _ _, rfl, hG⟩
          simp only [Array.getD_eq_getD_getElem?] at e21
          go_simp
        · intro listed σ w a hin hout hl hc hp hG hF
          refine Guarded.some (d := 115) (b := false) rfl rfl ((hin 12 115 rfl (hp ⟨12, .guard⟩ (by simp) rfl)).trans (hF 12 (hp ⟨12, .guard⟩ (by simp) rfl))) ?_
          refine Or.inl ⟨rfl, ?_⟩
          have e116 : a.tmps.getD 116 undef = .slice AL L1.length cL := (hin 13 116 rfl (hp ⟨13, .data⟩ (by simp) rfl)).trans (hF 13 (hp ⟨13, .data⟩ (by simp) rfl))
          have e117 : a.tmps.getD 117 undef = .slice AR L1.length cR := (hin 14 117 rfl (hp ⟨14, .data⟩ (by simp) rfl)).trans (hF 14 (hp ⟨14, .data⟩ (by simp) rfl))
          refine Does.call ?_ (HSS.out w hG) ?_
          · go_simp
          · rintro e w' ⟨rfl, hb⟩
            exact ⟨_, rfl, hb, rfl, hG.next hb⟩
        · intro listed σ w a hin hout hl hc hp hG hF
          refine Guarded.some (d := 115) (b := false) rfl rfl ((hin 12 115 rfl (hp ⟨12, .guard⟩ (by simp) rfl)).trans (hF 12 (hp ⟨12, .guard⟩ (by simp) rfl))) ?_
          refine Or.inl ⟨rfl, ?_⟩
          have e118 : a.tmps.getD 118 undef = .bool true := (hin 15 118 rfl (hp ⟨15, .data⟩ (by simp) rfl)).trans (hF 15 (hp ⟨15, .data⟩ (by simp) rfl))
          refine Does.val (.bool false) (w' := w) ?_ ⟨Below.refl _ _, rfl, hG⟩
          simp only [Array.getD_eq_getD_getElem?] at e118
          go_simp
        · intro listed σ w a hin hout hl hc hp hG hF
          refine Guarded.none rfl ?_
          have e115 : a.tmps.getD 115 undef = .bool false := (hin 12 115 rfl (hp ⟨12, .data⟩ (by simp) rfl)).trans (hF 12 (hp ⟨12, .data⟩ (by simp) rfl))
          have e119 : a.tmps.getD 119 undef = .bool false := (hin 16 119 rfl (hp ⟨16, .data⟩ (by simp) rfl)).trans (hF 16 (hp ⟨16, .data⟩ (by simp) rfl))
          refine Does.val (.bool false) (w' := w) ?_ ⟨Below.refl _ _, rfl, hG⟩
          simp only [Array.getD_eq_getD_getElem?] at e115 e119
          go_simp
        · intro listed σ w a hin hout hl hc hp hG hF
          refine Guarded.none rfl ?_
          have e120 : a.tmps.getD 120 undef = .bool false := (hin 17 120 rfl (hp ⟨17, .data⟩ (by simp) rfl)).trans (hF 17 (hp ⟨17, .data⟩ (by simp) rfl))
          refine Does.val (.bool false) (w' := w) ?_ ⟨Below.refl _ _, rfl, hG⟩
          simp only [Array.getD_eq_getD_getElem?] at e120
          go_simp
        · intro listed σ w a hin hout hl hc hp hG hF
          refine Guarded.some (d := 121) (b := false) rfl rfl ((hin 18 121 rfl (hp ⟨18, .guard⟩ (by simp) rfl)).trans (hF 18 (hp ⟨18, .guard⟩ (by simp) rfl))) ?_
          refine Or.inl ⟨rfl, ?_⟩
          have e24 : a.tmps.getD 24 undef = .int .i64 (cd2 : Nat) := hout 24 (outB_spec (by kernel_rfl))
          refine Does.val (.int .i64 (cd2 : Nat)) (w' := w) ?_ ⟨Below.refl _ _, rfl, hG⟩
          simp only [Array.getD_eq_getD_getElem?] at e24
          go_simp
        · intro listed σ w a hin hout hl hc hp hG hF
          refine Guarded.some (d := 121) (b := false) rfl rfl ((hin 18 121 rfl (hp ⟨18, .guard⟩ (by simp) rfl)).trans (hF 18 (hp ⟨18, .guard⟩ (by simp) rfl))) ?_
          refine Or.inl ⟨rfl, ?_⟩
          have e27 : a.tmps.getD 27 undef = .int .i64 (cd2 : Nat) := hout 27 (outB_spec (by kernel_rfl))
          refine Does.val (.int .i64 (cd2 : Nat)) (w' := w) ?_ ⟨Below.refl _ _, rfl, hG⟩
          simp only [Array.getD_eq_getD_getElem?] at e27
          go_simp
        · intro listed σ w a hin hout hl hc hp hG hF
          refine Guarded.some (d := 121) (b := false) rfl rfl ((hin 18 121 rfl (hp ⟨18, .guard⟩ (by simp) rfl)).trans (hF 18 (hp ⟨18, .guard⟩ (by simp) rfl))) ?_
          refine Or.inl ⟨rfl, ?_⟩
          have e122 : a.tmps.getD 122 undef = .int .i64 (cd2 : Nat) := (hin 19 122 rfl (hp ⟨19, .data⟩ (by simp) rfl)).trans (hF 19 (hp ⟨19, .data⟩ (by simp) rfl))
          have e123 : a.tmps.getD 123 undef = .int .i64 (cd2 : Nat) := (hin 20 123 rfl (hp ⟨20, .data⟩ (by simp) rfl)).trans (hF 20 (hp ⟨20, .data⟩ (by simp) rfl))
          refine Does.val (.bool false) (w' := w) ?_ ⟨Below.refl _ _, rfl, hG⟩
          simp only [Array.getD_eq_getD_getElem?] at e122 e123
          go_simp
        · intro listed σ w a hin hout hl hc hp hG hF
          refine Guarded.none rfl ?_
          have e121 : a.tmps.getD 121 undef = .bool false := (hin 18 121 rfl (hp ⟨18, .data⟩ (by simp) rfl)).trans (hF 18 (hp ⟨18, .data⟩ (by simp) rfl))
          have e124 : a.tmps.getD 124 undef = .bool false := (hin 21 124 rfl (hp ⟨21, .data⟩ (by simp) rfl)).trans (hF 21 (hp ⟨21, .data⟩ (by simp) rfl))
          refine Does.val (.bool false) (w' := w) ?_ ⟨Below.refl _ _, rfl, hG⟩
          simp only [Array.getD_eq_getD_getElem?] at e121 e124
          go_simp
        · intro listed σ w a hin hout hl hc hp hG hF
          refine Guarded.none rfl ?_
          have e125 : a.tmps.getD 125 undef = .bool false := (hin 22 125 rfl (hp ⟨22, .data⟩ (by simp) rfl)).trans (hF 22 (hp ⟨22, .data⟩ (by simp) rfl))
          refine Does.val (.bool false) (w' := w) ?_ ⟨Below.refl _ _, rfl, hG⟩
          simp only [Array.getD_eq_getD_getElem?] at e125
          go_simp
        · intro listed σ w a hin hout hl hc hp hG hF
          refine Guarded.some (d := 126) (b := false) rfl rfl ((hin 23 126 rfl (hp ⟨23, .guard⟩ (by simp) rfl)).trans (hF 23 (hp ⟨23, .guard⟩ (by simp) rfl))) ?_
          refine Or.inl ⟨rfl, ?_⟩
          have e16 : a.tmps.getD 16 undef = .pointer (some ⟨B + 1, 0, none⟩) := hout 16 (outB_spec (by kernel_rfl))
          refine Does.val (.pointer (some ⟨B + 1, 0, none⟩)) (w' := w) ?_ ⟨Below.refl _ _, rfl, hG⟩
          simp only [Array.getD_eq_getD_getElem?] at e16
          go_simp
        · intro listed σ w a hin hout hl hc hp hG hF
          refine Guarded.some (d := 126) (b := false) rfl rfl ((hin 23 126 rfl (hp ⟨23, .guard⟩ (by simp) rfl)).trans (hF 23 (hp ⟨23, .guard⟩ (by simp) rfl))) ?_
          refine Or.inl ⟨rfl, ?_⟩
          have e127 : a.tmps.getD 127 undef = .pointer (some ⟨B + 1, 0, none⟩) := (hin 24 127 rfl (hp ⟨24, .data⟩ (by simp) rfl)).trans (hF 24 (hp ⟨24, .data⟩ (by simp) rfl))
          refine Does.val (.pointer (some ⟨B + 1, 0, none⟩)) (w' := w) ?_ ⟨Below.refl _ _, rfl, hG⟩
          simp only [Array.getD_eq_getD_getElem?] at e127
          go_simp
        · intro listed σ w a hin hout hl hc hp hG hF
          refine Guarded.some (d := 126) (b := false) rfl rfl ((hin 23 126 rfl (hp ⟨23, .guard⟩ (by simp) rfl)).trans (hF 23 (hp ⟨23, .guard⟩ (by simp) rfl))) ?_
          refine Or.inl ⟨rfl, ?_⟩
          have e128 : a.tmps.getD 128 undef = .pointer (some ⟨B + 1, 0, none⟩) := (hin 25 128 rfl (hp ⟨25, .data⟩ (by simp) rfl)).trans (hF 25 (hp ⟨25, .data⟩ (by simp) rfl))
          refine Does.val (.pointer (some ⟨B + 1, 1, none⟩)) (w' := w) ?_ ⟨Below.refl _ _, rfl, hG⟩
          simp only [Array.getD_eq_getD_getElem?] at e128
          go_simp
        · intro listed σ w a hin hout hl hc hp hG hF
          refine Guarded.some (d := 126) (b := false) rfl rfl ((hin 23 126 rfl (hp ⟨23, .guard⟩ (by simp) rfl)).trans (hF 23 (hp ⟨23, .guard⟩ (by simp) rfl))) ?_
          refine Or.inl ⟨rfl, ?_⟩
          have e129 : a.tmps.getD 129 undef = .pointer (some ⟨B + 1, 1, none⟩) := (hin 26 129 rfl (hp ⟨26, .data⟩ (by simp) rfl)).trans (hF 26 (hp ⟨26, .data⟩ (by simp) rfl))
          have CC := SOF.out w hG; obtain ⟨C0, C1, C2, C3, C4, C5, C6, C7, C8, C9, C10, C11, C12, C13, C14, C15, C16, C17⟩ := CC
          refine Does.val (.int .i64 (p2 : Int)) (w' := w) ?_ ⟨Below.refl _ _, rfl, hG⟩
          go_simp
        · intro listed σ w a hin hout hl hc hp hG hF
          refine Guarded.some (d := 126) (b := false) rfl rfl ((hin 23 126 rfl (hp ⟨23, .guard⟩ (by simp) rfl)).trans (hF 23 (hp ⟨23, .guard⟩ (by simp) rfl))) ?_
          refine Or.inl ⟨rfl, ?_⟩
          have e25 : a.tmps.getD 25 undef = .pointer (some ⟨W8.heap.size, 0, none⟩) := hout 25 (outB_spec (by kernel_rfl))
          refine Does.val (.pointer (some ⟨W8.heap.size, 1, none⟩)) (w' := w) ?_ ⟨Below.refl _ _, rfl, hG⟩
          simp only [Array.getD_eq_getD_getElem?] at e25
          go_simp
        · intro listed σ w a hin hout hl hc hp hG hF
          refine Guarded.some (d := 126) (b := false) rfl rfl ((hin 23 126 rfl (hp ⟨23, .guard⟩ (by simp) rfl)).trans (hF 23 (hp ⟨23, .guard⟩ (by simp) rfl))) ?_
          refine Or.inl ⟨rfl, ?_⟩
          have e131 : a.tmps.getD 131 undef = .pointer (some ⟨W8.heap.size, 1, none⟩) := (hin 28 131 rfl (hp ⟨28, .data⟩ (by simp) rfl)).trans (hF 28 (hp ⟨28, .data⟩ (by simp) rfl))
          have CC := SOF.out w hG; obtain ⟨C0, C1, C2, C3, C4, C5, C6, C7, C8, C9, C10, C11, C12, C13, C14, C15, C16, C17⟩ := CC
          refine Does.val (.int .i64 (p2 : Int)) (w' := w) ?_ ⟨Below.refl _ _, rfl, hG⟩
          go_simp
        · intro listed σ w a hin hout hl hc hp hG hF
          refine Guarded.some (d := 126) (b := false) rfl rfl ((hin 23 126 rfl (hp ⟨23, .guard⟩ (by simp) rfl)).trans (hF 23 (hp ⟨23, .guard⟩ (by simp) rfl))) ?_
          refine Or.inl ⟨rfl, ?_⟩
          have e130 : a.tmps.getD 130 undef = .int .i64 (p2 : Int) := (hin 27 130 rfl (hp ⟨27, .data⟩ (by simp) rfl)).trans (hF 27 (hp ⟨27, .data⟩ (by simp) rfl))
          have e132 : a.tmps.getD 132 undef = .int .i64 (p2 : Int) := (hin 29 132 rfl (hp ⟨29, .data⟩ (by simp) rfl)).trans (hF 29 (hp ⟨29, .data⟩ (by simp) rfl))
          refine Does.val (.bool false) (w' := w) ?_ ⟨Below.refl _ _, rfl, hG⟩
          simp only [Array.getD_eq_getD_getElem?] at e130 e132
          go_simp
        · intro listed σ w a hin hout hl hc hp hG hF
          refine Guarded.none rfl ?_
          have e126 : a.tmps.getD 126 undef = .bool false := (hin 23 126 rfl (hp ⟨23, .data⟩ (by simp) rfl)).trans (hF 23 (hp ⟨23, .data⟩ (by simp) rfl))
          have e133 : a.tmps.getD 133 undef = .bool false := (hin 30 133 rfl (hp ⟨30, .data⟩ (by simp) rfl)).trans (hF 30 (hp ⟨30, .data⟩ (by simp) rfl))
          refine Does.val (.bool false) (w' := w) ?_ ⟨Below.refl _ _, rfl, hG⟩
          simp only [Array.getD_eq_getD_getElem?] at e126 e133
          go_simp
        · intro listed σ w a hin hout hl hc hp hG hF
          refine Guarded.none rfl ?_
          have e134 : a.tmps.getD 134 undef = .bool false := (hin 31 134 rfl (hp ⟨31, .data⟩ (by simp) rfl)).trans (hF 31 (hp ⟨31, .data⟩ (by simp) rfl))
          refine Does.val (.bool false) (w' := w) ?_ ⟨Below.refl _ _, rfl, hG⟩
          simp only [Array.getD_eq_getD_getElem?] at e134
          go_simp
        · intro listed σ w a hin hout hl hc hp hG hF
          refine Guarded.some (d := 135) (b := false) rfl rfl ((hin 32 135 rfl (hp ⟨32, .guard⟩ (by simp) rfl)).trans (hF 32 (hp ⟨32, .guard⟩ (by simp) rfl))) ?_
          refine Or.inl ⟨rfl, ?_⟩
          have e23 : a.tmps.getD 23 undef = .pointer (some ⟨W7.heap.size, 0, none⟩) := hout 23 (outB_spec (by kernel_rfl))
          have CC := SOF.out w hG; obtain ⟨C0, C1, C2, C3, C4, C5, C6, C7, C8, C9, C10, C11, C12, C13, C14, C15, C16, C17⟩ := CC
          refine Does.val (.agg #[.int .i64 kdu, .slice Alu nlu clu, .slice Aru nru cru, .int .i64 opu, .string pu, .string qu, .slice Au nu cu]) (w' := w) ?_ ⟨Below.refl _ _, rfl, hG⟩
          go_simp
        · intro listed σ w a hin hout hl hc hp hG hF
          refine Guarded.some (d := 135) (b := false) rfl rfl ((hin 32 135 rfl (hp ⟨32, .guard⟩ (by simp) rfl)).trans (hF 32 (hp ⟨32, .guard⟩ (by simp) rfl))) ?_
          refine Or.inl ⟨rfl, ?_⟩
          have e26 : a.tmps.getD 26 undef = .pointer (some ⟨W8.heap.size + 1, 0, none⟩) := hout 26 (outB_spec (by kernel_rfl))
          have CC := SOF.out w hG; obtain ⟨C0, C1, C2, C3, C4, C5, C6, C7, C8, C9, C10, C11, C12, C13, C14, C15, C16, C17⟩ := CC
          refine Does.val (.agg #[.int .i64 kdv, .slice Alv nlv clv, .slice Arv nrv crv, .int .i64 opv, .string pv, .string qv, .slice Av nv cv]) (w' := w) ?_ ⟨Below.refl _ _, rfl, hG⟩
          go_simp
        · intro listed σ w a hin hout hl hc hp hG hF
          refine Guarded.some (d := 135) (b := false) rfl rfl ((hin 32 135 rfl (hp ⟨32, .guard⟩ (by simp) rfl)).trans (hF 32 (hp ⟨32, .guard⟩ (by simp) rfl))) ?_
          refine Or.inl ⟨rfl, ?_⟩
          have e136 : a.tmps.getD 136 undef = .agg #[.int .i64 kdu, .slice Alu nlu clu, .slice Aru nru cru, .int .i64 opu, .string pu, .string qu, .slice Au nu cu] := (hin 33 136 rfl (hp ⟨33, .data⟩ (by simp) rfl)).trans (hF 33 (hp ⟨33, .data⟩ (by simp) rfl))
          have e137 : a.tmps.getD 137 undef = .agg #[.int .i64 kdv, .slice Alv nlv clv, .slice Arv nrv crv, .int .i64 opv, .string pv, .string qv, .slice Av nv cv] := (hin 34 137 rfl (hp ⟨34, .data⟩ (by simp) rfl)).trans (hF 34 (hp ⟨34, .data⟩ (by simp) rfl))
          refine Does.call ?_ (HSA.out w hG) ?_
          · go_simp
          · rintro e w' ⟨rfl, hb⟩
            exact ⟨_, rfl, hb, rfl, hG.next hb⟩
        · intro listed σ w a hin hout hl hc hp hG hF
          refine Guarded.some (d := 135) (b := false) rfl rfl ((hin 32 135 rfl (hp ⟨32, .guard⟩ (by simp) rfl)).trans (hF 32 (hp ⟨32, .guard⟩ (by simp) rfl))) ?_
          refine Or.inl ⟨rfl, ?_⟩
          have e138 : a.tmps.getD 138 undef = .bool true := (hin 35 138 rfl (hp ⟨35, .data⟩ (by simp) rfl)).trans (hF 35 (hp ⟨35, .data⟩ (by simp) rfl))
          refine Does.val (.bool false) (w' := w) ?_ ⟨Below.refl _ _, rfl, hG⟩
          simp only [Array.getD_eq_getD_getElem?] at e138
          go_simp
        · intro listed σ w a hin hout hl hc hp hG hF
          refine Guarded.none rfl ?_
          have e135 : a.tmps.getD 135 undef = .bool false := (hin 32 135 rfl (hp ⟨32, .data⟩ (by simp) rfl)).trans (hF 32 (hp ⟨32, .data⟩ (by simp) rfl))
          have e139 : a.tmps.getD 139 undef = .bool false := (hin 36 139 rfl (hp ⟨36, .data⟩ (by simp) rfl)).trans (hF 36 (hp ⟨36, .data⟩ (by simp) rfl))
          refine Does.val (.bool false) (w' := w) ?_ ⟨Below.refl _ _, rfl, hG⟩
          simp only [Array.getD_eq_getD_getElem?] at e135 e139
          go_simp
      · intro listed σ W9 hall hG hF
        rw [show mid _ σ listed _ = (Act.put (Act.put (Act.put (Act.put (Act.put (Act.put (Act.put (Act.put (Act.put (Act.put (Act.put (Act.put (Act.put (Act.put (Act.put (Act.put (Act.put (Act.put (Act.put (Act.put (Act.put (Act.put (Act.put (Act.put (Act.put (Act.put (Act.put (Act.put (Act.put (Act.put (Act.put (Act.put (Act.put (Act.put (Act.put (Act.put (Act.put (Act.put _ (some 103) (σ 0)) (some 104) (σ 1)) (some 105) (σ 2)) (some 106) (σ 3)) (some 107) (σ 4)) (some 108) (σ 5)) (some 109) (σ 6)) (some 110) (σ 7)) (some 111) (σ 8)) (some 112) (σ 9)) (some 113) (σ 10)) (some 114) (σ 11)) (some 115) (σ 12)) (some 116) (σ 13)) (some 117) (σ 14)) (some 118) (σ 15)) (some 119) (σ 16)) (some 120) (σ 17)) (some 121) (σ 18)) (some 122) (σ 19)) (some 123) (σ 20)) (some 124) (σ 21)) (some 125) (σ 22)) (some 126) (σ 23)) (some 127) (σ 24)) (some 128) (σ 25)) (some 129) (σ 26)) (some 130) (σ 27)) (some 131) (σ 28)) (some 132) (σ 29)) (some 133) (σ 30)) (some 134) (σ 31)) (some 135) (σ 32)) (some 136) (σ 33)) (some 137) (σ 34)) (some 138) (σ 35)) (some 139) (σ 36)) (some 140) (σ 37)) from (mid_all hall).trans rfl]
        generalize σ 0 = tt0
        generalize σ 1 = tt1
        generalize σ 2 = tt2
        generalize σ 3 = tt3
        generalize σ 4 = tt4
        generalize σ 5 = tt5
        generalize σ 6 = tt6
        generalize σ 7 = tt7
        generalize σ 8 = tt8
        generalize σ 9 = tt9
        generalize σ 10 = tt10
        generalize σ 11 = tt11
        generalize σ 12 = tt12
        generalize σ 13 = tt13
        generalize σ 14 = tt14
        generalize σ 15 = tt15
        generalize σ 16 = tt16
        generalize σ 17 = tt17
        generalize σ 18 = tt18
        generalize σ 19 = tt19
        generalize σ 20 = tt20
        generalize σ 21 = tt21
        generalize σ 22 = tt22
        generalize σ 23 = tt23
        generalize σ 24 = tt24
        generalize σ 25 = tt25
        generalize σ 26 = tt26
        generalize σ 27 = tt27
        generalize σ 28 = tt28
        generalize σ 29 = tt29
        generalize σ 30 = tt30
        generalize σ 31 = tt31
        generalize σ 32 = tt32
        generalize σ 33 = tt33
        generalize σ 34 = tt34
        generalize σ 35 = tt35
        generalize σ 36 = tt36
        rw [show σ 37 = .bool false from hF 37 (by decide)]
        simp only [Act.put, List.setIfInBounds_toArray, List.set_cons_zero, List.set_cons_succ]
        have TG := hG
        clear hF hG hall
        clear σ
        have hs9 := TG.size
        have BS_169 := hide (BS_157.out.below TG)
        have c0_170 := hide (c0_158.out.next TG)
        have t17_171 := hide (t17_159.out.next TG)
        have m1_172 := hide (m1_160.out.keep (Keep.of_below TG))
        have m2_173 := hide (m2_161.out.keep (Keep.of_below TG))
        have t20_174 := hide (t20_162.out.next TG)
        have c1_175 := hide (c1_163.out.next TG)
        have g1_176 := hide (g1_164.out.keep (Keep.of_below TG))
        have t23_177 := hide (t23_165.out.next TG)
        have g2_178 := hide (g2_166.out.keep (Keep.of_below TG))
        have t25_179 := hide (t25_167.out.next TG)
        have t26_180 := hide (t26_168.out.next TG)
        clear BS_157 c0_158 t17_159 m1_160 m2_161 t20_162 c1_163 g1_164 t23_165 g2_166 t25_167 t26_168
        clear TG SOF HSS HSA HL1 HT1
        go_wp2_with fail
        clear m1_172
        clear m2_173
        clear g1_176
        clear g2_178
        clear c0_170
        clear t20_174
        clear t23_177
        clear t26_180
        refine (HWH.out _ BS_169.out.sn BS_169.out.tab).mono ?_
        rintro e Wa ⟨kdw, Alw, nlw, clw, Arw, nrw, crw, opw, pw, qw, Aw, nw, cw, xw, yw, zw, rfl, hb, hwh⟩
        have hsa := hb.size
        have BS_181 := hide (BS_169.out.below hb)
        have t17_182 := hide (t17_171.out.next hb)
        have c1_183 := hide (c1_175.out.next hb)
        have t25_184 := hide (t25_179.out.next hb)
        clear BS_169 t17_171 c1_175 t25_179
        clear hb HWH
        have hb := bl_alloc Wa (.cells #[.int .i64 kdw, .slice Alw nlw clw, .slice Arw nrw crw, .int .i64 opw, .string pw, .string qw, .slice Aw nw cw] 45)
        have BS_185 := hide (BS_181.out.below hb)
        have t17_186 := hide (t17_182.out.next hb)
        have c1_187 := hide (c1_183.out.next hb)
        have t25_188 := hide (t25_184.out.next hb)
        clear BS_181 t17_182 c1_183 t25_184
        have t28_189 := hide (Box.new 45 Wa #[.int .i64 kdw, .slice Alw nlw clw, .slice Arw nrw crw, .int .i64 opw, .string pw, .string qw, .slice Aw nw cw])
        clear hb
        have hzXa := World.size_alloc Wa (.cells #[.int .i64 kdw, .slice Alw nlw clw, .slice Arw nrw crw, .int .i64 opw, .string pw, .string qw, .slice Aw nw cw] 45)
        generalize hXa : Wa.alloc (.cells #[.int .i64 kdw, .slice Alw nlw clw, .slice Arw nrw crw, .int .i64 opw, .string pw, .string qw, .slice Aw nw cw] 45) = Xa at *
        have hb := bl_alloc Xa (.cells #[.int .i64 (xw : Nat), .int .i64 (yw : Nat)] 26)
        have hsVa := hb.size
        have BS_190 := hide (BS_185.out.below hb)
        have t17_191 := hide (t17_186.out.next hb)
        have c1_192 := hide (c1_187.out.next hb)
        have t25_193 := hide (t25_188.out.next hb)
        have t28_194 := hide (t28_189.out.next hb)
        clear BS_185 t17_186 c1_187 t25_188 t28_189
        have t29_195 := hide ((by have hh := Box.new 26 Xa #[.int .i64 (xw : Nat), .int .i64 (yw : Nat)]; rw [hzXa] at hh; exact hh : Box 26 (Xa.alloc (.cells #[.int .i64 (xw : Nat), .int .i64 (yw : Nat)] 26)) (Wa.heap.size + 1) #[.int .i64 (xw : Nat), .int .i64 (yw : Nat)]))
        clear hb
        have HWT := hide (fun (T : GT) (h : TIn (From W9.heap.size) Wa T [.int .i64 kdw, .slice Alw nlw clw, .slice Arw nrw crw, .int .i64 opw, .string pw, .string qw, .slice Aw nw cw]) => (h.keep (Keep.of_below (show Below Wa.heap.size Wa Xa from hXa ▸ bl_alloc _ _))).keep (Keep.of_below (bl_alloc Xa (.cells #[.int .i64 (xw : Nat), .int .i64 (yw : Nat)] 26))))
        go_wp2_with fail
        generalize hV : Xa.alloc (.cells #[.int .i64 (xw : Nat), .int .i64 (yw : Nat)] 26) = Va at *
        clear hV
        refine (HRC0.out _ _ _ (BS_190.out.tp (BS_190.out.fits (by omega)))).mono ?_
        rintro e Wb ⟨kdx, Alx, nlx, clx, Arx, nrx, crx, opx, px, qx, Ax, nx, cx, rfl, hT, hf0, hb⟩
        have hsb := hb.size
        have HWT := hide (fun (T : GT) (h : TIn (From W9.heap.size) Wa T [.int .i64 kdw, .slice Alw nlw clw, .slice Arw nrw crw, .int .i64 opw, .string pw, .string qw, .slice Aw nw cw]) => (HWT.out T h).keep (Keep.of_below hb))
        have BS_196 := hide (BS_190.out.below hb)
        have t17_197 := hide (t17_191.out.next hb)
        have c1_198 := hide (c1_192.out.next hb)
        have t25_199 := hide (t25_193.out.next hb)
        have t28_200 := hide (t28_194.out.next hb)
        have t29_201 := hide (t29_195.out.next hb)
        clear BS_190 t17_191 c1_192 t25_193 t28_194 t29_195
        have g0_202 := hide (hT)
        clear hb hT HRC0
        have hb := bl_alloc Wb (.cells #[.slice A2 nn c2, .int .i64 (p0 : Int), .slice A n c, .bool known] 37)
        have BS_203 := hide (BS_196.out.below hb)
        have t17_204 := hide (t17_197.out.next hb)
        have c1_205 := hide (c1_198.out.next hb)
        have t25_206 := hide (t25_199.out.next hb)
        have t28_207 := hide (t28_200.out.next hb)
        have t29_208 := hide (t29_201.out.next hb)
        have g0_209 := hide (g0_202.out.keep (Keep.of_below hb))
        clear BS_196 t17_197 c1_198 t25_199 t28_200 t29_201 g0_202
        have t31_210 := hide (Box.new 37 Wb #[.slice A2 nn c2, .int .i64 (p0 : Int), .slice A n c, .bool known])
        clear hb
        have hzXb := World.size_alloc Wb (.cells #[.slice A2 nn c2, .int .i64 (p0 : Int), .slice A n c, .bool known] 37)
        generalize hXb : Wb.alloc (.cells #[.slice A2 nn c2, .int .i64 (p0 : Int), .slice A n c, .bool known] 37) = Xb at *
        have hb := bl_alloc Xb (.cells #[.int .i64 kdx, .slice Alx nlx clx, .slice Arx nrx crx, .int .i64 opx, .string px, .string qx, .slice Ax nx cx] 45)
        have hsVb := hb.size
        have BS_211 := hide (BS_203.out.below hb)
        have t17_212 := hide (t17_204.out.next hb)
        have c1_213 := hide (c1_205.out.next hb)
        have t25_214 := hide (t25_206.out.next hb)
        have t28_215 := hide (t28_207.out.next hb)
        have t29_216 := hide (t29_208.out.next hb)
        have g0_217 := hide (g0_209.out.keep (Keep.of_below hb))
        have t31_218 := hide (t31_210.out.next hb)
        clear BS_203 t17_204 c1_205 t25_206 t28_207 t29_208 g0_209 t31_210
        have t32_219 := hide ((by have hh := Box.new 45 Xb #[.int .i64 kdx, .slice Alx nlx clx, .slice Arx nrx crx, .int .i64 opx, .string px, .string qx, .slice Ax nx cx]; rw [hzXb] at hh; exact hh : Box 45 (Xb.alloc (.cells #[.int .i64 kdx, .slice Alx nlx clx, .slice Arx nrx crx, .int .i64 opx, .string px, .string qx, .slice Ax nx cx] 45)) (Wb.heap.size + 1) #[.int .i64 kdx, .slice Alx nlx clx, .slice Arx nrx crx, .int .i64 opx, .string px, .string qx, .slice Ax nx cx]))
        clear hb
        have HWT := hide (fun (T : GT) (h : TIn (From W9.heap.size) Wa T [.int .i64 kdw, .slice Alw nlw clw, .slice Arw nrw crw, .int .i64 opw, .string pw, .string qw, .slice Aw nw cw]) => ((HWT.out T h).keep (Keep.of_below (show Below Wb.heap.size Wb Xb from hXb ▸ bl_alloc _ _))).keep (Keep.of_below (bl_alloc Xb (.cells #[.int .i64 kdx, .slice Alx nlx clx, .slice Arx nrx crx, .int .i64 opx, .string px, .string qx, .slice Ax nx cx] 45))))
        have HEND := hide (fun W (h : Tp ⟨A2, nn, c2, toksK s, A, n, c, xs, known⟩ W p0) => end_any ⟨A2, nn, c2, toksK s, A, n, c, xs, known⟩ p0 cd0 W h)
        unfold EndPost at HEND
        have TPT := t31_218.out.cell
        dsimp only at HEND
        generalize endL (hd (toksK s) p0).kind cd0 (hd (toksK s) p0).line = le at *
        generalize endL (hd (toksK s) p0).kind cd0 (hd (toksK s) p0).col = ce at *
        generalize endC (hd (toksK s) p0).kind cd0 = ee at *
        go_wp2_with fail
        generalize hV : Xb.alloc (.cells #[.int .i64 kdx, .slice Alx nlx clx, .slice Arx nrx crx, .int .i64 opx, .string px, .string qx, .slice Ax nx cx] 45) = Vb at *
        clear hV TPT
        refine (HEND.out _ (BS_211.out.tp hf0)).mono ?_
        rintro e Wc ⟨rfl, hb⟩
        have hsc := hb.size
        have BS_220 := hide (BS_211.out.below hb)
        have t17_221 := hide (t17_212.out.next hb)
        have c1_222 := hide (c1_213.out.next hb)
        have t25_223 := hide (t25_214.out.next hb)
        have t28_224 := hide (t28_215.out.next hb)
        have t29_225 := hide (t29_216.out.next hb)
        have g0_226 := hide (g0_217.out.keep (Keep.of_below hb))
        have t31_227 := hide (t31_218.out.next hb)
        have t32_228 := hide (t32_219.out.next hb)
        clear BS_211 t17_212 c1_213 t25_214 t28_215 t29_216 g0_217 t31_218 t32_219
        have HWT := hide (fun (T : GT) (h : TIn (From W9.heap.size) Wa T [.int .i64 kdw, .slice Alw nlw clw, .slice Arw nrw crw, .int .i64 opw, .string pw, .string qw, .slice Aw nw cw]) => (HWT.out T h).keep (Keep.of_below hb))
        clear hb HEND
        have hb := bl_alloc Wc (.cells #[.int .i64 (le : Nat), .int .i64 (ce : Nat)] 26)
        have BS_229 := hide (BS_220.out.below hb)
        have t17_230 := hide (t17_221.out.next hb)
        have c1_231 := hide (c1_222.out.next hb)
        have t25_232 := hide (t25_223.out.next hb)
        have t28_233 := hide (t28_224.out.next hb)
        have t29_234 := hide (t29_225.out.next hb)
        have g0_235 := hide (g0_226.out.keep (Keep.of_below hb))
        have t31_236 := hide (t31_227.out.next hb)
        have t32_237 := hide (t32_228.out.next hb)
        clear BS_220 t17_221 c1_222 t25_223 t28_224 t29_225 g0_226 t31_227 t32_228
        have t34_238 := hide (Box.new 26 Wc #[.int .i64 (le : Nat), .int .i64 (ce : Nat)])
        have HWT := hide (fun (T : GT) (h : TIn (From W9.heap.size) Wa T [.int .i64 kdw, .slice Alw nlw clw, .slice Arw nrw crw, .int .i64 opw, .string pw, .string qw, .slice Aw nw cw]) => (HWT.out T h).keep (Keep.of_below hb))
        have hsd := hb.size
        clear hb
        go_upto_region 22 with fail
        generalize hV : Wc.alloc (.cells #[.int .i64 (le : Nat), .int .i64 (ce : Nat)] 26) = Vc at *
        clear hV
        by_cases hc : cd = 0
        · skip
          obtain ⟨rfl, rfl, rfl, hT⟩ := hwh hc
          have e3 : ((cd : Int) == 0) = true := by simp; omega
          have e4 : ((zw : Int) != (zw : Int)) = false := by simp
          have e5 : ((xw : Int) == (xw : Int)) = true := by simp
          have e6 : ((yw : Int) == (yw : Int)) = true := by simp
          clear hc hwh
          have u_t29_0 : Vc.cell? ⟨Wa.heap.size + 1, 0, none⟩ = some (.int .i64 (xw : Nat)) := (t29_234.out).cell 0 _ rfl
          have u_t29_1 : Vc.cell? ⟨Wa.heap.size + 1, 1, none⟩ = some (.int .i64 (yw : Nat)) := (t29_234.out).cell 1 _ rfl
          have u_t34_0 : Vc.cell? ⟨Wc.heap.size, 0, none⟩ = some (.int .i64 (xw : Nat)) := (t34_238.out).cell 0 _ rfl
          have u_t34_1 : Vc.cell? ⟨Wc.heap.size, 1, none⟩ = some (.int .i64 (yw : Nat)) := (t34_238.out).cell 1 _ rfl
          by_cases hz : zw = 0
          · have e7 : ((zw : Int) == 0) = true := by simp; omega
            have hTw := HWT.out _ (hT hz)
            have HSAM := hide (same_yes hTw HT0.out Vc _ _ (Below.refl _ _) g0_235.out)
            unfold LexYes at HSAM
            have u_t28_0 : Vc.cell? ⟨Wa.heap.size, 0, none⟩ = some (.int .i64 kdw) := (t28_233.out).cell 0 _ rfl
            have u_t28_1 : Vc.cell? ⟨Wa.heap.size, 1, none⟩ = some (.slice Alw nlw clw) := (t28_233.out).cell 1 _ rfl
            have u_t28_2 : Vc.cell? ⟨Wa.heap.size, 2, none⟩ = some (.slice Arw nrw crw) := (t28_233.out).cell 2 _ rfl
            have u_t28_3 : Vc.cell? ⟨Wa.heap.size, 3, none⟩ = some (.int .i64 opw) := (t28_233.out).cell 3 _ rfl
            have u_t28_4 : Vc.cell? ⟨Wa.heap.size, 4, none⟩ = some (.string pw) := (t28_233.out).cell 4 _ rfl
            have u_t28_5 : Vc.cell? ⟨Wa.heap.size, 5, none⟩ = some (.string qw) := (t28_233.out).cell 5 _ rfl
            have u_t28_6 : Vc.cell? ⟨Wa.heap.size, 6, none⟩ = some (.slice Aw nw cw) := (t28_233.out).cell 6 _ rfl
            have u_t32_0 : Vc.cell? ⟨Wb.heap.size + 1, 0, none⟩ = some (.int .i64 kdx) := (t32_237.out).cell 0 _ rfl
            have u_t32_1 : Vc.cell? ⟨Wb.heap.size + 1, 1, none⟩ = some (.slice Alx nlx clx) := (t32_237.out).cell 1 _ rfl
            have u_t32_2 : Vc.cell? ⟨Wb.heap.size + 1, 2, none⟩ = some (.slice Arx nrx crx) := (t32_237.out).cell 2 _ rfl
            have u_t32_3 : Vc.cell? ⟨Wb.heap.size + 1, 3, none⟩ = some (.int .i64 opx) := (t32_237.out).cell 3 _ rfl
            have u_t32_4 : Vc.cell? ⟨Wb.heap.size + 1, 4, none⟩ = some (.string px) := (t32_237.out).cell 4 _ rfl
            have u_t32_5 : Vc.cell? ⟨Wb.heap.size + 1, 5, none⟩ = some (.string qx) := (t32_237.out).cell 5 _ rfl
            have u_t32_6 : Vc.cell? ⟨Wb.heap.size + 1, 6, none⟩ = some (.slice Ax nx cx) := (t32_237.out).cell 6 _ rfl
            clear hz hT hTw
            go_wp2_with fail
            refine HSAM.out.mono ?_
            rintro e Vd ⟨rfl, hb⟩
            clear u_t28_0 u_t28_1 u_t28_2 u_t28_3 u_t28_4 u_t28_5 u_t28_6 u_t32_0 u_t32_1 u_t32_2 u_t32_3 u_t32_4 u_t32_5 u_t32_6 u_t29_0 u_t29_1 u_t34_0 u_t34_1
            have hs7 := hb.size
            have BS_1239 := hide (BS_229.out.below hb)
            have t17_1240 := hide (t17_230.out.next hb)
            have c1_1241 := hide (c1_231.out.next hb)
            have t25_1242 := hide (t25_232.out.next hb)
            have t28_1243 := hide (t28_233.out.next hb)
            have t29_1244 := hide (t29_234.out.next hb)
            have g0_1245 := hide (g0_235.out.keep (Keep.of_below hb))
            have t31_1246 := hide (t31_236.out.next hb)
            have t32_1247 := hide (t32_237.out.next hb)
            have t34_1248 := hide (t34_238.out.next hb)
            clear BS_229 t17_230 c1_231 t25_232 t28_233 t29_234 g0_235 t31_236 t32_237 t34_238
            clear hb HSAM HWT
            clear t17_1240
            clear t28_1243
            clear t29_1244
            clear g0_1245
            clear t31_1246
            clear t32_1247
            clear t34_1248
            have HNX := hide (fun W (h : Tp ⟨A2, nn, c2, toksK s, A, n, c, xs, known⟩ W p2) => next_any ⟨A2, nn, c2, toksK s, A, n, c, xs, known⟩ p2 W h)
            have HWN := hide (fun tx W (h : Cur ⟨A1, nn, c1, toksK s, A, n, c, xs, known⟩ (B + 1) W p2) => want_norm ⟨A1, nn, c1, toksK s, A, n, c, xs, known⟩ (B + 1) p2 tx (rd (toksK s) p2) rfl W h)
            have HIS := hide (fun tx W (h : Tp ⟨A2, nn, c2, toksK s, A, n, c, xs, known⟩ W p2) => is_norm ⟨A2, nn, c2, toksK s, A, n, c, xs, known⟩ p2 tx (rd (toksK s) p2) rfl W h)
            have HAT := hide (fun W (h : Cur ⟨A1, nn, c1, toksK s, A, n, c, xs, known⟩ (B + 1) W p2) => at_any ⟨A1, nn, c1, toksK s, A, n, c, xs, known⟩ (B + 1) p2 W h)
            unfold AtPost at HNX HAT
            dsimp only at HNX HAT
            generalize hd (toksK s) p2 = th at *
            generalize hrr : rd (toksK s) p2 = rr at HWN HIS
            clear hrr
            have HWN := hide (fun W h => HWN.out th.text W h)
            have HIS := hide (fun W h => HIS.out th.text W h)
            generalize isT th.text rr = bb at *
            have TPT := t25_1242.out.cell
            go_wp2_with fail
            refine (HNX.out _ (BS_1239.out.tp hfp2)).mono ?_
            rintro e We ⟨rfl, hb⟩
            have hse := hb.size
            have BS_1249 := hide (BS_1239.out.below hb)
            have c1_1250 := hide (c1_1241.out.next hb)
            have t25_1251 := hide (t25_1242.out.next hb)
            clear BS_1239 c1_1241 t25_1242
            clear hb HNX TPT
            have hb := bl_alloc We (.cells #[.int .i64 (th.kind : Int), .string th.text, .int .i64 (th.line : Int), .int .i64 (th.col : Int)] 58)
            have BS_1252 := hide (BS_1249.out.below hb)
            have c1_1253 := hide (c1_1250.out.next hb)
            have t25_1254 := hide (t25_1251.out.next hb)
            clear BS_1249 c1_1250 t25_1251
            have t36_1255 := hide (Box.new 58 We #[.int .i64 (th.kind : Int), .string th.text, .int .i64 (th.line : Int), .int .i64 (th.col : Int)])
            have hsf := hb.size
            clear hb
            go_upto_region 25 with fail
            generalize hV : We.alloc (.cells #[.int .i64 (th.kind : Int), .string th.text, .int .i64 (th.line : Int), .int .i64 (th.col : Int)] 58) = Vf at *
            clear hV
            have SOF := hide (show ∀ W, Only (B + 1) Vf W → (W.cell? ⟨We.heap.size, 0, none⟩ = some (.int .i64 (th.kind : Int)) ∧ W.cell? ⟨We.heap.size, 1, none⟩ = some (.string th.text) ∧ W.cell? ⟨W8.heap.size, 0, none⟩ = some (.slice A2 nn c2) ∧ W.cell? ⟨W8.heap.size, 1, none⟩ = some (.int .i64 (p2 : Int)) ∧ W.cell? ⟨W8.heap.size, 2, none⟩ = some (.slice A n c) ∧ W.cell? ⟨W8.heap.size, 3, none⟩ = some (.bool known)) from fun W h => ⟨(t36_1255.out.other h (by omega)).cell 0 _ rfl, (t36_1255.out.other h (by omega)).cell 1 _ rfl, (t25_1254.out.other h (by omega)).cell 0 _ rfl, (t25_1254.out.other h (by omega)).cell 1 _ rfl, (t25_1254.out.other h (by omega)).cell 2 _ rfl, (t25_1254.out.other h (by omega)).cell 3 _ rfl⟩)
            have HBW := hide (fun W (h : Only (B + 1) Vf W) => BS_1252.out.only h (by omega))
            have HFT := fun a b c d W => field_ktext a b c d W
            have HFK := fun a b c d W => field_kkind a b c d W
            have e8 : (th.text.toList == th.text.toList) = true := by simp
            have e9 : ((th.kind : Int) == (th.kind : Int)) = true := by simp
            have e10 : (wantC bb == 0) = bb := wantC_eq bb
            have e11 : (bb == bb) = true := by simp
            refine wp_drawn (by kernel_rfl) (by kernel_rfl) (by kernel_rfl) (Only (B + 1)) (fun j v w => match j with | 0 => v = .pointer (some ⟨B + 1, 0, none⟩) | 1 => v = .agg #[.int .i64 (th.kind : Int), .string th.text, .int .i64 (th.line : Int), .int .i64 (th.col : Int)] | 2 => v = .string th.text | 3 => v = .pointer (some ⟨We.heap.size, 1, none⟩) | 4 => v = .string th.text | 5 => v = .bool true | 6 => v = .bool true | 7 => v = .pointer (some ⟨B + 1, 0, none⟩) | 8 => v = .agg #[.int .i64 (th.kind : Int), .string th.text, .int .i64 (th.line : Int), .int .i64 (th.col : Int)] | 9 => v = .int .i64 (th.kind : Int) | 10 => v = .pointer (some ⟨We.heap.size, 0, none⟩) | 11 => v = .int .i64 (th.kind : Int) | 12 => v = .bool true | 13 => v = .bool true | 14 => v = .bool true | 15 => v = .pointer (some ⟨B + 1, 0, none⟩) | 16 => v = .pointer (some ⟨We.heap.size, 1, none⟩) | 17 => v = .string th.text | 18 => v = .int .i64 (wantC bb) | 19 => v = .bool bb | 20 => v = .agg #[.slice A2 nn c2, .int .i64 (p2 : Int), .slice A n c, .bool known] | 21 => v = .pointer (some ⟨We.heap.size, 1, none⟩) | 22 => v = .string th.text | 23 => v = .bool bb | 24 => v = .bool true | 25 => v = .bool true | 26 => v = .bool true | _ => True) (GO 18 (B + 1) Vf (fun W => Cur ⟨A1, nn, c1, toksK s, A, n, c, xs, known⟩ (B + 1) W p2)) ?_ (fun _ => GO.start (only_of_below (bl_drewN Vf 1)) ((BS_1252.out.cur c1_1253.out (by omega) hfp2).below (bl_drewN Vf 1)) (by decide)) ?_ ?_
            · intro j v w w' hT h
              match j, h with
              | 0, h => exact h
              | 1, h => exact h
              | 2, h => exact h
              | 3, h => exact h
              | 4, h => exact h
              | 5, h => exact h
              | 6, h => exact h
              | 7, h => exact h
              | 8, h => exact h
              | 9, h => exact h
              | 10, h => exact h
              | 11, h => exact h
              | 12, h => exact h
              | 13, h => exact h
              | 14, h => exact h
              | 15, h => exact h
              | 16, h => exact h
              | 17, h => exact h
              | 18, h => exact h
              | 19, h => exact h
              | 20, h => exact h
              | 21, h => exact h
              | 22, h => exact h
              | 23, h => exact h
              | 24, h => exact h
              | 25, h => exact h
              | 26, h => exact h
              | j + 27, h => trivial
            · refine ⟨?_, ?_, ?_, ?_, ?_, ?_, ?_, ?_, ?_, ?_, ?_, ?_, ?_, ?_, ?_, ?_, ?_, ?_, ?_, ?_, ?_, ?_, ?_, ?_, ?_, ?_, ?_, trivial⟩
              · intro listed σ w a hin hout hl hc hp hG hF
                refine Guarded.none rfl ?_
                have e16 : a.tmps.getD 16 undef = .pointer (some ⟨B + 1, 0, none⟩) := hout 16 (outB_spec (by kernel_rfl))
                refine Does.val (.pointer (some ⟨B + 1, 0, none⟩)) (w' := w) ?_ ⟨Only.refl _ _, rfl, hG.same (by decide)⟩
                simp only [Array.getD_eq_getD_getElem?] at e16
                go_simp
              · intro listed σ w a hin hout hl hc hp hG hF
                refine Guarded.none rfl ?_
                have e188 : a.tmps.getD 188 undef = .pointer (some ⟨B + 1, 0, none⟩) := (hin 0 188 rfl (hp ⟨0, .data⟩ (by simp) rfl)).trans (hF 0 (hp ⟨0, .data⟩ (by simp) rfl))
                refine Does.call ?_ (HAT.out w (hG.c (un_next (k := 18) hc (un_next (k := 14) hc (un_next (k := 8) hc (un_next (k := 6) hc hl (by kernel_rfl)) (by kernel_rfl)) (by kernel_rfl)) (by kernel_rfl)))) ?_
                · go_simp
                · rintro e w' ⟨rfl, hb⟩
                  exact ⟨_, rfl, only_of_below hb, rfl, hG.call (by decide) hb (fun hc => hc.below hb)⟩
              · intro listed σ w a hin hout hl hc hp hG hF
                refine Guarded.none rfl ?_
                have e189 : a.tmps.getD 189 undef = .agg #[.int .i64 (th.kind : Int), .string th.text, .int .i64 (th.line : Int), .int .i64 (th.col : Int)] := (hin 1 189 rfl (hp ⟨1, .data⟩ (by simp) rfl)).trans (hF 1 (hp ⟨1, .data⟩ (by simp) rfl))
                refine Does.val (.string th.text) (w' := w) ?_ ⟨Only.refl _ _, rfl, hG.same (by decide)⟩
                simp only [Array.getD_eq_getD_getElem?] at e189
                go_simp
              · intro listed σ w a hin hout hl hc hp hG hF
                refine Guarded.none rfl ?_
                have e36 : a.tmps.getD 36 undef = .pointer (some ⟨We.heap.size, 0, none⟩) := hout 36 (outB_spec (by kernel_rfl))
                refine Does.val (.pointer (some ⟨We.heap.size, 1, none⟩)) (w' := w) ?_ ⟨Only.refl _ _, rfl, hG.same (by decide)⟩
                simp only [Array.getD_eq_getD_getElem?] at e36
                go_simp
              · intro listed σ w a hin hout hl hc hp hG hF
                refine Guarded.none rfl ?_
                have e191 : a.tmps.getD 191 undef = .pointer (some ⟨We.heap.size, 1, none⟩) := (hin 3 191 rfl (hp ⟨3, .data⟩ (by simp) rfl)).trans (hF 3 (hp ⟨3, .data⟩ (by simp) rfl))
                have CC := SOF.out w hG.o; obtain ⟨C0, C1, C2, C3, C4, C5⟩ := CC
                refine Does.val (.string th.text) (w' := w) ?_ ⟨Only.refl _ _, rfl, hG.same (by decide)⟩
                go_simp
              · intro listed σ w a hin hout hl hc hp hG hF
                refine Guarded.none rfl ?_
                have e190 : a.tmps.getD 190 undef = .string th.text := (hin 2 190 rfl (hp ⟨2, .data⟩ (by simp) rfl)).trans (hF 2 (hp ⟨2, .data⟩ (by simp) rfl))
                have e192 : a.tmps.getD 192 undef = .string th.text := (hin 4 192 rfl (hp ⟨4, .data⟩ (by simp) rfl)).trans (hF 4 (hp ⟨4, .data⟩ (by simp) rfl))
                refine Does.val (.bool true) (w' := w) ?_ ⟨Only.refl _ _, rfl, hG.same (by decide)⟩
                simp only [Array.getD_eq_getD_getElem?] at e190 e192
                go_simp
              · intro listed σ w a hin hout hl hc hp hG hF
                refine Guarded.none rfl ?_
                have e193 : a.tmps.getD 193 undef = .bool true := (hin 5 193 rfl (hp ⟨5, .data⟩ (by simp) rfl)).trans (hF 5 (hp ⟨5, .data⟩ (by simp) rfl))
                refine Does.val (.bool true) (w' := w) ?_ ⟨Only.refl _ _, rfl, hG.same (by decide)⟩
                simp only [Array.getD_eq_getD_getElem?] at e193
                go_simp
              · intro listed σ w a hin hout hl hc hp hG hF
                refine Guarded.some (d := 194) (b := true) rfl rfl ((hin 6 194 rfl (hp ⟨6, .guard⟩ (by simp) rfl)).trans (hF 6 (hp ⟨6, .guard⟩ (by simp) rfl))) ?_
                refine Or.inl ⟨rfl, ?_⟩
                have e16 : a.tmps.getD 16 undef = .pointer (some ⟨B + 1, 0, none⟩) := hout 16 (outB_spec (by kernel_rfl))
                refine Does.val (.pointer (some ⟨B + 1, 0, none⟩)) (w' := w) ?_ ⟨Only.refl _ _, rfl, hG.same (by decide)⟩
                simp only [Array.getD_eq_getD_getElem?] at e16
                go_simp
              · intro listed σ w a hin hout hl hc hp hG hF
                refine Guarded.some (d := 194) (b := true) rfl rfl ((hin 6 194 rfl (hp ⟨6, .guard⟩ (by simp) rfl)).trans (hF 6 (hp ⟨6, .guard⟩ (by simp) rfl))) ?_
                refine Or.inl ⟨rfl, ?_⟩
                have e195 : a.tmps.getD 195 undef = .pointer (some ⟨B + 1, 0, none⟩) := (hin 7 195 rfl (hp ⟨7, .data⟩ (by simp) rfl)).trans (hF 7 (hp ⟨7, .data⟩ (by simp) rfl))
                refine Does.call ?_ (HAT.out w (hG.c (un_next (k := 18) hc (un_next (k := 14) hc hl (by kernel_rfl)) (by kernel_rfl)))) ?_
                · go_simp
                · rintro e w' ⟨rfl, hb⟩
                  exact ⟨_, rfl, only_of_below hb, rfl, hG.call (by decide) hb (fun hc => hc.below hb)⟩
              · intro listed σ w a hin hout hl hc hp hG hF
                refine Guarded.some (d := 194) (b := true) rfl rfl ((hin 6 194 rfl (hp ⟨6, .guard⟩ (by simp) rfl)).trans (hF 6 (hp ⟨6, .guard⟩ (by simp) rfl))) ?_
                refine Or.inl ⟨rfl, ?_⟩
                have e196 : a.tmps.getD 196 undef = .agg #[.int .i64 (th.kind : Int), .string th.text, .int .i64 (th.line : Int), .int .i64 (th.col : Int)] := (hin 8 196 rfl (hp ⟨8, .data⟩ (by simp) rfl)).trans (hF 8 (hp ⟨8, .data⟩ (by simp) rfl))
                refine Does.val (.int .i64 (th.kind : Int)) (w' := w) ?_ ⟨Only.refl _ _, rfl, hG.same (by decide)⟩
                simp only [Array.getD_eq_getD_getElem?] at e196
                go_simp
              · intro listed σ w a hin hout hl hc hp hG hF
                refine Guarded.some (d := 194) (b := true) rfl rfl ((hin 6 194 rfl (hp ⟨6, .guard⟩ (by simp) rfl)).trans (hF 6 (hp ⟨6, .guard⟩ (by simp) rfl))) ?_
                refine Or.inl ⟨rfl, ?_⟩
                have e36 : a.tmps.getD 36 undef = .pointer (some ⟨We.heap.size, 0, none⟩) := hout 36 (outB_spec (by kernel_rfl))
                refine Does.val (.pointer (some ⟨We.heap.size, 0, none⟩)) (w' := w) ?_ ⟨Only.refl _ _, rfl, hG.same (by decide)⟩
                simp only [Array.getD_eq_getD_getElem?] at e36
                go_simp
              · intro listed σ w a hin hout hl hc hp hG hF
                refine Guarded.some (d := 194) (b := true) rfl rfl ((hin 6 194 rfl (hp ⟨6, .guard⟩ (by simp) rfl)).trans (hF 6 (hp ⟨6, .guard⟩ (by simp) rfl))) ?_
                refine Or.inl ⟨rfl, ?_⟩
                have e198 : a.tmps.getD 198 undef = .pointer (some ⟨We.heap.size, 0, none⟩) := (hin 10 198 rfl (hp ⟨10, .data⟩ (by simp) rfl)).trans (hF 10 (hp ⟨10, .data⟩ (by simp) rfl))
                have CC := SOF.out w hG.o; obtain ⟨C0, C1, C2, C3, C4, C5⟩ := CC
                refine Does.val (.int .i64 (th.kind : Int)) (w' := w) ?_ ⟨Only.refl _ _, rfl, hG.same (by decide)⟩
                go_simp
              · intro listed σ w a hin hout hl hc hp hG hF
                refine Guarded.some (d := 194) (b := true) rfl rfl ((hin 6 194 rfl (hp ⟨6, .guard⟩ (by simp) rfl)).trans (hF 6 (hp ⟨6, .guard⟩ (by simp) rfl))) ?_
                refine Or.inl ⟨rfl, ?_⟩
                have e197 : a.tmps.getD 197 undef = .int .i64 (th.kind : Int) := (hin 9 197 rfl (hp ⟨9, .data⟩ (by simp) rfl)).trans (hF 9 (hp ⟨9, .data⟩ (by simp) rfl))
                have e199 : a.tmps.getD 199 undef = .int .i64 (th.kind : Int) := (hin 11 199 rfl (hp ⟨11, .data⟩ (by simp) rfl)).trans (hF 11 (hp ⟨11, .data⟩ (by simp) rfl))
                refine Does.val (.bool true) (w' := w) ?_ ⟨Only.refl _ _, rfl, hG.same (by decide)⟩
                simp only [Array.getD_eq_getD_getElem?] at e197 e199
                go_simp
              · intro listed σ w a hin hout hl hc hp hG hF
                refine Guarded.none rfl ?_
                have e194 : a.tmps.getD 194 undef = .bool true := (hin 6 194 rfl (hp ⟨6, .data⟩ (by simp) rfl)).trans (hF 6 (hp ⟨6, .data⟩ (by simp) rfl))
                have e200 : a.tmps.getD 200 undef = .bool true := (hin 12 200 rfl (hp ⟨12, .data⟩ (by simp) rfl)).trans (hF 12 (hp ⟨12, .data⟩ (by simp) rfl))
                refine Does.val (.bool true) (w' := w) ?_ ⟨Only.refl _ _, rfl, hG.same (by decide)⟩
                simp only [Array.getD_eq_getD_getElem?] at e194 e200
                go_simp
              · intro listed σ w a hin hout hl hc hp hG hF
                refine Guarded.none rfl ?_
                have e201 : a.tmps.getD 201 undef = .bool true := (hin 13 201 rfl (hp ⟨13, .data⟩ (by simp) rfl)).trans (hF 13 (hp ⟨13, .data⟩ (by simp) rfl))
                refine Does.val (.bool true) (w' := w) ?_ ⟨Only.refl _ _, rfl, hG.same (by decide)⟩
                simp only [Array.getD_eq_getD_getElem?] at e201
                go_simp
              · intro listed σ w a hin hout hl hc hp hG hF
                refine Guarded.some (d := 202) (b := true) rfl rfl ((hin 14 202 rfl (hp ⟨14, .guard⟩ (by simp) rfl)).trans (hF 14 (hp ⟨14, .guard⟩ (by simp) rfl))) ?_
                refine Or.inl ⟨rfl, ?_⟩
                have e16 : a.tmps.getD 16 undef = .pointer (some ⟨B + 1, 0, none⟩) := hout 16 (outB_spec (by kernel_rfl))
                refine Does.val (.pointer (some ⟨B + 1, 0, none⟩)) (w' := w) ?_ ⟨Only.refl _ _, rfl, hG.same (by decide)⟩
                simp only [Array.getD_eq_getD_getElem?] at e16
                go_simp
              · intro listed σ w a hin hout hl hc hp hG hF
                refine Guarded.some (d := 202) (b := true) rfl rfl ((hin 14 202 rfl (hp ⟨14, .guard⟩ (by simp) rfl)).trans (hF 14 (hp ⟨14, .guard⟩ (by simp) rfl))) ?_
                refine Or.inl ⟨rfl, ?_⟩
                have e36 : a.tmps.getD 36 undef = .pointer (some ⟨We.heap.size, 0, none⟩) := hout 36 (outB_spec (by kernel_rfl))
                refine Does.val (.pointer (some ⟨We.heap.size, 1, none⟩)) (w' := w) ?_ ⟨Only.refl _ _, rfl, hG.same (by decide)⟩
                simp only [Array.getD_eq_getD_getElem?] at e36
                go_simp
              · intro listed σ w a hin hout hl hc hp hG hF
                refine Guarded.some (d := 202) (b := true) rfl rfl ((hin 14 202 rfl (hp ⟨14, .guard⟩ (by simp) rfl)).trans (hF 14 (hp ⟨14, .guard⟩ (by simp) rfl))) ?_
                refine Or.inl ⟨rfl, ?_⟩
                have e204 : a.tmps.getD 204 undef = .pointer (some ⟨We.heap.size, 1, none⟩) := (hin 16 204 rfl (hp ⟨16, .data⟩ (by simp) rfl)).trans (hF 16 (hp ⟨16, .data⟩ (by simp) rfl))
                have CC := SOF.out w hG.o; obtain ⟨C0, C1, C2, C3, C4, C5⟩ := CC
                refine Does.val (.string th.text) (w' := w) ?_ ⟨Only.refl _ _, rfl, hG.same (by decide)⟩
                go_simp
              · intro listed σ w a hin hout hl hc hp hG hF
                refine Guarded.some (d := 202) (b := true) rfl rfl ((hin 14 202 rfl (hp ⟨14, .guard⟩ (by simp) rfl)).trans (hF 14 (hp ⟨14, .guard⟩ (by simp) rfl))) ?_
                refine Or.inl ⟨rfl, ?_⟩
                have e203 : a.tmps.getD 203 undef = .pointer (some ⟨B + 1, 0, none⟩) := (hin 15 203 rfl (hp ⟨15, .data⟩ (by simp) rfl)).trans (hF 15 (hp ⟨15, .data⟩ (by simp) rfl))
                have e205 : a.tmps.getD 205 undef = .string th.text := (hin 17 205 rfl (hp ⟨17, .data⟩ (by simp) rfl)).trans (hF 17 (hp ⟨17, .data⟩ (by simp) rfl))
                refine Does.call ?_ (HWN.out w (hG.c hl)) ?_
                · go_simp
                · rintro e w' ⟨rfl, hb⟩
                  exact ⟨_, rfl, hb, rfl, hG.want hb⟩
              · intro listed σ w a hin hout hl hc hp hG hF
                refine Guarded.some (d := 202) (b := true) rfl rfl ((hin 14 202 rfl (hp ⟨14, .guard⟩ (by simp) rfl)).trans (hF 14 (hp ⟨14, .guard⟩ (by simp) rfl))) ?_
                refine Or.inl ⟨rfl, ?_⟩
                have e206 : a.tmps.getD 206 undef = .int .i64 (wantC bb) := (hin 18 206 rfl (hp ⟨18, .data⟩ (by simp) rfl)).trans (hF 18 (hp ⟨18, .data⟩ (by simp) rfl))
                refine Does.val (.bool bb) (w' := w) ?_ ⟨Only.refl _ _, rfl, hG.same (by decide)⟩
                simp only [Array.getD_eq_getD_getElem?] at e206
                go_simp
              · intro listed σ w a hin hout hl hc hp hG hF
                refine Guarded.some (d := 202) (b := true) rfl rfl ((hin 14 202 rfl (hp ⟨14, .guard⟩ (by simp) rfl)).trans (hF 14 (hp ⟨14, .guard⟩ (by simp) rfl))) ?_
                refine Or.inl ⟨rfl, ?_⟩
                have e25 : a.tmps.getD 25 undef = .pointer (some ⟨W8.heap.size, 0, none⟩) := hout 25 (outB_spec (by kernel_rfl))
                have CC := SOF.out w hG.o; obtain ⟨C0, C1, C2, C3, C4, C5⟩ := CC
                refine Does.val (.agg #[.slice A2 nn c2, .int .i64 (p2 : Int), .slice A n c, .bool known]) (w' := w) ?_ ⟨Only.refl _ _, rfl, hG.same (by decide)⟩
                go_simp
              · intro listed σ w a hin hout hl hc hp hG hF
                refine Guarded.some (d := 202) (b := true) rfl rfl ((hin 14 202 rfl (hp ⟨14, .guard⟩ (by simp) rfl)).trans (hF 14 (hp ⟨14, .guard⟩ (by simp) rfl))) ?_
                refine Or.inl ⟨rfl, ?_⟩
                have e36 : a.tmps.getD 36 undef = .pointer (some ⟨We.heap.size, 0, none⟩) := hout 36 (outB_spec (by kernel_rfl))
                refine Does.val (.pointer (some ⟨We.heap.size, 1, none⟩)) (w' := w) ?_ ⟨Only.refl _ _, rfl, hG.same (by decide)⟩
                simp only [Array.getD_eq_getD_getElem?] at e36
                go_simp
              · intro listed σ w a hin hout hl hc hp hG hF
                refine Guarded.some (d := 202) (b := true) rfl rfl ((hin 14 202 rfl (hp ⟨14, .guard⟩ (by simp) rfl)).trans (hF 14 (hp ⟨14, .guard⟩ (by simp) rfl))) ?_
                refine Or.inl ⟨rfl, ?_⟩
                have e209 : a.tmps.getD 209 undef = .pointer (some ⟨We.heap.size, 1, none⟩) := (hin 21 209 rfl (hp ⟨21, .data⟩ (by simp) rfl)).trans (hF 21 (hp ⟨21, .data⟩ (by simp) rfl))
                have CC := SOF.out w hG.o; obtain ⟨C0, C1, C2, C3, C4, C5⟩ := CC
                refine Does.val (.string th.text) (w' := w) ?_ ⟨Only.refl _ _, rfl, hG.same (by decide)⟩
                go_simp
              · intro listed σ w a hin hout hl hc hp hG hF
                refine Guarded.some (d := 202) (b := true) rfl rfl ((hin 14 202 rfl (hp ⟨14, .guard⟩ (by simp) rfl)).trans (hF 14 (hp ⟨14, .guard⟩ (by simp) rfl))) ?_
                refine Or.inl ⟨rfl, ?_⟩
                have e208 : a.tmps.getD 208 undef = .agg #[.slice A2 nn c2, .int .i64 (p2 : Int), .slice A n c, .bool known] := (hin 20 208 rfl (hp ⟨20, .data⟩ (by simp) rfl)).trans (hF 20 (hp ⟨20, .data⟩ (by simp) rfl))
                have e210 : a.tmps.getD 210 undef = .string th.text := (hin 22 210 rfl (hp ⟨22, .data⟩ (by simp) rfl)).trans (hF 22 (hp ⟨22, .data⟩ (by simp) rfl))
                refine Does.call ?_ (HIS.out w ((HBW.out w hG.o).tp hfp2)) ?_
                · go_simp
                · rintro e w' ⟨rfl, hb⟩
                  exact ⟨_, rfl, only_of_below hb, rfl, hG.call (by decide) hb (fun hc => hc.below hb)⟩
              · intro listed σ w a hin hout hl hc hp hG hF
                refine Guarded.some (d := 202) (b := true) rfl rfl ((hin 14 202 rfl (hp ⟨14, .guard⟩ (by simp) rfl)).trans (hF 14 (hp ⟨14, .guard⟩ (by simp) rfl))) ?_
                refine Or.inl ⟨rfl, ?_⟩
                have e207 : a.tmps.getD 207 undef = .bool bb := (hin 19 207 rfl (hp ⟨19, .data⟩ (by simp) rfl)).trans (hF 19 (hp ⟨19, .data⟩ (by simp) rfl))
                have e211 : a.tmps.getD 211 undef = .bool bb := (hin 23 211 rfl (hp ⟨23, .data⟩ (by simp) rfl)).trans (hF 23 (hp ⟨23, .data⟩ (by simp) rfl))
                refine Does.val (.bool true) (w' := w) ?_ ⟨Only.refl _ _, rfl, hG.same (by decide)⟩
                simp only [Array.getD_eq_getD_getElem?] at e207 e211
                go_simp
              · intro listed σ w a hin hout hl hc hp hG hF
                refine Guarded.none rfl ?_
                have e202 : a.tmps.getD 202 undef = .bool true := (hin 14 202 rfl (hp ⟨14, .data⟩ (by simp) rfl)).trans (hF 14 (hp ⟨14, .data⟩ (by simp) rfl))
                have e212 : a.tmps.getD 212 undef = .bool true := (hin 24 212 rfl (hp ⟨24, .data⟩ (by simp) rfl)).trans (hF 24 (hp ⟨24, .data⟩ (by simp) rfl))
                refine Does.val (.bool true) (w' := w) ?_ ⟨Only.refl _ _, rfl, hG.same (by decide)⟩
                simp only [Array.getD_eq_getD_getElem?] at e202 e212
                go_simp
              · intro listed σ w a hin hout hl hc hp hG hF
                refine Guarded.none rfl ?_
                have e213 : a.tmps.getD 213 undef = .bool true := (hin 25 213 rfl (hp ⟨25, .data⟩ (by simp) rfl)).trans (hF 25 (hp ⟨25, .data⟩ (by simp) rfl))
                refine Does.val (.bool true) (w' := w) ?_ ⟨Only.refl _ _, rfl, hG.same (by decide)⟩
                simp only [Array.getD_eq_getD_getElem?] at e213
                go_simp
            · intro listed σ W9 hall hG hF
              rw [show mid _ σ listed _ = (Act.put (Act.put (Act.put (Act.put (Act.put (Act.put (Act.put (Act.put (Act.put (Act.put (Act.put (Act.put (Act.put (Act.put (Act.put (Act.put (Act.put (Act.put (Act.put (Act.put (Act.put (Act.put (Act.put (Act.put (Act.put (Act.put (Act.put _ (some 188) (σ 0)) (some 189) (σ 1)) (some 190) (σ 2)) (some 191) (σ 3)) (some 192) (σ 4)) (some 193) (σ 5)) (some 194) (σ 6)) (some 195) (σ 7)) (some 196) (σ 8)) (some 197) (σ 9)) (some 198) (σ 10)) (some 199) (σ 11)) (some 200) (σ 12)) (some 201) (σ 13)) (some 202) (σ 14)) (some 203) (σ 15)) (some 204) (σ 16)) (some 205) (σ 17)) (some 206) (σ 18)) (some 207) (σ 19)) (some 208) (σ 20)) (some 209) (σ 21)) (some 210) (σ 22)) (some 211) (σ 23)) (some 212) (σ 24)) (some 213) (σ 25)) (some 8) (σ 26)) from (mid_all hall).trans rfl]
              generalize σ 0 = tt0
              generalize σ 1 = tt1
              generalize σ 2 = tt2
              generalize σ 3 = tt3
              generalize σ 4 = tt4
              generalize σ 5 = tt5
              generalize σ 6 = tt6
              generalize σ 7 = tt7
              generalize σ 8 = tt8
              generalize σ 9 = tt9
              generalize σ 10 = tt10
              generalize σ 11 = tt11
              generalize σ 12 = tt12
              generalize σ 13 = tt13
              generalize σ 14 = tt14
              generalize σ 15 = tt15
              generalize σ 16 = tt16
              generalize σ 17 = tt17
              generalize σ 18 = tt18
              generalize σ 19 = tt19
              generalize σ 20 = tt20
              generalize σ 21 = tt21
              generalize σ 22 = tt22
              generalize σ 23 = tt23
              generalize σ 24 = tt24
              generalize σ 25 = tt25
              rw [show σ 26 = .bool true from hF 26 (by decide)]
              simp only [Act.put, List.setIfInBounds_toArray, List.set_cons_zero, List.set_cons_succ]
              have TG := hG.o
              clear hF hG hall
              clear σ
              have HBQ := hide (HBW.out _ TG)
              clear TG SOF HBW HFT HFK HWN HIS HAT
              go_wp2_with fail
              go_ret
              exact ⟨rfl, HBQ.out.bel⟩
          · have e7 : ((zw : Int) == 0) = false := by simp; omega
            clear hz hT
            clear t17_230
            clear t28_233
            clear t29_234
            clear g0_235
            clear t31_236
            clear t32_237
            clear t34_238
            have HNX := hide (fun W (h : Tp ⟨A2, nn, c2, toksK s, A, n, c, xs, known⟩ W p2) => next_any ⟨A2, nn, c2, toksK s, A, n, c, xs, known⟩ p2 W h)
            have HWN := hide (fun tx W (h : Cur ⟨A1, nn, c1, toksK s, A, n, c, xs, known⟩ (B + 1) W p2) => want_norm ⟨A1, nn, c1, toksK s, A, n, c, xs, known⟩ (B + 1) p2 tx (rd (toksK s) p2) rfl W h)
            have HIS := hide (fun tx W (h : Tp ⟨A2, nn, c2, toksK s, A, n, c, xs, known⟩ W p2) => is_norm ⟨A2, nn, c2, toksK s, A, n, c, xs, known⟩ p2 tx (rd (toksK s) p2) rfl W h)
            have HAT := hide (fun W (h : Cur ⟨A1, nn, c1, toksK s, A, n, c, xs, known⟩ (B + 1) W p2) => at_any ⟨A1, nn, c1, toksK s, A, n, c, xs, known⟩ (B + 1) p2 W h)
            unfold AtPost at HNX HAT
            dsimp only at HNX HAT
            generalize hd (toksK s) p2 = th at *
            generalize hrr : rd (toksK s) p2 = rr at HWN HIS
            clear hrr
            have HWN := hide (fun W h => HWN.out th.text W h)
            have HIS := hide (fun W h => HIS.out th.text W h)
            generalize isT th.text rr = bb at *
            have TPT := t25_232.out.cell
            go_wp2_with fail
            clear u_t29_0 u_t29_1 u_t34_0 u_t34_1
            refine (HNX.out _ (BS_229.out.tp hfp2)).mono ?_
            rintro e We ⟨rfl, hb⟩
            have hse := hb.size
            have BS_1239 := hide (BS_229.out.below hb)
            have c1_1240 := hide (c1_231.out.next hb)
            have t25_1241 := hide (t25_232.out.next hb)
            clear BS_229 c1_231 t25_232
            clear hb HNX TPT
            have hb := bl_alloc We (.cells #[.int .i64 (th.kind : Int), .string th.text, .int .i64 (th.line : Int), .int .i64 (th.col : Int)] 58)
            have BS_1242 := hide (BS_1239.out.below hb)
            have c1_1243 := hide (c1_1240.out.next hb)
            have t25_1244 := hide (t25_1241.out.next hb)
            clear BS_1239 c1_1240 t25_1241
            have t36_1245 := hide (Box.new 58 We #[.int .i64 (th.kind : Int), .string th.text, .int .i64 (th.line : Int), .int .i64 (th.col : Int)])
            have hsf := hb.size
            clear hb
            go_upto_region 25 with fail
            generalize hV : We.alloc (.cells #[.int .i64 (th.kind : Int), .string th.text, .int .i64 (th.line : Int), .int .i64 (th.col : Int)] 58) = Vf at *
            clear hV
            have SOF := hide (show ∀ W, Only (B + 1) Vf W → (W.cell? ⟨We.heap.size, 0, none⟩ = some (.int .i64 (th.kind : Int)) ∧ W.cell? ⟨We.heap.size, 1, none⟩ = some (.string th.text) ∧ W.cell? ⟨W8.heap.size, 0, none⟩ = some (.slice A2 nn c2) ∧ W.cell? ⟨W8.heap.size, 1, none⟩ = some (.int .i64 (p2 : Int)) ∧ W.cell? ⟨W8.heap.size, 2, none⟩ = some (.slice A n c) ∧ W.cell? ⟨W8.heap.size, 3, none⟩ = some (.bool known)) from fun W h => ⟨(t36_1245.out.other h (by omega)).cell 0 _ rfl, (t36_1245.out.other h (by omega)).cell 1 _ rfl, (t25_1244.out.other h (by omega)).cell 0 _ rfl, (t25_1244.out.other h (by omega)).cell 1 _ rfl, (t25_1244.out.other h (by omega)).cell 2 _ rfl, (t25_1244.out.other h (by omega)).cell 3 _ rfl⟩)
            have HBW := hide (fun W (h : Only (B + 1) Vf W) => BS_1242.out.only h (by omega))
            have HFT := fun a b c d W => field_ktext a b c d W
            have HFK := fun a b c d W => field_kkind a b c d W
            have e8 : (th.text.toList == th.text.toList) = true := by simp
            have e9 : ((th.kind : Int) == (th.kind : Int)) = true := by simp
            have e10 : (wantC bb == 0) = bb := wantC_eq bb
            have e11 : (bb == bb) = true := by simp
            refine wp_drawn (by kernel_rfl) (by kernel_rfl) (by kernel_rfl) (Only (B + 1)) (fun j v w => match j with | 0 => v = .pointer (some ⟨B + 1, 0, none⟩) | 1 => v = .agg #[.int .i64 (th.kind : Int), .string th.text, .int .i64 (th.line : Int), .int .i64 (th.col : Int)] | 2 => v = .string th.text | 3 => v = .pointer (some ⟨We.heap.size, 1, none⟩) | 4 => v = .string th.text | 5 => v = .bool true | 6 => v = .bool true | 7 => v = .pointer (some ⟨B + 1, 0, none⟩) | 8 => v = .agg #[.int .i64 (th.kind : Int), .string th.text, .int .i64 (th.line : Int), .int .i64 (th.col : Int)] | 9 => v = .int .i64 (th.kind : Int) | 10 => v = .pointer (some ⟨We.heap.size, 0, none⟩) | 11 => v = .int .i64 (th.kind : Int) | 12 => v = .bool true | 13 => v = .bool true | 14 => v = .bool true | 15 => v = .pointer (some ⟨B + 1, 0, none⟩) | 16 => v = .pointer (some ⟨We.heap.size, 1, none⟩) | 17 => v = .string th.text | 18 => v = .int .i64 (wantC bb) | 19 => v = .bool bb | 20 => v = .agg #[.slice A2 nn c2, .int .i64 (p2 : Int), .slice A n c, .bool known] | 21 => v = .pointer (some ⟨We.heap.size, 1, none⟩) | 22 => v = .string th.text | 23 => v = .bool bb | 24 => v = .bool true | 25 => v = .bool true | 26 => v = .bool true | _ => True) (GO 18 (B + 1) Vf (fun W => Cur ⟨A1, nn, c1, toksK s, A, n, c, xs, known⟩ (B + 1) W p2)) ?_ (fun _ => GO.start (only_of_below (bl_drewN Vf 1)) ((BS_1242.out.cur c1_1243.out (by omega) hfp2).below (bl_drewN Vf 1)) (by decide)) ?_ ?_
            · intro j v w w' hT h
              match j, h with
              | 0, h => exact h
              | 1, h => exact h
              | 2, h => exact h
              | 3, h => exact h
              | 4, h => exact h
              | 5, h => exact h
              | 6, h => exact h
              | 7, h => exact h
              | 8, h => exact h
              | 9, h => exact h
              | 10, h => exact h
              | 11, h => exact h
              | 12, h => exact h
              | 13, h => exact h
              | 14, h => exact h
              | 15, h => exact h
              | 16, h => exact h
              | 17, h => exact h
              | 18, h => exact h
              | 19, h => exact h
              | 20, h => exact h
              | 21, h => exact h
              | 22, h => exact h
              | 23, h => exact h
              | 24, h => exact h
              | 25, h => exact h
              | 26, h => exact h
              | j + 27, h => trivial
            · refine ⟨?_, ?_, ?_, ?_, ?_, ?_, ?_, ?_, ?_, ?_, ?_, ?_, ?_, ?_, ?_, ?_, ?_, ?_, ?_, ?_, ?_, ?_, ?_, ?_, ?_, ?_, ?_, trivial⟩
              · intro listed σ w a hin hout hl hc hp hG hF
                refine Guarded.none rfl ?_
                have e16 : a.tmps.getD 16 undef = .pointer (some ⟨B + 1, 0, none⟩) := hout 16 (outB_spec (by kernel_rfl))
                refine Does.val (.pointer (some ⟨B + 1, 0, none⟩)) (w' := w) ?_ ⟨Only.refl _ _, rfl, hG.same (by decide)⟩
                simp only [Array.getD_eq_getD_getElem?] at e16
                go_simp
              · intro listed σ w a hin hout hl hc hp hG hF
                refine Guarded.none rfl ?_
                have e188 : a.tmps.getD 188 undef = .pointer (some ⟨B + 1, 0, none⟩) := (hin 0 188 rfl (hp ⟨0, .data⟩ (by simp) rfl)).trans (hF 0 (hp ⟨0, .data⟩ (by simp) rfl))
                refine Does.call ?_ (HAT.out w (hG.c (un_next (k := 18) hc (un_next (k := 14) hc (un_next (k := 8) hc (un_next (k := 6) hc hl (by kernel_rfl)) (by kernel_rfl)) (by kernel_rfl)) (by kernel_rfl)))) ?_
                · go_simp
                · rintro e w' ⟨rfl, hb⟩
                  exact ⟨_, rfl, only_of_below hb, rfl, hG.call (by decide) hb (fun hc => hc.below hb)⟩
              · intro listed σ w a hin hout hl hc hp hG hF
                refine Guarded.none rfl ?_
                have e189 : a.tmps.getD 189 undef = .agg #[.int .i64 (th.kind : Int), .string th.text, .int .i64 (th.line : Int), .int .i64 (th.col : Int)] := (hin 1 189 rfl (hp ⟨1, .data⟩ (by simp) rfl)).trans (hF 1 (hp ⟨1, .data⟩ (by simp) rfl))
                refine Does.val (.string th.text) (w' := w) ?_ ⟨Only.refl _ _, rfl, hG.same (by decide)⟩
                simp only [Array.getD_eq_getD_getElem?] at e189
                go_simp
              · intro listed σ w a hin hout hl hc hp hG hF
                refine Guarded.none rfl ?_
                have e36 : a.tmps.getD 36 undef = .pointer (some ⟨We.heap.size, 0, none⟩) := hout 36 (outB_spec (by kernel_rfl))
                refine Does.val (.pointer (some ⟨We.heap.size, 1, none⟩)) (w' := w) ?_ ⟨Only.refl _ _, rfl, hG.same (by decide)⟩
                simp only [Array.getD_eq_getD_getElem?] at e36
                go_simp
              · intro listed σ w a hin hout hl hc hp hG hF
                refine Guarded.none rfl ?_
                have e191 : a.tmps.getD 191 undef = .pointer (some ⟨We.heap.size, 1, none⟩) := (hin 3 191 rfl (hp ⟨3, .data⟩ (by simp) rfl)).trans (hF 3 (hp ⟨3, .data⟩ (by simp) rfl))
                have CC := SOF.out w hG.o; obtain ⟨C0, C1, C2, C3, C4, C5⟩ := CC
                refine Does.val (.string th.text) (w' := w) ?_ ⟨Only.refl _ _, rfl, hG.same (by decide)⟩
                go_simp
              · intro listed σ w a hin hout hl hc hp hG hF
                refine Guarded.none rfl ?_
                have e190 : a.tmps.getD 190 undef = .string th.text := (hin 2 190 rfl (hp ⟨2, .data⟩ (by simp) rfl)).trans (hF 2 (hp ⟨2, .data⟩ (by simp) rfl))
                have e192 : a.tmps.getD 192 undef = .string th.text := (hin 4 192 rfl (hp ⟨4, .data⟩ (by simp) rfl)).trans (hF 4 (hp ⟨4, .data⟩ (by simp) rfl))
                refine Does.val (.bool true) (w' := w) ?_ ⟨Only.refl _ _, rfl, hG.same (by decide)⟩
                simp only [Array.getD_eq_getD_getElem?] at e190 e192
                go_simp
              · intro listed σ w a hin hout hl hc hp hG hF
                refine Guarded.none rfl ?_
                have e193 : a.tmps.getD 193 undef = .bool true := (hin 5 193 rfl (hp ⟨5, .data⟩ (by simp) rfl)).trans (hF 5 (hp ⟨5, .data⟩ (by simp) rfl))
                refine Does.val (.bool true) (w' := w) ?_ ⟨Only.refl _ _, rfl, hG.same (by decide)⟩
                simp only [Array.getD_eq_getD_getElem?] at e193
                go_simp
              · intro listed σ w a hin hout hl hc hp hG hF
                refine Guarded.some (d := 194) (b := true) rfl rfl ((hin 6 194 rfl (hp ⟨6, .guard⟩ (by simp) rfl)).trans (hF 6 (hp ⟨6, .guard⟩ (by simp) rfl))) ?_
                refine Or.inl ⟨rfl, ?_⟩
                have e16 : a.tmps.getD 16 undef = .pointer (some ⟨B + 1, 0, none⟩) := hout 16 (outB_spec (by kernel_rfl))
                refine Does.val (.pointer (some ⟨B + 1, 0, none⟩)) (w' := w) ?_ ⟨Only.refl _ _, rfl, hG.same (by decide)⟩
                simp only [Array.getD_eq_getD_getElem?] at e16
                go_simp
              · intro listed σ w a hin hout hl hc hp hG hF
                refine Guarded.some (d := 194) (b := true) rfl rfl ((hin 6 194 rfl (hp ⟨6, .guard⟩ (by simp) rfl)).trans (hF 6 (hp ⟨6, .guard⟩ (by simp) rfl))) ?_
                refine Or.inl ⟨rfl, ?_⟩
                have e195 : a.tmps.getD 195 undef = .pointer (some ⟨B + 1, 0, none⟩) := (hin 7 195 rfl (hp ⟨7, .data⟩ (by simp) rfl)).trans (hF 7 (hp ⟨7, .data⟩ (by simp) rfl))
                refine Does.call ?_ (HAT.out w (hG.c (un_next (k := 18) hc (un_next (k := 14) hc hl (by kernel_rfl)) (by kernel_rfl)))) ?_
                · go_simp
                · rintro e w' ⟨rfl, hb⟩
                  exact ⟨_, rfl, only_of_below hb, rfl, hG.call (by decide) hb (fun hc => hc.below hb)⟩
              · intro listed σ w a hin hout hl hc hp hG hF
                refine Guarded.some (d := 194) (b := true) rfl rfl ((hin 6 194 rfl (hp ⟨6, .guard⟩ (by simp) rfl)).trans (hF 6 (hp ⟨6, .guard⟩ (by simp) rfl))) ?_
                refine Or.inl ⟨rfl, ?_⟩
                have e196 : a.tmps.getD 196 undef = .agg #[.int .i64 (th.kind : Int), .string th.text, .int .i64 (th.line : Int), .int .i64 (th.col : Int)] := (hin 8 196 rfl (hp ⟨8, .data⟩ (by simp) rfl)).trans (hF 8 (hp ⟨8, .data⟩ (by simp) rfl))
                refine Does.val (.int .i64 (th.kind : Int)) (w' := w) ?_ ⟨Only.refl _ _, rfl, hG.same (by decide)⟩
                simp only [Array.getD_eq_getD_getElem?] at e196
                go_simp
              · intro listed σ w a hin hout hl hc hp hG hF
                refine Guarded.some (d := 194) (b := true) rfl rfl ((hin 6 194 rfl (hp ⟨6, .guard⟩ (by simp) rfl)).trans (hF 6 (hp ⟨6, .guard⟩ (by simp) rfl))) ?_
                refine Or.inl ⟨rfl, ?_⟩
                have e36 : a.tmps.getD 36 undef = .pointer (some ⟨We.heap.size, 0, none⟩) := hout 36 (outB_spec (by kernel_rfl))
                refine Does.val (.pointer (some ⟨We.heap.size, 0, none⟩)) (w' := w) ?_ ⟨Only.refl _ _, rfl, hG.same (by decide)⟩
                simp only [Array.getD_eq_getD_getElem?] at e36
                go_simp
              · intro listed σ w a hin hout hl hc hp hG hF
                refine Guarded.some (d := 194) (b := true) rfl rfl ((hin 6 194 rfl (hp ⟨6, .guard⟩ (by simp) rfl)).trans (hF 6 (hp ⟨6, .guard⟩ (by simp) rfl))) ?_
                refine Or.inl ⟨rfl, ?_⟩
                have e198 : a.tmps.getD 198 undef = .pointer (some ⟨We.heap.size, 0, none⟩) := (hin 10 198 rfl (hp ⟨10, .data⟩ (by simp) rfl)).trans (hF 10 (hp ⟨10, .data⟩ (by simp) rfl))
                have CC := SOF.out w hG.o; obtain ⟨C0, C1, C2, C3, C4, C5⟩ := CC
                refine Does.val (.int .i64 (th.kind : Int)) (w' := w) ?_ ⟨Only.refl _ _, rfl, hG.same (by decide)⟩
                go_simp
              · intro listed σ w a hin hout hl hc hp hG hF
                refine Guarded.some (d := 194) (b := true) rfl rfl ((hin 6 194 rfl (hp ⟨6, .guard⟩ (by simp) rfl)).trans (hF 6 (hp ⟨6, .guard⟩ (by simp) rfl))) ?_
                refine Or.inl ⟨rfl, ?_⟩
                have e197 : a.tmps.getD 197 undef = .int .i64 (th.kind : Int) := (hin 9 197 rfl (hp ⟨9, .data⟩ (by simp) rfl)).trans (hF 9 (hp ⟨9, .data⟩ (by simp) rfl))
                have e199 : a.tmps.getD 199 undef = .int .i64 (th.kind : Int) := (hin 11 199 rfl (hp ⟨11, .data⟩ (by simp) rfl)).trans (hF 11 (hp ⟨11, .data⟩ (by simp) rfl))
                refine Does.val (.bool true) (w' := w) ?_ ⟨Only.refl _ _, rfl, hG.same (by decide)⟩
                simp only [Array.getD_eq_getD_getElem?] at e197 e199
                go_simp
              · intro listed σ w a hin hout hl hc hp hG hF
                refine Guarded.none rfl ?_
                have e194 : a.tmps.getD 194 undef = .bool true := (hin 6 194 rfl (hp ⟨6, .data⟩ (by simp) rfl)).trans (hF 6 (hp ⟨6, .data⟩ (by simp) rfl))
                have e200 : a.tmps.getD 200 undef = .bool true := (hin 12 200 rfl (hp ⟨12, .data⟩ (by simp) rfl)).trans (hF 12 (hp ⟨12, .data⟩ (by simp) rfl))
                refine Does.val (.bool true) (w' := w) ?_ ⟨Only.refl _ _, rfl, hG.same (by decide)⟩
                simp only [Array.getD_eq_getD_getElem?] at e194 e200
                go_simp
              · intro listed σ w a hin hout hl hc hp hG hF
                refine Guarded.none rfl ?_
                have e201 : a.tmps.getD 201 undef = .bool true := (hin 13 201 rfl (hp ⟨13, .data⟩ (by simp) rfl)).trans (hF 13 (hp ⟨13, .data⟩ (by simp) rfl))
                refine Does.val (.bool true) (w' := w) ?_ ⟨Only.refl _ _, rfl, hG.same (by decide)⟩
                simp only [Array.getD_eq_getD_getElem?] at e201
                go_simp
              · intro listed σ w a hin hout hl hc hp hG hF
                refine Guarded.some (d := 202) (b := true) rfl rfl ((hin 14 202 rfl (hp ⟨14, .guard⟩ (by simp) rfl)).trans (hF 14 (hp ⟨14, .guard⟩ (by simp) rfl))) ?_
                refine Or.inl ⟨rfl, ?_⟩
                have e16 : a.tmps.getD 16 undef = .pointer (some ⟨B + 1, 0, none⟩) := hout 16 (outB_spec (by kernel_rfl))
                refine Does.val (.pointer (some ⟨B + 1, 0, none⟩)) (w' := w) ?_ ⟨Only.refl _ _, rfl, hG.same (by decide)⟩
                simp only [Array.getD_eq_getD_getElem?] at e16
                go_simp
              · intro listed σ w a hin hout hl hc hp hG hF
                refine Guarded.some (d := 202) (b := true) rfl rfl ((hin 14 202 rfl (hp ⟨14, .guard⟩ (by simp) rfl)).trans (hF 14 (hp ⟨14, .guard⟩ (by simp) rfl))) ?_
                refine Or.inl ⟨rfl, ?_⟩
                have e36 : a.tmps.getD 36 undef = .pointer (some ⟨We.heap.size, 0, none⟩) := hout 36 (outB_spec (by kernel_rfl))
                refine Does.val (.pointer (some ⟨We.heap.size, 1, none⟩)) (w' := w) ?_ ⟨Only.refl _ _, rfl, hG.same (by decide)⟩
                simp only [Array.getD_eq_getD_getElem?] at e36
                go_simp
              · intro listed σ w a hin hout hl hc hp hG hF
                refine Guarded.some (d := 202) (b := true) rfl rfl ((hin 14 202 rfl (hp ⟨14, .guard⟩ (by simp) rfl)).trans (hF 14 (hp ⟨14, .guard⟩ (by simp) rfl))) ?_
                refine Or.inl ⟨rfl, ?_⟩
                have e204 : a.tmps.getD 204 undef = .pointer (some ⟨We.heap.size, 1, none⟩) := (hin 16 204 rfl (hp ⟨16, .data⟩ (by simp) rfl)).trans (hF 16 (hp ⟨16, .data⟩ (by simp) rfl))
                have CC := SOF.out w hG.o; obtain ⟨C0, C1, C2, C3, C4, C5⟩ := CC
                refine Does.val (.string th.text) (w' := w) ?_ ⟨Only.refl _ _, rfl, hG.same (by decide)⟩
                go_simp
              · intro listed σ w a hin hout hl hc hp hG hF
                refine Guarded.some (d := 202) (b := true) rfl rfl ((hin 14 202 rfl (hp ⟨14, .guard⟩ (by simp) rfl)).trans (hF 14 (hp ⟨14, .guard⟩ (by simp) rfl))) ?_
                refine Or.inl ⟨rfl, ?_⟩
                have e203 : a.tmps.getD 203 undef = .pointer (some ⟨B + 1, 0, none⟩) := (hin 15 203 rfl (hp ⟨15, .data⟩ (by simp) rfl)).trans (hF 15 (hp ⟨15, .data⟩ (by simp) rfl))
                have e205 : a.tmps.getD 205 undef = .string th.text := (hin 17 205 rfl (hp ⟨17, .data⟩ (by simp) rfl)).trans (hF 17 (hp ⟨17, .data⟩ (by simp) rfl))
                refine Does.call ?_ (HWN.out w (hG.c hl)) ?_
                · go_simp
                · rintro e w' ⟨rfl, hb⟩
                  exact ⟨_, rfl, hb, rfl, hG.want hb⟩
              · intro listed σ w a hin hout hl hc hp hG hF
                refine Guarded.some (d := 202) (b := true) rfl rfl ((hin 14 202 rfl (hp ⟨14, .guard⟩ (by simp) rfl)).trans (hF 14 (hp ⟨14, .guard⟩ (by simp) rfl))) ?_
                refine Or.inl ⟨rfl, ?_⟩
                have e206 : a.tmps.getD 206 undef = .int .i64 (wantC bb) := (hin 18 206 rfl (hp ⟨18, .data⟩ (by simp) rfl)).trans (hF 18 (hp ⟨18, .data⟩ (by simp) rfl))
                refine Does.val (.bool bb) (w' := w) ?_ ⟨Only.refl _ _, rfl, hG.same (by decide)⟩
                simp only [Array.getD_eq_getD_getElem?] at e206
                go_simp
              · intro listed σ w a hin hout hl hc hp hG hF
                refine Guarded.some (d := 202) (b := true) rfl rfl ((hin 14 202 rfl (hp ⟨14, .guard⟩ (by simp) rfl)).trans (hF 14 (hp ⟨14, .guard⟩ (by simp) rfl))) ?_
                refine Or.inl ⟨rfl, ?_⟩
                have e25 : a.tmps.getD 25 undef = .pointer (some ⟨W8.heap.size, 0, none⟩) := hout 25 (outB_spec (by kernel_rfl))
                have CC := SOF.out w hG.o; obtain ⟨C0, C1, C2, C3, C4, C5⟩ := CC
                refine Does.val (.agg #[.slice A2 nn c2, .int .i64 (p2 : Int), .slice A n c, .bool known]) (w' := w) ?_ ⟨Only.refl _ _, rfl, hG.same (by decide)⟩
                go_simp
              · intro listed σ w a hin hout hl hc hp hG hF
                refine Guarded.some (d := 202) (b := true) rfl rfl ((hin 14 202 rfl (hp ⟨14, .guard⟩ (by simp) rfl)).trans (hF 14 (hp ⟨14, .guard⟩ (by simp) rfl))) ?_
                refine Or.inl ⟨rfl, ?_⟩
                have e36 : a.tmps.getD 36 undef = .pointer (some ⟨We.heap.size, 0, none⟩) := hout 36 (outB_spec (by kernel_rfl))
                refine Does.val (.pointer (some ⟨We.heap.size, 1, none⟩)) (w' := w) ?_ ⟨Only.refl _ _, rfl, hG.same (by decide)⟩
                simp only [Array.getD_eq_getD_getElem?] at e36
                go_simp
              · intro listed σ w a hin hout hl hc hp hG hF
                refine Guarded.some (d := 202) (b := true) rfl rfl ((hin 14 202 rfl (hp ⟨14, .guard⟩ (by simp) rfl)).trans (hF 14 (hp ⟨14, .guard⟩ (by simp) rfl))) ?_
                refine Or.inl ⟨rfl, ?_⟩
                have e209 : a.tmps.getD 209 undef = .pointer (some ⟨We.heap.size, 1, none⟩) := (hin 21 209 rfl (hp ⟨21, .data⟩ (by simp) rfl)).trans (hF 21 (hp ⟨21, .data⟩ (by simp) rfl))
                have CC := SOF.out w hG.o; obtain ⟨C0, C1, C2, C3, C4, C5⟩ := CC
                refine Does.val (.string th.text) (w' := w) ?_ ⟨Only.refl _ _, rfl, hG.same (by decide)⟩
                go_simp
              · intro listed σ w a hin hout hl hc hp hG hF
                refine Guarded.some (d := 202) (b := true) rfl rfl ((hin 14 202 rfl (hp ⟨14, .guard⟩ (by simp) rfl)).trans (hF 14 (hp ⟨14, .guard⟩ (by simp) rfl))) ?_
                refine Or.inl ⟨rfl, ?_⟩
                have e208 : a.tmps.getD 208 undef = .agg #[.slice A2 nn c2, .int .i64 (p2 : Int), .slice A n c, .bool known] := (hin 20 208 rfl (hp ⟨20, .data⟩ (by simp) rfl)).trans (hF 20 (hp ⟨20, .data⟩ (by simp) rfl))
                have e210 : a.tmps.getD 210 undef = .string th.text := (hin 22 210 rfl (hp ⟨22, .data⟩ (by simp) rfl)).trans (hF 22 (hp ⟨22, .data⟩ (by simp) rfl))
                refine Does.call ?_ (HIS.out w ((HBW.out w hG.o).tp hfp2)) ?_
                · go_simp
                · rintro e w' ⟨rfl, hb⟩
                  exact ⟨_, rfl, only_of_below hb, rfl, hG.call (by decide) hb (fun hc => hc.below hb)⟩
              · intro listed σ w a hin hout hl hc hp hG hF
                refine Guarded.some (d := 202) (b := true) rfl rfl ((hin 14 202 rfl (hp ⟨14, .guard⟩ (by simp) rfl)).trans (hF 14 (hp ⟨14, .guard⟩ (by simp) rfl))) ?_
                refine Or.inl ⟨rfl, ?_⟩
                have e207 : a.tmps.getD 207 undef = .bool bb := (hin 19 207 rfl (hp ⟨19, .data⟩ (by simp) rfl)).trans (hF 19 (hp ⟨19, .data⟩ (by simp) rfl))
                have e211 : a.tmps.getD 211 undef = .bool bb := (hin 23 211 rfl (hp ⟨23, .data⟩ (by simp) rfl)).trans (hF 23 (hp ⟨23, .data⟩ (by simp) rfl))
                refine Does.val (.bool true) (w' := w) ?_ ⟨Only.refl _ _, rfl, hG.same (by decide)⟩
                simp only [Array.getD_eq_getD_getElem?] at e207 e211
                go_simp
              · intro listed σ w a hin hout hl hc hp hG hF
                refine Guarded.none rfl ?_
                have e202 : a.tmps.getD 202 undef = .bool true := (hin 14 202 rfl (hp ⟨14, .data⟩ (by simp) rfl)).trans (hF 14 (hp ⟨14, .data⟩ (by simp) rfl))
                have e212 : a.tmps.getD 212 undef = .bool true := (hin 24 212 rfl (hp ⟨24, .data⟩ (by simp) rfl)).trans (hF 24 (hp ⟨24, .data⟩ (by simp) rfl))
                refine Does.val (.bool true) (w' := w) ?_ ⟨Only.refl _ _, rfl, hG.same (by decide)⟩
                simp only [Array.getD_eq_getD_getElem?] at e202 e212
                go_simp
              · intro listed σ w a hin hout hl hc hp hG hF
                refine Guarded.none rfl ?_
                have e213 : a.tmps.getD 213 undef = .bool true := (hin 25 213 rfl (hp ⟨25, .data⟩ (by simp) rfl)).trans (hF 25 (hp ⟨25, .data⟩ (by simp) rfl))
                refine Does.val (.bool true) (w' := w) ?_ ⟨Only.refl _ _, rfl, hG.same (by decide)⟩
                simp only [Array.getD_eq_getD_getElem?] at e213
                go_simp
            · intro listed σ W9 hall hG hF
              rw [show mid _ σ listed _ = (Act.put (Act.put (Act.put (Act.put (Act.put (Act.put (Act.put (Act.put (Act.put (Act.put (Act.put (Act.put (Act.put (Act.put (Act.put (Act.put (Act.put (Act.put (Act.put (Act.put (Act.put (Act.put (Act.put (Act.put (Act.put (Act.put (Act.put _ (some 188) (σ 0)) (some 189) (σ 1)) (some 190) (σ 2)) (some 191) (σ 3)) (some 192) (σ 4)) (some 193) (σ 5)) (some 194) (σ 6)) (some 195) (σ 7)) (some 196) (σ 8)) (some 197) (σ 9)) (some 198) (σ 10)) (some 199) (σ 11)) (some 200) (σ 12)) (some 201) (σ 13)) (some 202) (σ 14)) (some 203) (σ 15)) (some 204) (σ 16)) (some 205) (σ 17)) (some 206) (σ 18)) (some 207) (σ 19)) (some 208) (σ 20)) (some 209) (σ 21)) (some 210) (σ 22)) (some 211) (σ 23)) (some 212) (σ 24)) (some 213) (σ 25)) (some 8) (σ 26)) from (mid_all hall).trans rfl]
              generalize σ 0 = tt0
              generalize σ 1 = tt1
              generalize σ 2 = tt2
              generalize σ 3 = tt3
              generalize σ 4 = tt4
              generalize σ 5 = tt5
              generalize σ 6 = tt6
              generalize σ 7 = tt7
              generalize σ 8 = tt8
              generalize σ 9 = tt9
              generalize σ 10 = tt10
              generalize σ 11 = tt11
              generalize σ 12 = tt12
              generalize σ 13 = tt13
              generalize σ 14 = tt14
              generalize σ 15 = tt15
              generalize σ 16 = tt16
              generalize σ 17 = tt17
              generalize σ 18 = tt18
              generalize σ 19 = tt19
              generalize σ 20 = tt20
              generalize σ 21 = tt21
              generalize σ 22 = tt22
              generalize σ 23 = tt23
              generalize σ 24 = tt24
              generalize σ 25 = tt25
              rw [show σ 26 = .bool true from hF 26 (by decide)]
              simp only [Act.put, List.setIfInBounds_toArray, List.set_cons_zero, List.set_cons_succ]
              have TG := hG.o
              clear hF hG hall
              clear σ
              have HBQ := hide (HBW.out _ TG)
              clear TG SOF HBW HFT HFK HWN HIS HAT
              go_wp2_with fail
              go_ret
              exact ⟨rfl, HBQ.out.bel⟩
        · skip
          have e3 : ((cd : Int) == 0) = false := by simp; omega
          clear hc hwh
          clear t17_230
          clear t28_233
          clear t29_234
          clear g0_235
          clear t31_236
          clear t32_237
          clear t34_238
          have HNX := hide (fun W (h : Tp ⟨A2, nn, c2, toksK s, A, n, c, xs, known⟩ W p2) => next_any ⟨A2, nn, c2, toksK s, A, n, c, xs, known⟩ p2 W h)
          have HWN := hide (fun tx W (h : Cur ⟨A1, nn, c1, toksK s, A, n, c, xs, known⟩ (B + 1) W p2) => want_norm ⟨A1, nn, c1, toksK s, A, n, c, xs, known⟩ (B + 1) p2 tx (rd (toksK s) p2) rfl W h)
          have HIS := hide (fun tx W (h : Tp ⟨A2, nn, c2, toksK s, A, n, c, xs, known⟩ W p2) => is_norm ⟨A2, nn, c2, toksK s, A, n, c, xs, known⟩ p2 tx (rd (toksK s) p2) rfl W h)
          have HAT := hide (fun W (h : Cur ⟨A1, nn, c1, toksK s, A, n, c, xs, known⟩ (B + 1) W p2) => at_any ⟨A1, nn, c1, toksK s, A, n, c, xs, known⟩ (B + 1) p2 W h)
          unfold AtPost at HNX HAT
          dsimp only at HNX HAT
          generalize hd (toksK s) p2 = th at *
          generalize hrr : rd (toksK s) p2 = rr at HWN HIS
          clear hrr
          have HWN := hide (fun W h => HWN.out th.text W h)
          have HIS := hide (fun W h => HIS.out th.text W h)
          generalize isT th.text rr = bb at *
          have TPT := t25_232.out.cell
          go_wp2_with fail
          refine (HNX.out _ (BS_229.out.tp hfp2)).mono ?_
          rintro e We ⟨rfl, hb⟩
          have hse := hb.size
          have BS_1239 := hide (BS_229.out.below hb)
          have c1_1240 := hide (c1_231.out.next hb)
          have t25_1241 := hide (t25_232.out.next hb)
          clear BS_229 c1_231 t25_232
          clear hb HNX TPT
          have hb := bl_alloc We (.cells #[.int .i64 (th.kind : Int), .string th.text, .int .i64 (th.line : Int), .int .i64 (th.col : Int)] 58)
          have BS_1242 := hide (BS_1239.out.below hb)
          have c1_1243 := hide (c1_1240.out.next hb)
          have t25_1244 := hide (t25_1241.out.next hb)
          clear BS_1239 c1_1240 t25_1241
          have t36_1245 := hide (Box.new 58 We #[.int .i64 (th.kind : Int), .string th.text, .int .i64 (th.line : Int), .int .i64 (th.col : Int)])
          have hsf := hb.size
          clear hb
          go_upto_region 25 with fail
          generalize hV : We.alloc (.cells #[.int .i64 (th.kind : Int), .string th.text, .int .i64 (th.line : Int), .int .i64 (th.col : Int)] 58) = Vf at *
          clear hV
          have SOF := hide (show ∀ W, Only (B + 1) Vf W → (W.cell? ⟨We.heap.size, 0, none⟩ = some (.int .i64 (th.kind : Int)) ∧ W.cell? ⟨We.heap.size, 1, none⟩ = some (.string th.text) ∧ W.cell? ⟨W8.heap.size, 0, none⟩ = some (.slice A2 nn c2) ∧ W.cell? ⟨W8.heap.size, 1, none⟩ = some (.int .i64 (p2 : Int)) ∧ W.cell? ⟨W8.heap.size, 2, none⟩ = some (.slice A n c) ∧ W.cell? ⟨W8.heap.size, 3, none⟩ = some (.bool known)) from fun W h => ⟨(t36_1245.out.other h (by omega)).cell 0 _ rfl, (t36_1245.out.other h (by omega)).cell 1 _ rfl, (t25_1244.out.other h (by omega)).cell 0 _ rfl, (t25_1244.out.other h (by omega)).cell 1 _ rfl, (t25_1244.out.other h (by omega)).cell 2 _ rfl, (t25_1244.out.other h (by omega)).cell 3 _ rfl⟩)
          have HBW := hide (fun W (h : Only (B + 1) Vf W) => BS_1242.out.only h (by omega))
          have HFT := fun a b c d W => field_ktext a b c d W
          have HFK := fun a b c d W => field_kkind a b c d W
          have e8 : (th.text.toList == th.text.toList) = true := by simp
          have e9 : ((th.kind : Int) == (th.kind : Int)) = true := by simp
          have e10 : (wantC bb == 0) = bb := wantC_eq bb
          have e11 : (bb == bb) = true := by simp
          refine wp_drawn (by kernel_rfl) (by kernel_rfl) (by kernel_rfl) (Only (B + 1)) (fun j v w => match j with | 0 => v = .pointer (some ⟨B + 1, 0, none⟩) | 1 => v = .agg #[.int .i64 (th.kind : Int), .string th.text, .int .i64 (th.line : Int), .int .i64 (th.col : Int)] | 2 => v = .string th.text | 3 => v = .pointer (some ⟨We.heap.size, 1, none⟩) | 4 => v = .string th.text | 5 => v = .bool true | 6 => v = .bool true | 7 => v = .pointer (some ⟨B + 1, 0, none⟩) | 8 => v = .agg #[.int .i64 (th.kind : Int), .string th.text, .int .i64 (th.line : Int), .int .i64 (th.col : Int)] | 9 => v = .int .i64 (th.kind : Int) | 10 => v = .pointer (some ⟨We.heap.size, 0, none⟩) | 11 => v = .int .i64 (th.kind : Int) | 12 => v = .bool true | 13 => v = .bool true | 14 => v = .bool true | 15 => v = .pointer (some ⟨B + 1, 0, none⟩) | 16 => v = .pointer (some ⟨We.heap.size, 1, none⟩) | 17 => v = .string th.text | 18 => v = .int .i64 (wantC bb) | 19 => v = .bool bb | 20 => v = .agg #[.slice A2 nn c2, .int .i64 (p2 : Int), .slice A n c, .bool known] | 21 => v = .pointer (some ⟨We.heap.size, 1, none⟩) | 22 => v = .string th.text | 23 => v = .bool bb | 24 => v = .bool true | 25 => v = .bool true | 26 => v = .bool true | _ => True) (GO 18 (B + 1) Vf (fun W => Cur ⟨A1, nn, c1, toksK s, A, n, c, xs, known⟩ (B + 1) W p2)) ?_ (fun _ => GO.start (only_of_below (bl_drewN Vf 1)) ((BS_1242.out.cur c1_1243.out (by omega) hfp2).below (bl_drewN Vf 1)) (by decide)) ?_ ?_
          · intro j v w w' hT h
            match j, h with
            | 0, h => exact h
            | 1, h => exact h
            | 2, h => exact h
            | 3, h => exact h
            | 4, h => exact h
            | 5, h => exact h
            | 6, h => exact h
            | 7, h => exact h
            | 8, h => exact h
            | 9, h => exact h
            | 10, h => exact h
            | 11, h => exact h
            | 12, h => exact h
            | 13, h => exact h
            | 14, h => exact h
            | 15, h => exact h
            | 16, h => exact h
            | 17, h => exact h
            | 18, h => exact h
            | 19, h => exact h
            | 20, h => exact h
            | 21, h => exact h
            | 22, h => exact h
            | 23, h => exact h
            | 24, h => exact h
            | 25, h => exact h
            | 26, h => exact h
            | j + 27, h => trivial
          · refine ⟨?_, ?_, ?_, ?_, ?_, ?_, ?_, ?_, ?_, ?_, ?_, ?_, ?_, ?_, ?_, ?_, ?_, ?_, ?_, ?_, ?_, ?_, ?_, ?_, ?_, ?_, ?_, trivial⟩
            · intro listed σ w a hin hout hl hc hp hG hF
              refine Guarded.none rfl ?_
              have e16 : a.tmps.getD 16 undef = .pointer (some ⟨B + 1, 0, none⟩) := hout 16 (outB_spec (by kernel_rfl))
              refine Does.val (.pointer (some ⟨B + 1, 0, none⟩)) (w' := w) ?_ ⟨Only.refl _ _, rfl, hG.same (by decide)⟩
              simp only [Array.getD_eq_getD_getElem?] at e16
              go_simp
            · intro listed σ w a hin hout hl hc hp hG hF
              refine Guarded.none rfl ?_
              have e188 : a.tmps.getD 188 undef = .pointer (some ⟨B + 1, 0, none⟩) := (hin 0 188 rfl (hp ⟨0, .data⟩ (by simp) rfl)).trans (hF 0 (hp ⟨0, .data⟩ (by simp) rfl))
              refine Does.call ?_ (HAT.out w (hG.c (un_next (k := 18) hc (un_next (k := 14) hc (un_next (k := 8) hc (un_next (k := 6) hc hl (by kernel_rfl)) (by kernel_rfl)) (by kernel_rfl)) (by kernel_rfl)))) ?_
              · go_simp
              · rintro e w' ⟨rfl, hb⟩
                exact ⟨_, rfl, only_of_below hb, rfl, hG.call (by decide) hb (fun hc => hc.below hb)⟩
            · intro listed σ w a hin hout hl hc hp hG hF
              refine Guarded.none rfl ?_
              have e189 : a.tmps.getD 189 undef = .agg #[.int .i64 (th.kind : Int), .string th.text, .int .i64 (th.line : Int), .int .i64 (th.col : Int)] := (hin 1 189 rfl (hp ⟨1, .data⟩ (by simp) rfl)).trans (hF 1 (hp ⟨1, .data⟩ (by simp) rfl))
              refine Does.val (.string th.text) (w' := w) ?_ ⟨Only.refl _ _, rfl, hG.same (by decide)⟩
              simp only [Array.getD_eq_getD_getElem?] at e189
              go_simp
            · intro listed σ w a hin hout hl hc hp hG hF
              refine Guarded.none rfl ?_
              have e36 : a.tmps.getD 36 undef = .pointer (some ⟨We.heap.size, 0, none⟩) := hout 36 (outB_spec (by kernel_rfl))
              refine Does.val (.pointer (some ⟨We.heap.size, 1, none⟩)) (w' := w) ?_ ⟨Only.refl _ _, rfl, hG.same (by decide)⟩
              simp only [Array.getD_eq_getD_getElem?] at e36
              go_simp
            · intro listed σ w a hin hout hl hc hp hG hF
              refine Guarded.none rfl ?_
              have e191 : a.tmps.getD 191 undef = .pointer (some ⟨We.heap.size, 1, none⟩) := (hin 3 191 rfl (hp ⟨3, .data⟩ (by simp) rfl)).trans (hF 3 (hp ⟨3, .data⟩ (by simp) rfl))
              have CC := SOF.out w hG.o; obtain ⟨C0, C1, C2, C3, C4, C5⟩ := CC
              refine Does.val (.string th.text) (w' := w) ?_ ⟨Only.refl _ _, rfl, hG.same (by decide)⟩
              go_simp
            · intro listed σ w a hin hout hl hc hp hG hF
              refine Guarded.none rfl ?_
              have e190 : a.tmps.getD 190 undef = .string th.text := (hin 2 190 rfl (hp ⟨2, .data⟩ (by simp) rfl)).trans (hF 2 (hp ⟨2, .data⟩ (by simp) rfl))
              have e192 : a.tmps.getD 192 undef = .string th.text := (hin 4 192 rfl (hp ⟨4, .data⟩ (by simp) rfl)).trans (hF 4 (hp ⟨4, .data⟩ (by simp) rfl))
              refine Does.val (.bool true) (w' := w) ?_ ⟨Only.refl _ _, rfl, hG.same (by decide)⟩
              simp only [Array.getD_eq_getD_getElem?] at e190 e192
              go_simp
            · intro listed σ w a hin hout hl hc hp hG hF
              refine Guarded.none rfl ?_
              have e193 : a.tmps.getD 193 undef = .bool true := (hin 5 193 rfl (hp ⟨5, .data⟩ (by simp) rfl)).trans (hF 5 (hp ⟨5, .data⟩ (by simp) rfl))
              refine Does.val (.bool true) (w' := w) ?_ ⟨Only.refl _ _, rfl, hG.same (by decide)⟩
              simp only [Array.getD_eq_getD_getElem?] at e193
              go_simp
            · intro listed σ w a hin hout hl hc hp hG hF
              refine Guarded.some (d := 194) (b := true) rfl rfl ((hin 6 194 rfl (hp ⟨6, .guard⟩ (by simp) rfl)).trans (hF 6 (hp ⟨6, .guard⟩ (by simp) rfl))) ?_
              refine Or.inl ⟨rfl, ?_⟩
              have e16 : a.tmps.getD 16 undef = .pointer (some ⟨B + 1, 0, none⟩) := hout 16 (outB_spec (by kernel_rfl))
              refine Does.val (.pointer (some ⟨B + 1, 0, none⟩)) (w' := w) ?_ ⟨Only.refl _ _, rfl, hG.same (by decide)⟩
              simp only [Array.getD_eq_getD_getElem?] at e16
              go_simp
            · intro listed σ w a hin hout hl hc hp hG hF
              refine Guarded.some (d := 194) (b := true) rfl rfl ((hin 6 194 rfl (hp ⟨6, .guard⟩ (by simp) rfl)).trans (hF 6 (hp ⟨6, .guard⟩ (by simp) rfl))) ?_
              refine Or.inl ⟨rfl, ?_⟩
              have e195 : a.tmps.getD 195 undef = .pointer (some ⟨B + 1, 0, none⟩) := (hin 7 195 rfl (hp ⟨7, .data⟩ (by simp) rfl)).trans (hF 7 (hp ⟨7, .data⟩ (by simp) rfl))
              refine Does.call ?_ (HAT.out w (hG.c (un_next (k := 18) hc (un_next (k := 14) hc hl (by kernel_rfl)) (by kernel_rfl)))) ?_
              · go_simp
              · rintro e w' ⟨rfl, hb⟩
                exact ⟨_, rfl, only_of_below hb, rfl, hG.call (by decide) hb (fun hc => hc.below hb)⟩
            · intro listed σ w a hin hout hl hc hp hG hF
              refine Guarded.some (d := 194) (b := true) rfl rfl ((hin 6 194 rfl (hp ⟨6, .guard⟩ (by simp) rfl)).trans (hF 6 (hp ⟨6, .guard⟩ (by simp) rfl))) ?_
              refine Or.inl ⟨rfl, ?_⟩
              have e196 : a.tmps.getD 196 undef = .agg #[.int .i64 (th.kind : Int), .string th.text, .int .i64 (th.line : Int), .int .i64 (th.col : Int)] := (hin 8 196 rfl (hp ⟨8, .data⟩ (by simp) rfl)).trans (hF 8 (hp ⟨8, .data⟩ (by simp) rfl))
              refine Does.val (.int .i64 (th.kind : Int)) (w' := w) ?_ ⟨Only.refl _ _, rfl, hG.same (by decide)⟩
              simp only [Array.getD_eq_getD_getElem?] at e196
              go_simp
            · intro listed σ w a hin hout hl hc hp hG hF
              refine Guarded.some (d := 194) (b := true) rfl rfl ((hin 6 194 rfl (hp ⟨6, .guard⟩ (by simp) rfl)).trans (hF 6 (hp ⟨6, .guard⟩ (by simp) rfl))) ?_
              refine Or.inl ⟨rfl, ?_⟩
              have e36 : a.tmps.getD 36 undef = .pointer (some ⟨We.heap.size, 0, none⟩) := hout 36 (outB_spec (by kernel_rfl))
              refine Does.val (.pointer (some ⟨We.heap.size, 0, none⟩)) (w' := w) ?_ ⟨Only.refl _ _, rfl, hG.same (by decide)⟩
              simp only [Array.getD_eq_getD_getElem?] at e36
              go_simp
            · intro listed σ w a hin hout hl hc hp hG hF
              refine Guarded.some (d := 194) (b := true) rfl rfl ((hin 6 194 rfl (hp ⟨6, .guard⟩ (by simp) rfl)).trans (hF 6 (hp ⟨6, .guard⟩ (by simp) rfl))) ?_
              refine Or.inl ⟨rfl, ?_⟩
              have e198 : a.tmps.getD 198 undef = .pointer (some ⟨We.heap.size, 0, none⟩) := (hin 10 198 rfl (hp ⟨10, .data⟩ (by simp) rfl)).trans (hF 10 (hp ⟨10, .data⟩ (by simp) rfl))
              have CC := SOF.out w hG.o; obtain ⟨C0, C1, C2, C3, C4, C5⟩ := CC
              refine Does.val (.int .i64 (th.kind : Int)) (w' := w) ?_ ⟨Only.refl _ _, rfl, hG.same (by decide)⟩
              go_simp
            · intro listed σ w a hin hout hl hc hp hG hF
              refine Guarded.some (d := 194) (b := true) rfl rfl ((hin 6 194 rfl (hp ⟨6, .guard⟩ (by simp) rfl)).trans (hF 6 (hp ⟨6, .guard⟩ (by simp) rfl))) ?_
              refine Or.inl ⟨rfl, ?_⟩
              have e197 : a.tmps.getD 197 undef = .int .i64 (th.kind : Int) := (hin 9 197 rfl (hp ⟨9, .data⟩ (by simp) rfl)).trans (hF 9 (hp ⟨9, .data⟩ (by simp) rfl))
              have e199 : a.tmps.getD 199 undef = .int .i64 (th.kind : Int) := (hin 11 199 rfl (hp ⟨11, .data⟩ (by simp) rfl)).trans (hF 11 (hp ⟨11, .data⟩ (by simp) rfl))
              refine Does.val (.bool true) (w' := w) ?_ ⟨Only.refl _ _, rfl, hG.same (by decide)⟩
              simp only [Array.getD_eq_getD_getElem?] at e197 e199
              go_simp
            · intro listed σ w a hin hout hl hc hp hG hF
              refine Guarded.none rfl ?_
              have e194 : a.tmps.getD 194 undef = .bool true := (hin 6 194 rfl (hp ⟨6, .data⟩ (by simp) rfl)).trans (hF 6 (hp ⟨6, .data⟩ (by simp) rfl))
              have e200 : a.tmps.getD 200 undef = .bool true := (hin 12 200 rfl (hp ⟨12, .data⟩ (by simp) rfl)).trans (hF 12 (hp ⟨12, .data⟩ (by simp) rfl))
              refine Does.val (.bool true) (w' := w) ?_ ⟨Only.refl _ _, rfl, hG.same (by decide)⟩
              simp only [Array.getD_eq_getD_getElem?] at e194 e200
              go_simp
            · intro listed σ w a hin hout hl hc hp hG hF
              refine Guarded.none rfl ?_
              have e201 : a.tmps.getD 201 undef = .bool true := (hin 13 201 rfl (hp ⟨13, .data⟩ (by simp) rfl)).trans (hF 13 (hp ⟨13, .data⟩ (by simp) rfl))
              refine Does.val (.bool true) (w' := w) ?_ ⟨Only.refl _ _, rfl, hG.same (by decide)⟩
              simp only [Array.getD_eq_getD_getElem?] at e201
              go_simp
            · intro listed σ w a hin hout hl hc hp hG hF
              refine Guarded.some (d := 202) (b := true) rfl rfl ((hin 14 202 rfl (hp ⟨14, .guard⟩ (by simp) rfl)).trans (hF 14 (hp ⟨14, .guard⟩ (by simp) rfl))) ?_
              refine Or.inl ⟨rfl, ?_⟩
              have e16 : a.tmps.getD 16 undef = .pointer (some ⟨B + 1, 0, none⟩) := hout 16 (outB_spec (by kernel_rfl))
              refine Does.val (.pointer (some ⟨B + 1, 0, none⟩)) (w' := w) ?_ ⟨Only.refl _ _, rfl, hG.same (by decide)⟩
              simp only [Array.getD_eq_getD_getElem?] at e16
              go_simp
            · intro listed σ w a hin hout hl hc hp hG hF
              refine Guarded.some (d := 202) (b := true) rfl rfl ((hin 14 202 rfl (hp ⟨14, .guard⟩ (by simp) rfl)).trans (hF 14 (hp ⟨14, .guard⟩ (by simp) rfl))) ?_
              refine Or.inl ⟨rfl, ?_⟩
              have e36 : a.tmps.getD 36 undef = .pointer (some ⟨We.heap.size, 0, none⟩) := hout 36 (outB_spec (by kernel_rfl))
              refine Does.val (.pointer (some ⟨We.heap.size, 1, none⟩)) (w' := w) ?_ ⟨Only.refl _ _, rfl, hG.same (by decide)⟩
              simp only [Array.getD_eq_getD_getElem?] at e36
              go_simp
            · intro listed σ w a hin hout hl hc hp hG hF
              refine Guarded.some (d := 202) (b := true) rfl rfl ((hin 14 202 rfl (hp ⟨14, .guard⟩ (by simp) rfl)).trans (hF 14 (hp ⟨14, .guard⟩ (by simp) rfl))) ?_
              refine Or.inl ⟨rfl, ?_⟩
              have e204 : a.tmps.getD 204 undef = .pointer (some ⟨We.heap.size, 1, none⟩) := (hin 16 204 rfl (hp ⟨16, .data⟩ (by simp) rfl)).trans (hF 16 (hp ⟨16, .data⟩ (by simp) rfl))
              have CC := SOF.out w hG.o; obtain ⟨C0, C1, C2, C3, C4, C5⟩ := CC
              refine Does.val (.string th.text) (w' := w) ?_ ⟨Only.refl _ _, rfl, hG.same (by decide)⟩
              go_simp
            · intro listed σ w a hin hout hl hc hp hG hF
              refine Guarded.some (d := 202) (b := true) rfl rfl ((hin 14 202 rfl (hp ⟨14, .guard⟩ (by simp) rfl)).trans (hF 14 (hp ⟨14, .guard⟩ (by simp) rfl))) ?_
              refine Or.inl ⟨rfl, ?_⟩
              have e203 : a.tmps.getD 203 undef = .pointer (some ⟨B + 1, 0, none⟩) := (hin 15 203 rfl (hp ⟨15, .data⟩ (by simp) rfl)).trans (hF 15 (hp ⟨15, .data⟩ (by simp) rfl))
              have e205 : a.tmps.getD 205 undef = .string th.text := (hin 17 205 rfl (hp ⟨17, .data⟩ (by simp) rfl)).trans (hF 17 (hp ⟨17, .data⟩ (by simp) rfl))
              refine Does.call ?_ (HWN.out w (hG.c hl)) ?_
              · go_simp
              · rintro e w' ⟨rfl, hb⟩
                exact ⟨_, rfl, hb, rfl, hG.want hb⟩
            · intro listed σ w a hin hout hl hc hp hG hF
              refine Guarded.some (d := 202) (b := true) rfl rfl ((hin 14 202 rfl (hp ⟨14, .guard⟩ (by simp) rfl)).trans (hF 14 (hp ⟨14, .guard⟩ (by simp) rfl))) ?_
              refine Or.inl ⟨rfl, ?_⟩
              have e206 : a.tmps.getD 206 undef = .int .i64 (wantC bb) := (hin 18 206 rfl (hp ⟨18, .data⟩ (by simp) rfl)).trans (hF 18 (hp ⟨18, .data⟩ (by simp) rfl))
              refine Does.val (.bool bb) (w' := w) ?_ ⟨Only.refl _ _, rfl, hG.same (by decide)⟩
              simp only [Array.getD_eq_getD_getElem?] at e206
              go_simp
            · intro listed σ w a hin hout hl hc hp hG hF
              refine Guarded.some (d := 202) (b := true) rfl rfl ((hin 14 202 rfl (hp ⟨14, .guard⟩ (by simp) rfl)).trans (hF 14 (hp ⟨14, .guard⟩ (by simp) rfl))) ?_
              refine Or.inl ⟨rfl, ?_⟩
              have e25 : a.tmps.getD 25 undef = .pointer (some ⟨W8.heap.size, 0, none⟩) := hout 25 (outB_spec (by kernel_rfl))
              have CC := SOF.out w hG.o; obtain ⟨C0, C1, C2, C3, C4, C5⟩ := CC
              refine Does.val (.agg #[.slice A2 nn c2, .int .i64 (p2 : Int), .slice A n c, .bool known]) (w' := w) ?_ ⟨Only.refl _ _, rfl, hG.same (by decide)⟩
              go_simp
            · intro listed σ w a hin hout hl hc hp hG hF
              refine Guarded.some (d := 202) (b := true) rfl rfl ((hin 14 202 rfl (hp ⟨14, .guard⟩ (by simp) rfl)).trans (hF 14 (hp ⟨14, .guard⟩ (by simp) rfl))) ?_
              refine Or.inl ⟨rfl, ?_⟩
              have e36 : a.tmps.getD 36 undef = .pointer (some ⟨We.heap.size, 0, none⟩) := hout 36 (outB_spec (by kernel_rfl))
              refine Does.val (.pointer (some ⟨We.heap.size, 1, none⟩)) (w' := w) ?_ ⟨Only.refl _ _, rfl, hG.same (by decide)⟩
              simp only [Array.getD_eq_getD_getElem?] at e36
              go_simp
            · intro listed σ w a hin hout hl hc hp hG hF
              refine Guarded.some (d := 202) (b := true) rfl rfl ((hin 14 202 rfl (hp ⟨14, .guard⟩ (by simp) rfl)).trans (hF 14 (hp ⟨14, .guard⟩ (by simp) rfl))) ?_
              refine Or.inl ⟨rfl, ?_⟩
              have e209 : a.tmps.getD 209 undef = .pointer (some ⟨We.heap.size, 1, none⟩) := (hin 21 209 rfl (hp ⟨21, .data⟩ (by simp) rfl)).trans (hF 21 (hp ⟨21, .data⟩ (by simp) rfl))
              have CC := SOF.out w hG.o; obtain ⟨C0, C1, C2, C3, C4, C5⟩ := CC
              refine Does.val (.string th.text) (w' := w) ?_ ⟨Only.refl _ _, rfl, hG.same (by decide)⟩
              go_simp
            · intro listed σ w a hin hout hl hc hp hG hF
              refine Guarded.some (d := 202) (b := true) rfl rfl ((hin 14 202 rfl (hp ⟨14, .guard⟩ (by simp) rfl)).trans (hF 14 (hp ⟨14, .guard⟩ (by simp) rfl))) ?_
              refine Or.inl ⟨rfl, ?_⟩
              have e208 : a.tmps.getD 208 undef = .agg #[.slice A2 nn c2, .int .i64 (p2 : Int), .slice A n c, .bool known] := (hin 20 208 rfl (hp ⟨20, .data⟩ (by simp) rfl)).trans (hF 20 (hp ⟨20, .data⟩ (by simp) rfl))
              have e210 : a.tmps.getD 210 undef = .string th.text := (hin 22 210 rfl (hp ⟨22, .data⟩ (by simp) rfl)).trans (hF 22 (hp ⟨22, .data⟩ (by simp) rfl))
              refine Does.call ?_ (HIS.out w ((HBW.out w hG.o).tp hfp2)) ?_
              · go_simp
              · rintro e w' ⟨rfl, hb⟩
                exact ⟨_, rfl, only_of_below hb, rfl, hG.call (by decide) hb (fun hc => hc.below hb)⟩
            · intro listed σ w a hin hout hl hc hp hG hF
              refine Guarded.some (d := 202) (b := true) rfl rfl ((hin 14 202 rfl (hp ⟨14, .guard⟩ (by simp) rfl)).trans (hF 14 (hp ⟨14, .guard⟩ (by simp) rfl))) ?_
              refine Or.inl ⟨rfl, ?_⟩
              have e207 : a.tmps.getD 207 undef = .bool bb := (hin 19 207 rfl (hp ⟨19, .data⟩ (by simp) rfl)).trans (hF 19 (hp ⟨19, .data⟩ (by simp) rfl))
              have e211 : a.tmps.getD 211 undef = .bool bb := (hin 23 211 rfl (hp ⟨23, .data⟩ (by simp) rfl)).trans (hF 23 (hp ⟨23, .data⟩ (by simp) rfl))
              refine Does.val (.bool true) (w' := w) ?_ ⟨Only.refl _ _, rfl, hG.same (by decide)⟩
              simp only [Array.getD_eq_getD_getElem?] at e207 e211
              go_simp
            · intro listed σ w a hin hout hl hc hp hG hF
              refine Guarded.none rfl ?_
              have e202 : a.tmps.getD 202 undef = .bool true := (hin 14 202 rfl (hp ⟨14, .data⟩ (by simp) rfl)).trans (hF 14 (hp ⟨14, .data⟩ (by simp) rfl))
              have e212 : a.tmps.getD 212 undef = .bool true := (hin 24 212 rfl (hp ⟨24, .data⟩ (by simp) rfl)).trans (hF 24 (hp ⟨24, .data⟩ (by simp) rfl))
              refine Does.val (.bool true) (w' := w) ?_ ⟨Only.refl _ _, rfl, hG.same (by decide)⟩
              simp only [Array.getD_eq_getD_getElem?] at e202 e212
              go_simp
            · intro listed σ w a hin hout hl hc hp hG hF
              refine Guarded.none rfl ?_
              have e213 : a.tmps.getD 213 undef = .bool true := (hin 25 213 rfl (hp ⟨25, .data⟩ (by simp) rfl)).trans (hF 25 (hp ⟨25, .data⟩ (by simp) rfl))
              refine Does.val (.bool true) (w' := w) ?_ ⟨Only.refl _ _, rfl, hG.same (by decide)⟩
              simp only [Array.getD_eq_getD_getElem?] at e213
              go_simp
          · intro listed σ W9 hall hG hF
            rw [show mid _ σ listed _ = (Act.put (Act.put (Act.put (Act.put (Act.put (Act.put (Act.put (Act.put (Act.put (Act.put (Act.put (Act.put (Act.put (Act.put (Act.put (Act.put (Act.put (Act.put (Act.put (Act.put (Act.put (Act.put (Act.put (Act.put (Act.put (Act.put (Act.put _ (some 188) (σ 0)) (some 189) (σ 1)) (some 190) (σ 2)) (some 191) (σ 3)) (some 192) (σ 4)) (some 193) (σ 5)) (some 194) (σ 6)) (some 195) (σ 7)) (some 196) (σ 8)) (some 197) (σ 9)) (some 198) (σ 10)) (some 199) (σ 11)) (some 200) (σ 12)) (some 201) (σ 13)) (some 202) (σ 14)) (some 203) (σ 15)) (some 204) (σ 16)) (some 205) (σ 17)) (some 206) (σ 18)) (some 207) (σ 19)) (some 208) (σ 20)) (some 209) (σ 21)) (some 210) (σ 22)) (some 211) (σ 23)) (some 212) (σ 24)) (some 213) (σ 25)) (some 8) (σ 26)) from (mid_all hall).trans rfl]
            generalize σ 0 = tt0
            generalize σ 1 = tt1
            generalize σ 2 = tt2
            generalize σ 3 = tt3
            generalize σ 4 = tt4
            generalize σ 5 = tt5
            generalize σ 6 = tt6
            generalize σ 7 = tt7
            generalize σ 8 = tt8
            generalize σ 9 = tt9
            generalize σ 10 = tt10
            generalize σ 11 = tt11
            generalize σ 12 = tt12
            generalize σ 13 = tt13
            generalize σ 14 = tt14
            generalize σ 15 = tt15
            generalize σ 16 = tt16
            generalize σ 17 = tt17
            generalize σ 18 = tt18
            generalize σ 19 = tt19
            generalize σ 20 = tt20
            generalize σ 21 = tt21
            generalize σ 22 = tt22
            generalize σ 23 = tt23
            generalize σ 24 = tt24
            generalize σ 25 = tt25
            rw [show σ 26 = .bool true from hF 26 (by decide)]
            simp only [Act.put, List.setIfInBounds_toArray, List.set_cons_zero, List.set_cons_succ]
            have TG := hG.o
            clear hF hG hall
            clear σ
            have HBQ := hide (HBW.out _ TG)
            clear TG SOF HBW HFT HFK HWN HIS HAT
            go_wp2_with fail
            go_ret
            exact ⟨rfl, HBQ.out.bel⟩
end Go.Proofs.YtneiajkcikcnnaaDoor
