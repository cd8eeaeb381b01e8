/- Texts of one seat, put together: RelTight TCoef TCmp. -/
import Derived.Test.YtdeakieenppmiaaGreatDoorB30
import Derived.Test.YtdeakieenppmiaaGreatDoorB21
import Derived.Test.YtdeakieenppmiaaGreatDoorB22
import Derived.Test.YtdeakieenppmiaaGreatDoorB10
set_option linter.unusedVariables false
/- rel.Tight. -/
namespace Go.Proofs.YtdeakieenppmiaaGreatDoor
open Go.RowKit
open Tm

set_option maxRecDepth 100000 in
set_option maxHeartbeats 8000000 in
theorem relTight_any (v : Value) (L : List (Int × Int)) (K : Int) (e : Bool) (k : Nat) (w0 : World) (hv : RIn w0 v L K e k) (hl : L.length ≤ 100000) (hk : k ≤ 100000) : Calls Tryz.prog 10 #[v] w0 (TightPost L K e (k + L.length + L.length) w0) := by
  have hv0 := hv
  obtain ⟨A, n, c, s, B, m, d, rfl, ht⟩ := hv
  obtain ⟨z0, z1, z2, -⟩ := bstart2 30 30 w0 #[.slice A n c, .bool s, .slice B m d, .bool e] #[.slice none 0 0, .bool false, .slice none 0 0, .bool false]
  have hsh := tshrink_any _ L K k _ (ht.below z2) (by omega) (by omega)
  have HTK := hide ht.opn.2.2.2
  have x0 := z0.r0
  have x1 := z0.r1
  have x2 := z0.r2
  go_enter Tryz.func10, Tryz.ntmps10
  go_wp2_with fail
  refine hsh.mono ?_
  rintro en w1 ⟨v1, u1, rfl, r1, g1, b1⟩
  obtain ⟨As, ns, cs, ss, Bs, ms, ds, rfl⟩ := r1.form
  obtain ⟨sg, Ag, ng, cg, rfl⟩ := g1.form
  have y1 := bl_alloc w1 (.cells #[.slice As ns cs, .bool ss, .slice Bs ms ds] 28)
  have y2 := bl_alloc (w1.alloc (.cells #[.slice As ns cs, .bool ss, .slice Bs ms ds] 28)) (.cells #[.bool sg, .slice Ag ng cg] 26)
  have t0 := (Box.new 28 w1 #[.slice As ns cs, .bool ss, .slice Bs ms ds]).next y2
  have k0 := Blk.new (w1.alloc (.cells #[.slice As ns cs, .bool ss, .slice Bs ms ds] 28)) #[.bool sg, .slice Ag ng cg]
  rw [size_alloc] at k0
  have T2 := hide (((z2.next b1).next y1).next y2)
  have XR := hide (((z0.next b1).next y1).next y2)
  have XO := hide (((z1.next b1).next y1).next y2)
  have XT := hide t0
  have XG := hide k0
  have R1 := hide ((r1.below y1).below y2)
  have G1 := hide ((g1.below y1).below y2)
  have hs1 := hide (show w0.heap.size + 1 + 1 ≤ w1.heap.size by have := b1.size; simp only [size_alloc] at this; omega)
  have HNS := hide (show (norm L).length = ns by rw [← quot_len]; exact (R1.out.opn.1).len)
  have HV0 := hide hv0
  clear x0 x1 x2 z0 z1 z2 hsh ht r1 g1 b1 y1 y2 t0 k0 hv0
  generalize hW : ((w1.alloc (.cells #[.slice As ns cs, .bool ss, .slice Bs ms ds] 28)).alloc (.cells #[.bool sg, .slice Ag ng cg] 26)) = W at *
  by_cases hns : ns = 0
  · subst hns
    have HNN := hide (List.length_eq_zero_iff.1 HNS.out)
    have hho := relHolds_any _ L K e k 0 none 0 0 [] W (HV0.out.below T2.out) ⟨rfl, fun h => absurd h (by omega), fun p hp => by cases hp⟩ (by omega) (by omega) (by omega) (by omega)
    rw [show K + val (nums []) L = K by rw [show nums [] = [] from rfl, val_nil]; omega] at hho
    have HKN := hide (tgKnown_nil (K := K) (e := e) HNN.out)
    have x0 := XR.out.r0
    have x1 := XR.out.r1
    have x2 := XR.out.r2
    have x3 := XR.out.r3
    have y0 := XT.out.c0
    subst hW
    go_wp2_with fail
    refine hho.mono ?_
    rintro en w2 ⟨rfl, b2⟩
    have HB2 := hide b2
    have xo := XO.out.next b2
    have y0' := (XT.out.next b2).c0
    clear x0 x1 x2 x3 y0 hho b2
    cases hb : holdsZ e K with
    | true =>
      have hkn : tgKnown L K e = 1 := by rw [HKN.out, if_pos hb]
      clear hb
      go_wp2_with (with_reducible refine wpList_store_r rfl _ _ rfl (w0.heap.size + 1) _ _ _ _ _ _ _ _ rfl rfl _ _ _ _ xo ?_; intro w3 k3 ho3)
      refine bodyPost_rs rfl rfl rfl k3 rfl ?_
      obtain ⟨e1, e2, e3⟩ := tg_known (L := L) (K := K) (e := e) (by rw [hkn]; decide)
      exact ⟨_, by rw [hkn] <;> rfl, by rw [e1, e2, e3]; exact RRes.zero _ _, zback (T2.out.next HB2.out) (by omega) ho3⟩
    | false =>
      have hkn : tgKnown L K e = -1 := by rw [HKN.out, if_neg (by simp [hb])]
      clear hb
      go_wp2_with (with_reducible refine wpList_store_r rfl _ _ rfl (w0.heap.size + 1) _ _ _ _ _ _ _ _ rfl rfl _ _ _ _ xo ?_; intro w3 k3 ho3)
      refine bodyPost_rs rfl rfl rfl k3 rfl ?_
      obtain ⟨e1, e2, e3⟩ := tg_known (L := L) (K := K) (e := e) (by rw [hkn]; decide)
      exact ⟨_, by rw [hkn] <;> rfl, by rw [e1, e2, e3]; exact RRes.zero _ _, zback (T2.out.next HB2.out) (by omega) ho3⟩
  · have HNN := hide (show norm L ≠ [] from fun h => hns (by rw [← HNS.out, h]; rfl))
    have hnz : ¬ (ns : Int) = 0 := by omega
    have HC0 := hide (show content L ≠ 0 from fun h => HNN.out (content_zero.1 h))
    have x0 := XR.out.r0
    have x1 := XR.out.r1
    have x2 := XR.out.r2
    have x3 := XR.out.r3
    have y0 := XT.out.c0
    have y1 := XT.out.c1
    have y2 := XT.out.c2
    have g0 := Blk.c0 XG.out
    have g1 := Blk.c1 XG.out
    have xo := XO.out
    cases e with
    | false =>
      have hkn := tgKnown_least (L := L) (K := K) HNN.out
      subst hW
      go_wp2_with (with_reducible refine wpList_store_r rfl _ _ rfl (w0.heap.size + 1) _ _ _ _ _ _ _ _ rfl rfl _ _ _ _ xo ?_; intro w3 k3 ho3)
      refine bodyPost_rs rfl rfl rfl k3 rfl ?_
      obtain ⟨e1, e2, e3⟩ := tg_plain (L := L) (K := K) (e := false) hkn rfl
      refine ⟨_, by rw [hkn] <;> rfl, ?_, zback T2.out (by omega) ho3⟩
      rw [e1, e2, e3, ← shrK_at HNN.out]
      exact ⟨_, _, _, _, _, _, _, rfl, (R1.out.mono (by omega)).onlyR XO.out ho3⟩
    | true =>
      have hdv := zdiv_yes _ _ K (content L) k (k + L.length) W (HTK.out.below T2.out) G1.out.in_ HC0.out (by omega) (by omega)
      subst hW
      go_wp2_with fail
      refine hdv.mono ?_
      rintro en w2 ⟨q2, v2, rfl, zq, zr, b2⟩
      obtain ⟨s3, A3, n3, c3, rfl⟩ := zq.form
      obtain ⟨s4, A4, n4, c4, rfl⟩ := zr.form
      have y3 := bl_alloc w2 (.cells #[.bool s3, .slice A3 n3 c3] 26)
      have y4 := bl_alloc (w2.alloc (.cells #[.bool s3, .slice A3 n3 c3] 26)) (.cells #[.bool s4, .slice A4 n4 c4] 26)
      have hB2 := (b2.next y3).next y4
      have k4 := Blk.new (w2.alloc (.cells #[.bool s3, .slice A3 n3 c3] 26)) #[.bool s4, .slice A4 n4 c4]
      have zr4 := (zr.below y3).below y4
      have hsg := sign_z _ (K.fmod (content L)) _ _ zr4.in_ (by omega)
      unfold SignPost at hsg
      have HB2 := hide hB2
      have c40 := Blk.c0 k4
      have c41 := Blk.c1 k4
      have hs2 := hide (show w1.heap.size + 1 + 1 ≤ w2.heap.size by have := b2.size; simp only [size_alloc] at this; omega)
      clear x0 x1 x2 x3 y0 y1 y2 g0 g1 xo hdv zq zr b2 y3 y4 hB2 k4 zr4
      go_wp2_with fail
      refine hsg.mono ?_
      rintro en w3 ⟨rfl, b3⟩
      have T3 := hide ((T2.out.next HB2.out).next b3)
      have XO3 := hide ((XO.out.next HB2.out).next b3)
      have XT3 := hide ((XT.out.next HB2.out).next b3)
      have R3 := hide ((R1.out.below HB2.out).below b3)
      have HB3 := hide b3
      clear hsg b3 c40 c41
      by_cases hr : K.fmod (content L) = 0
      · have hkn := tgKnown_zero HNN.out hr
        have hsz : (K.fmod (content L)).sign = 0 := by rw [hr]; rfl
        rw [hsz]
        clear hsz hr
        obtain ⟨bb, o, p, rfl, hlt, hLp, c0, c1, c2, hz⟩ := (R3.out.opn.1.in_).at_ (i := 0) (by omega)
        simp only [Nat.zero_mul, Nat.add_zero] at c0 c1 c2
        have HLD := hide (lead_of hLp)
        have hsg := sign_z p.num p.Z _ w3 hz (by omega)
        unfold SignPost at hsg
        have y0 := XT3.out.c0
        have y1 := XT3.out.c1
        have y2 := XT3.out.c2
        have hlp : L.length ≤ 100000 := hl
        clear hLp hz
        go_wp2_with fail
        refine hsg.mono ?_
        rintro en w4 ⟨rfl, b4⟩
        have T4 := hide (T3.out.next b4)
        have XO4 := hide (XO3.out.next b4)
        have XT4 := hide (XT3.out.next b4)
        have R4 := hide (R3.out.below b4)
        clear hsg b4 y0 y1 y2 c0 c1 c2
        have y0 := XT4.out.c0
        have y1 := XT4.out.c1
        have y2 := XT4.out.c2
        by_cases hn : p.Z < 0
        · have hf : tgFlip L true = true := by unfold tgFlip; rw [HLD.out]; simp [hn]
          have hsn : p.Z.sign < 0 := Int.sign_neg_iff.2 hn
          have HNL := hide (norm_length L)
          have hng := tneg_any _ (quot (content L) (norm L)) (shrK L K) (k + L.length) w4 R4.out.in_ (by rw [quot_len]; have := HNL.out; omega) (by omega)
          have xt4 := XT4.out
          go_wp2_with fail
          refine hng.mono ?_
          rintro en w5 ⟨v5, rfl, r5, b5⟩
          obtain ⟨A5, n5, c5, s5, B5, m5, d5, rfl⟩ := r5.form
          have xt5 := XT4.out.next b5
          have XO5 := hide (XO4.out.next b5)
          have R5 := hide r5
          have HB5 := hide b5
          have hne : w0.heap.size + 1 ≠ w1.heap.size := by have := hs1.out; omega
          clear hng y0 y1 y2 xt4 r5 b5
          go_wp2_with (first | (with_reducible refine wpList_store_t rfl _ _ rfl w1.heap.size _ _ _ _ _ _ _ rfl rfl _ _ _ xt5 ?_; intro w6 k6 ho6; have y0 := k6.c0; have y1 := k6.c1; have y2 := k6.c2; have xo6 := Box.other XO5.out ho6 hne; clear xt5) | (with_reducible refine wpList_store_r rfl _ _ rfl (w0.heap.size + 1) _ _ _ _ _ _ _ _ rfl rfl _ _ _ _ xo6 ?_; intro w7 k7 ho7))
          refine bodyPost_rs rfl rfl rfl k7 rfl ?_
          obtain ⟨e1, e2, e3⟩ := tg_flip (L := L) (K := K) (e := true) hkn hf
          refine ⟨_, by rw [hkn] <;> rfl, ?_, zback (zback (T4.out.next HB5.out) (by have := hs1.out; omega) ho6) (by omega) ho7⟩
          rw [e1, e2, e3, ← flip_normed, ← shrK_at HNN.out]
          exact ⟨_, _, _, _, _, _, _, rfl, ((R5.out.mono (by rw [quot_len]; have := HNL.out; omega)).only (XT4.out.next HB5.out) ho6).onlyR xo6 ho7⟩
        · have hf : tgFlip L true = false := by unfold tgFlip; rw [HLD.out]; simp; omega
          have hsn : ¬ p.Z.sign < 0 := by rw [Int.sign_neg_iff]; exact hn
          have xo4 := XO4.out
          go_wp2_with (with_reducible refine wpList_store_r rfl _ _ rfl (w0.heap.size + 1) _ _ _ _ _ _ _ _ rfl rfl _ _ _ _ xo4 ?_; intro w7 k7 ho7)
          refine bodyPost_rs rfl rfl rfl k7 rfl ?_
          obtain ⟨e1, e2, e3⟩ := tg_plain (L := L) (K := K) (e := true) hkn hf
          refine ⟨_, by rw [hkn] <;> rfl, ?_, zback T4.out (by omega) ho7⟩
          rw [e1, e2, e3, ← shrK_at HNN.out]
          exact ⟨_, _, _, _, _, _, _, rfl, (R4.out.mono (by omega)).onlyR XO4.out ho7⟩
      · have hkn := tgKnown_never HNN.out hr
        have hsz : ¬ (K.fmod (content L)).sign = 0 := by rw [Int.sign_eq_zero_iff_zero]; exact hr
        have xo3 := XO3.out
        go_wp2_with (with_reducible refine wpList_store_r rfl _ _ rfl (w0.heap.size + 1) _ _ _ _ _ _ _ _ rfl rfl _ _ _ _ xo3 ?_; intro w7 k7 ho7)
        refine bodyPost_rs rfl rfl rfl k7 rfl ?_
        obtain ⟨e1, e2, e3⟩ := tg_known (L := L) (K := K) (e := true) (by rw [hkn]; decide)
        exact ⟨_, by rw [hkn] <;> rfl, by rw [e1, e2, e3]; exact RRes.zero _ _, zback T3.out (by omega) ho7⟩
end Go.Proofs.YtdeakieenppmiaaGreatDoor
/- term.Coef, Has. -/
namespace Go.Proofs.YtdeakieenppmiaaGreatDoor
open Go.RowKit
open Tm

/-- A call that answers a bool. -/
def BoolIs (b : Bool) (w : World) (e : Ending) (w' : World) : Prop := e = .returned (.bool b) ∧ Below w.heap.size w w'
end Go.Proofs.YtdeakieenppmiaaGreatDoor
/- cmp.Or over int, slices.CompareFunc over parts, term.Cmp, Same. -/
namespace Go.Proofs.YtdeakieenppmiaaGreatDoor
open Go.RowKit
open Tm

def orL : List Int → Int
  | [] => 0
  | x :: xs => if x ≠ 0 then x else orL xs
theorem orL_zero {x : Int} {xs : List Int} (h : x = 0) : orL (x :: xs) = orL xs := by rw [orL, if_neg (by simp [h])]
theorem orL_ne {x : Int} {xs : List Int} (h : x ≠ 0) : orL (x :: xs) = x := by rw [orL, if_pos h]
theorem orL_two (x y : Int) : orL [x, y] = orZ x y := by
  unfold orL orL orL orZ
  by_cases h : x = 0
  · by_cases h2 : y = 0
    · simp [h, h2]
    · simp [h, h2]
  · simp [h]
theorem IIn.two {w : World} {g : Nat} {x y : Int} (h : Box 3 w g #[.int .i64 x, .int .i64 y]) : IIn w (some ⟨g, 0, Option.none⟩) 2 [x, y] :=
  ⟨rfl, fun _ => ⟨g, 0, rfl, fun j u hu => by rw [Nat.zero_add]; exact h.cell j u (by simpa [ints] using hu)⟩⟩
set_option maxRecDepth 100000 in
set_option maxHeartbeats 1000000 in
theorem or_any (A : Option Addr) (n c : Nat) (xs : List Int) (w : World) (hx : IIn w A n xs) (hn : n ≤ 9223372036854775807) : Calls Tryz.prog 53 #[.slice A n c] w (fun e w' => e = .returned (.int .i64 (orL xs)) ∧ w' = w) := by
  have HL := hide hx.1
  go_enter Tryz.func53, Tryz.ntmps53
  go_wp2_with fail
  have HS := hide (show orL (xs.drop 0) = orL xs from rfl)
  go_loop [8] (fun i => ∃ q : Nat, q ≤ n ∧ i = .int .i64 q ∧ Hid (orL (xs.drop q) = orL xs)) (fun i => n - (intOf i).toNat)
  case atStart => exact ⟨0, Nat.zero_le _, rfl, HS⟩
  case round =>
    obtain ⟨q, hq, rfl, HR⟩ := hrel
    by_cases hqn : q < n
    · obtain ⟨bb, o, x, rfl, hlt, hxq, c0⟩ := hx.at_ hqn
      have HD := hide (drop_cons hxq)
      clear hxq
      by_cases h0 : x = 0
      · have hb : (x != 0) = false := by simp [h0]
        have HE := hide (show orL (xs.drop (q + 1)) = orL xs by rw [← HR.out, HD.out, orL_zero h0])
        clear h0
        go_wp2_with fail
        go_round
        case rel => exact ⟨q + 1, by omega, by go_num, HE⟩
        case measure => simp [intOf] <;> omega
      · have hb : (x != 0) = true := by simp [h0]
        have HE := hide (show orL xs = x by rw [← HR.out, HD.out, orL_ne h0])
        clear h0
        go_wp2_with fail
        go_ret
        exact ⟨by rw [HE.out]; rfl, rfl⟩
    · have HE := hide (show orL xs = 0 by rw [← HR.out, List.drop_of_length_le (by rw [HL.out]; omega)]; rfl)
      go_wp2_with fail
      go_ret
      exact ⟨by rw [HE.out]; rfl, rfl⟩
set_option maxRecDepth 100000 in
set_option maxHeartbeats 4000000 in
theorem cmp1_any (x y : PV) (k : Nat) (w0 : World) (hx : ZIn w0 x.num x.Z k) (hy : ZIn w0 y.num y.Z k) (hk : k ≤ 1099511627776) : Calls Tryz.prog 94 #[x.agg, y.agg] w0 (fun e w' => e = .returned (.int .i64 (orZ (cmpZ x.v y.v) (cmpZ x.Z y.Z))) ∧ Below w0.heap.size w0 w') := by
  obtain ⟨xv, xs, xB, xm, xd, xZ⟩ := x
  obtain ⟨yv, ys, yB, ym, yd, yZ⟩ := y
  obtain ⟨z0, z1, z2, -⟩ := bstart2 60 60 w0 #[.int .i64 xv, .bool xs, .slice xB xm xd] #[.int .i64 yv, .bool ys, .slice yB ym yd]
  show Calls _ _ #[.agg #[.int .i64 xv, .bool xs, .slice xB xm xd], .agg #[.int .i64 yv, .bool ys, .slice yB ym yd]] _ _
  dsimp only
  have hx : ZIn w0 (.agg #[.bool xs, .slice xB xm xd]) xZ k := hx
  have hy : ZIn w0 (.agg #[.bool ys, .slice yB ym yd]) yZ k := hy
  go_enter Tryz.func94, Tryz.ntmps94
  go_wp2_with fail
  generalize hW0 : ((w0.alloc (.cells #[.int .i64 xv, .bool xs, .slice xB xm xd] 60)).alloc (.cells #[.int .i64 yv, .bool ys, .slice yB ym yd] 60)) = W0 at *
  clear hW0
  have HX := hide (hx.below z2)
  have HY := hide (hy.below z2)
  have T0 := hide z2
  have SOF := hide (show ∀ W, Below W0.heap.size W0 W → (W.cell? ⟨w0.heap.size, 0, none⟩ = some (.int .i64 xv) ∧ W.cell? ⟨w0.heap.size, 1, none⟩ = some (.bool xs) ∧ W.cell? ⟨w0.heap.size, 2, none⟩ = some (.slice xB xm xd) ∧ W.cell? ⟨w0.heap.size + 1, 0, none⟩ = some (.int .i64 yv) ∧ W.cell? ⟨w0.heap.size + 1, 1, none⟩ = some (.bool ys) ∧ W.cell? ⟨w0.heap.size + 1, 2, none⟩ = some (.slice yB ym yd)) from fun W h => ⟨(z0.next h).c0, (z0.next h).c1, (z0.next h).c2, (z1.next h).c0, (z1.next h).c1, (z1.next h).c2⟩)
  clear z0 z1 z2 hx hy
  refine wp_drawn (by kernel_rfl) (by kernel_rfl) (by kernel_rfl) (fun w w' => Below w.heap.size w w') (fun j v w => match j with | 0 => v = .pointer (some ⟨w0.heap.size, 0, none⟩) | 1 => v = .int .i64 xv | 2 => v = .pointer (some ⟨w0.heap.size + 1, 0, none⟩) | 3 => v = .int .i64 yv | 4 => v = .int .i64 (cmpZ xv yv) | 5 => v = .pointer (some ⟨w0.heap.size, 1, none⟩) | 6 => v = .agg #[.bool xs, .slice xB xm xd] | 7 => v = .pointer (some ⟨w0.heap.size + 1, 1, none⟩) | 8 => v = .agg #[.bool ys, .slice yB ym yd] | 9 => v = .int .i64 (cmpZ xZ yZ) | 10 => ∃ g, v = .slice (some ⟨g, 0, none⟩) 2 2 ∧ Box 3 w g #[.int .i64 (cmpZ xv yv), .int .i64 (cmpZ xZ yZ)] | 11 => v = .int .i64 (orL [cmpZ xv yv, cmpZ xZ yZ]) | 12 => v = .int .i64 (orL [cmpZ xv yv, cmpZ xZ yZ]) | _ => True) (fun _ _ w => Below W0.heap.size W0 w) ?_ (fun _ => bl_drewN W0 1) ?_ ?_
  · intro j v w w' hT h
    match j, h with
    | 0, h => exact h
    | 1, h => exact h
    | 2, h => exact h
    | 3, h => exact h
    | 4, h => exact h
    | 5, h => exact h
    | 6, h => exact h
    | 7, h => exact h
    | 8, h => exact h
    | 9, h => exact h
    | 10, h => exact (by obtain ⟨g, e, h1⟩ := h; exact ⟨g, e, h1.next hT⟩)
    | 11, h => exact h
    | 12, h => exact h
    | j + 13, h => trivial
  · refine ⟨?_, ?_, ?_, ?_, ?_, ?_, ?_, ?_, ?_, ?_, ?_, ?_, ?_, trivial⟩
    · intro listed σ w a hin hout hl hc hp hG hF
      refine Guarded.none rfl ?_
      have e2 : a.tmps.getD 2 undef = .pointer (some ⟨w0.heap.size, 0, none⟩) := hout 2 (outB_spec (by kernel_rfl))
      refine Does.val (.pointer (some ⟨w0.heap.size, 0, none⟩)) (w' := w) ?_ ⟨Below.refl _ _, rfl, hG⟩
      simp only [Array.getD_eq_getD_getElem?] at e2
      go_simp
    · intro listed σ w a hin hout hl hc hp hG hF
      refine Guarded.none rfl ?_
      have e5 : a.tmps.getD 5 undef = .pointer (some ⟨w0.heap.size, 0, none⟩) := (hin 0 5 rfl (hp ⟨0, .data⟩ (by simp) rfl)).trans (hF 0 (hp ⟨0, .data⟩ (by simp) rfl))
      have CC := SOF.out w hG; obtain ⟨C0, C1, C2, D0, D1, D2⟩ := CC
      refine Does.val (.int .i64 xv) (w' := w) ?_ ⟨Below.refl _ _, rfl, hG⟩
      go_simp
    · intro listed σ w a hin hout hl hc hp hG hF
      refine Guarded.none rfl ?_
      have e3 : a.tmps.getD 3 undef = .pointer (some ⟨w0.heap.size + 1, 0, none⟩) := hout 3 (outB_spec (by kernel_rfl))
      refine Does.val (.pointer (some ⟨w0.heap.size + 1, 0, none⟩)) (w' := w) ?_ ⟨Below.refl _ _, rfl, hG⟩
      simp only [Array.getD_eq_getD_getElem?] at e3
      go_simp
    · intro listed σ w a hin hout hl hc hp hG hF
      refine Guarded.none rfl ?_
      have e7 : a.tmps.getD 7 undef = .pointer (some ⟨w0.heap.size + 1, 0, none⟩) := (hin 2 7 rfl (hp ⟨2, .data⟩ (by simp) rfl)).trans (hF 2 (hp ⟨2, .data⟩ (by simp) rfl))
      have CC := SOF.out w hG; obtain ⟨C0, C1, C2, D0, D1, D2⟩ := CC
      refine Does.val (.int .i64 yv) (w' := w) ?_ ⟨Below.refl _ _, rfl, hG⟩
      go_simp
    · intro listed σ w a hin hout hl hc hp hG hF
      refine Guarded.none rfl ?_
      have e6 : a.tmps.getD 6 undef = .int .i64 xv := (hin 1 6 rfl (hp ⟨1, .data⟩ (by simp) rfl)).trans (hF 1 (hp ⟨1, .data⟩ (by simp) rfl))
      have e8 : a.tmps.getD 8 undef = .int .i64 yv := (hin 3 8 rfl (hp ⟨3, .data⟩ (by simp) rfl)).trans (hF 3 (hp ⟨3, .data⟩ (by simp) rfl))
      refine Does.call ?_ (compare_any xv yv w) ?_
      · go_simp
      · rintro e w' ⟨rfl, rfl⟩
        exact ⟨_, rfl, Below.refl _ _, rfl, hG⟩
    · intro listed σ w a hin hout hl hc hp hG hF
      refine Guarded.none rfl ?_
      have e2 : a.tmps.getD 2 undef = .pointer (some ⟨w0.heap.size, 0, none⟩) := hout 2 (outB_spec (by kernel_rfl))
      refine Does.val (.pointer (some ⟨w0.heap.size, 1, none⟩)) (w' := w) ?_ ⟨Below.refl _ _, rfl, hG⟩
      simp only [Array.getD_eq_getD_getElem?] at e2
      go_simp
    · intro listed σ w a hin hout hl hc hp hG hF
      refine Guarded.none rfl ?_
      have e10 : a.tmps.getD 10 undef = .pointer (some ⟨w0.heap.size, 1, none⟩) := (hin 5 10 rfl (hp ⟨5, .data⟩ (by simp) rfl)).trans (hF 5 (hp ⟨5, .data⟩ (by simp) rfl))
      have CC := SOF.out w hG; obtain ⟨C0, C1, C2, D0, D1, D2⟩ := CC
      refine Does.val (.agg #[.bool xs, .slice xB xm xd]) (w' := w) ?_ ⟨Below.refl _ _, rfl, hG⟩
      go_simp
    · intro listed σ w a hin hout hl hc hp hG hF
      refine Guarded.none rfl ?_
      have e3 : a.tmps.getD 3 undef = .pointer (some ⟨w0.heap.size + 1, 0, none⟩) := hout 3 (outB_spec (by kernel_rfl))
      refine Does.val (.pointer (some ⟨w0.heap.size + 1, 1, none⟩)) (w' := w) ?_ ⟨Below.refl _ _, rfl, hG⟩
      simp only [Array.getD_eq_getD_getElem?] at e3
      go_simp
    · intro listed σ w a hin hout hl hc hp hG hF
      refine Guarded.none rfl ?_
      have e12 : a.tmps.getD 12 undef = .pointer (some ⟨w0.heap.size + 1, 1, none⟩) := (hin 7 12 rfl (hp ⟨7, .data⟩ (by simp) rfl)).trans (hF 7 (hp ⟨7, .data⟩ (by simp) rfl))
      have CC := SOF.out w hG; obtain ⟨C0, C1, C2, D0, D1, D2⟩ := CC
      refine Does.val (.agg #[.bool ys, .slice yB ym yd]) (w' := w) ?_ ⟨Below.refl _ _, rfl, hG⟩
      go_simp
    · intro listed σ w a hin hout hl hc hp hG hF
      refine Guarded.none rfl ?_
      have e11 : a.tmps.getD 11 undef = .agg #[.bool xs, .slice xB xm xd] := (hin 6 11 rfl (hp ⟨6, .data⟩ (by simp) rfl)).trans (hF 6 (hp ⟨6, .data⟩ (by simp) rfl))
      have e13 : a.tmps.getD 13 undef = .agg #[.bool ys, .slice yB ym yd] := (hin 8 13 rfl (hp ⟨8, .data⟩ (by simp) rfl)).trans (hF 8 (hp ⟨8, .data⟩ (by simp) rfl))
      refine Does.call ?_ ((show Calls Tryz.prog 96 #[.agg #[.bool xs, .slice xB xm xd], .agg #[.bool ys, .slice yB ym yd]] w (CmpZPost xZ yZ w) from cmp_z _ _ xZ yZ k w (HX.out.below hG) (HY.out.below hG) (by omega))) ?_
      · go_simp
      · rintro e w' ⟨rfl, hb⟩
        exact ⟨_, rfl, hb, rfl, hG.next hb⟩
    · intro listed σ w a hin hout hl hc hp hG hF
      refine Guarded.none rfl ?_
      have e9 : a.tmps.getD 9 undef = .int .i64 (cmpZ xv yv) := (hin 4 9 rfl (hp ⟨4, .data⟩ (by simp) rfl)).trans (hF 4 (hp ⟨4, .data⟩ (by simp) rfl))
      have e14 : a.tmps.getD 14 undef = .int .i64 (cmpZ xZ yZ) := (hin 9 14 rfl (hp ⟨9, .data⟩ (by simp) rfl)).trans (hF 9 (hp ⟨9, .data⟩ (by simp) rfl))
      refine Does.val (.slice (some ⟨w.heap.size, 0, none⟩) 2 2) (w' := w.alloc (.cells #[.int .i64 (cmpZ xv yv), .int .i64 (cmpZ xZ yZ)] 3)) ?_ ⟨bl_alloc w _, ⟨w.heap.size, rfl, Box.new _ _ _⟩, hG.next (bl_alloc w _)⟩
      simp only [Array.getD_eq_getD_getElem?] at e9 e14
      go_simp
    · intro listed σ w a hin hout hl hc hp hG hF
      refine Guarded.none rfl ?_
      have e15 := hin 10 15 rfl (hp ⟨10, .data⟩ (by simp) rfl)
      obtain ⟨g10, ev10, x10⟩ := hF 10 (hp ⟨10, .data⟩ (by simp) rfl)
      rw [ev10] at e15
      refine Does.call ?_ (or_any (some ⟨g10, 0, none⟩) 2 2 [cmpZ xv yv, cmpZ xZ yZ] w (IIn.two x10) (by omega)) ?_
      · go_simp
      · rintro e w' ⟨rfl, rfl⟩
        exact ⟨_, rfl, Below.refl _ _, rfl, hG⟩
    · intro listed σ w a hin hout hl hc hp hG hF
      refine Guarded.none rfl ?_
      have e16 : a.tmps.getD 16 undef = .int .i64 (orL [cmpZ xv yv, cmpZ xZ yZ]) := (hin 11 16 rfl (hp ⟨11, .data⟩ (by simp) rfl)).trans (hF 11 (hp ⟨11, .data⟩ (by simp) rfl))
      refine Does.val (.int .i64 (orL [cmpZ xv yv, cmpZ xZ yZ])) (w' := w) ?_ ⟨Below.refl _ _, rfl, hG⟩
      simp only [Array.getD_eq_getD_getElem?] at e16
      go_simp
  · intro listed σ W9 hall hG hF
    rw [show mid _ σ listed _ = (Act.put (Act.put (Act.put (Act.put (Act.put (Act.put (Act.put (Act.put (Act.put (Act.put (Act.put (Act.put (Act.put _ (some 5) (σ 0)) (some 6) (σ 1)) (some 7) (σ 2)) (some 8) (σ 3)) (some 9) (σ 4)) (some 10) (σ 5)) (some 11) (σ 6)) (some 12) (σ 7)) (some 13) (σ 8)) (some 14) (σ 9)) (some 15) (σ 10)) (some 16) (σ 11)) (some 4) (σ 12)) from (mid_all hall).trans rfl]
    generalize σ 0 = tt0
    generalize σ 1 = tt1
    generalize σ 2 = tt2
    generalize σ 3 = tt3
    generalize σ 4 = tt4
    generalize σ 5 = tt5
    generalize σ 6 = tt6
    generalize σ 7 = tt7
    generalize σ 8 = tt8
    generalize σ 9 = tt9
    generalize σ 10 = tt10
    generalize σ 11 = tt11
    rw [show σ 12 = .int .i64 (orL [cmpZ xv yv, cmpZ xZ yZ]) from hF 12 (by decide)]
    simp only [Act.put, List.setIfInBounds_toArray, List.set_cons_zero, List.set_cons_succ]
    have TG := hG
    clear hF hG hall
    clear σ
    have HT := hide (T0.out.next TG)
    clear TG SOF HX HY
    rw [orL_two]
    generalize hr : orZ (cmpZ xv yv) (cmpZ xZ yZ) = r at *
    have HRR := hide hr
    clear hr
    go_wp2_with fail
    go_ret
    exact ⟨by rw [HRR.out]; rfl, HT.out⟩
theorem enters_cmp1 : ∀ args w, (callFunc 94 args).run Tryz.prog w = .ok (.enter 94 args) w := enters_of Tryz.func94 (by kernel_rfl) rfl
theorem cmpL_go {L M : List (Int × Int)} {q : Nat} {u c v d : Int} (h : L[q]? = some (u, c)) (h' : M[q]? = some (v, d)) : cmpL (L.drop q) (M.drop q) = if orZ (cmpZ u v) (cmpZ c d) ≠ 0 then orZ (cmpZ u v) (cmpZ c d) else cmpL (L.drop (q + 1)) (M.drop (q + 1)) := by
  rw [drop_cons h, drop_cons h', cmpL]
  unfold orZ
  by_cases h1 : cmpZ u v = 0
  · simp [h1]
  · simp [h1]
set_option maxRecDepth 100000 in
set_option maxHeartbeats 2000000 in
theorem compareFunc_any (A : Option Addr) (n c : Nat) (B : Option Addr) (m d : Nat) (L M : List (Int × Int)) (k : Nat) (w0 : World) (hx : PIn w0 A n L k) (hy : PIn w0 B m M k) (hn : n ≤ 9223372036854775807) (hm : m ≤ 9223372036854775807) (hk : k ≤ 1099511627776) :
    Calls Tryz.prog 92 #[.slice A n c, .slice B m d, .func (.func 94) #[] #[]] w0 (fun e w' => e = .returned (.int .i64 (cmpL L M)) ∧ Below w0.heap.size w0 w') := by
  have HL := hide hx.len
  have HM := hide hy.len
  have HX := hide hx
  have HY := hide hy
  have eg := enters_cmp1
  clear hx hy
  go_enter Tryz.func92, Tryz.ntmps92
  go_wp2_with fail
  have HB0 := hide (Below.refl w0.heap.size w0)
  go_loopw [13] (fun i wr => ∃ q : Nat, q ≤ n ∧ i = .int .i64 q ∧ q ≤ m ∧ Hid (cmpL (L.drop q) (M.drop q) = cmpL L M) ∧ Hid (Below w0.heap.size w0 wr)) (fun i _ => n - (intOf i).toNat)
  case atStart => exact ⟨0, Nat.zero_le _, rfl, Nat.zero_le _, Lib.hid rfl, HB0⟩
  case round =>
    obtain ⟨q, hq, rfl, hqm, HR, HB⟩ := hrel
    by_cases hqn : q < n
    · obtain ⟨bb, o, p, rfl, hlt, hLp, c0, c1, c2, hz⟩ := (HX.out.below HB.out).at_ hqn
      have y1 := bl_alloc wr (.cells #[.int .i64 p.v, .bool p.s, .slice p.B p.m p.d] 60)
      by_cases hqm' : q < m
      · obtain ⟨bc, o', r, rfl, hlt', hMp, d0, d1, d2, hz'⟩ := (HY.out.below HB.out).at_ hqm'
        have HG := hide (cmpL_go hLp hMp)
        have y2 := bl_alloc (wr.alloc (.cells #[.int .i64 p.v, .bool p.s, .slice p.B p.m p.d] 60)) (.cells #[.int .i64 r.v, .bool r.s, .slice r.B r.m r.d] 60)
        have hcl := cmp1_any p r k _ ((hz.below y1).below y2) ((hz'.below y1).below y2) hk
        have HB2 := hide ((HB.out.next y1).next y2)
        unfold PV.agg at hcl
        by_cases h0 : orZ (cmpZ p.v r.v) (cmpZ p.Z r.Z) = 0
        · have HE := hide (show cmpL (L.drop (q + 1)) (M.drop (q + 1)) = cmpL L M by rw [← HR.out, HG.out, if_neg (by simp [h0])])
          rw [h0] at hcl
          clear h0 hLp hMp hz hz' y1 y2 HG
          go_wp2_with fail
          refine hcl.mono ?_
          rintro e w2 ⟨rfl, b2⟩
          have HB3 := hide (HB2.out.next b2)
          go_wp2_with fail
          go_roundw
          case rel => exact ⟨q + 1, by omega, by go_num, by omega, HE, HB3⟩
          case measure => simp [intOf] <;> omega
        · have HE := hide (show cmpL L M = orZ (cmpZ p.v r.v) (cmpZ p.Z r.Z) by rw [← HR.out, HG.out, if_pos h0])
          generalize orZ (cmpZ p.v r.v) (cmpZ p.Z r.Z) = z at *
          have hb : (z != 0) = true := by simp [h0]
          clear h0 hLp hMp hz hz' y1 y2 HG
          go_wp2_with fail
          refine hcl.mono ?_
          rintro e w2 ⟨rfl, b2⟩
          go_wp2_with fail
          go_ret
          exact ⟨by rw [HE.out]; rfl, HB2.out.next b2⟩
      · have HE := hide (show cmpL L M = 1 by rw [← HR.out, drop_cons hLp, List.drop_of_length_le (show M.length ≤ q by rw [HM.out]; omega)]; rfl)
        have HB2 := hide (HB.out.next y1)
        clear hLp hz y1
        go_wp2_with fail
        go_ret
        exact ⟨by rw [HE.out]; rfl, HB2.out⟩
    · obtain rfl : q = n := by omega
      by_cases hqm' : q < m
      · have HE := hide (show cmpL L M = -1 by
          rw [← HR.out, List.drop_of_length_le (show L.length ≤ q by rw [HL.out]; exact Nat.le_refl _)]
          obtain ⟨x, hx⟩ : ∃ x, M[q]? = some x := ⟨M[q]'(by rw [HM.out]; exact hqm'), List.getElem?_eq_getElem _⟩
          rw [drop_cons hx]; rfl)
        go_wp2_with fail
        go_ret
        exact ⟨by rw [HE.out]; rfl, HB.out⟩
      · have HE := hide (show cmpL L M = 0 by rw [← HR.out, List.drop_of_length_le (show L.length ≤ q by rw [HL.out]; exact Nat.le_refl _), List.drop_of_length_le (show M.length ≤ q by rw [HM.out]; omega)]; rfl)
        go_wp2_with fail
        go_ret
        exact ⟨by rw [HE.out]; rfl, HB.out⟩
set_option maxRecDepth 100000 in
set_option maxHeartbeats 4000000 in
theorem tcmp_any (v u : Value) (L M : List (Int × Int)) (K KM : Int) (k : Nat) (w0 : World) (hv : TIn w0 v L K k) (hu : TIn w0 u M KM k) (hl : L.length ≤ 1099511) (hm : M.length ≤ 1099511) (hk : k ≤ 1099511627) :
    Calls Tryz.prog 54 #[v, u] w0 (fun e w' => e = .returned (.int .i64 (cmpT L M K KM)) ∧ Below w0.heap.size w0 w') := by
  obtain ⟨A, n, c, s, B, m, d, rfl, hp, hc1, hc2, hK⟩ := hv
  obtain ⟨A2, n2, c2, s2, B2, m2, d2, rfl, hp2, hd1, hd2, hK2⟩ := hu
  have hn := hp.len
  have hn2 := hp2.len
  have HN1 := hide (norm_length L)
  have HN2 := hide (norm_length M)
  rw [hn] at hl
  rw [hn2] at hm
  obtain ⟨z0, z1, z2, -⟩ := bstart2 28 28 w0 #[.slice A n c, .bool s, .slice B m d] #[.slice A2 n2 c2, .bool s2, .slice B2 m2 d2]
  go_enter Tryz.func54, Tryz.ntmps54
  go_wp2_with fail
  generalize hW0 : ((w0.alloc (.cells #[.slice A n c, .bool s, .slice B m d] 28)).alloc (.cells #[.slice A2 n2 c2, .bool s2, .slice B2 m2 d2] 28)) = W0 at *
  clear hW0
  obtain ⟨kk, hkk0⟩ : ∃ kk, kk = k + n + n2 := ⟨_, rfl⟩
  have hkk : kk ≤ 1099511627776 := by omega
  have HPA := hide (fun W (h : Below W0.heap.size W0 W) => (plain_any A n c L k W (hp.below (z2.next h)) hc1 hc2 (by omega) hk).mono (fun e w' (q : PlainPost _ _ _ _ _) => show PlainPost L kk W e w' from by obtain ⟨A', n', c', e1, e2, e3⟩ := q; exact ⟨A', n', c', e1, e2.mono (by omega), e3⟩))
  have HPB := hide (fun W (h : Below W0.heap.size W0 W) => (plain_any A2 n2 c2 M k W (hp2.below (z2.next h)) hd1 hd2 (by omega) hk).mono (fun e w' (q : PlainPost _ _ _ _ _) => show PlainPost M kk W e w' from by obtain ⟨A', n', c', e1, e2, e3⟩ := q; exact ⟨A', n', c', e1, e2.mono (by omega), e3⟩))
  unfold PlainPost at HPA HPB
  have HKA := hide (hK.below z2)
  have HKB := hide (hK2.below z2)
  have T0 := hide z2
  have Z0 := hide z0
  have Z1 := hide z1
  have SOF := hide (show ∀ W, Below W0.heap.size W0 W → (W.cell? ⟨w0.heap.size, 0, none⟩ = some (.slice A n c) ∧ W.cell? ⟨w0.heap.size, 1, none⟩ = some (.bool s) ∧ W.cell? ⟨w0.heap.size, 2, none⟩ = some (.slice B m d) ∧ W.cell? ⟨w0.heap.size + 1, 0, none⟩ = some (.slice A2 n2 c2) ∧ W.cell? ⟨w0.heap.size + 1, 1, none⟩ = some (.bool s2) ∧ W.cell? ⟨w0.heap.size + 1, 2, none⟩ = some (.slice B2 m2 d2)) from fun W h => ⟨(z0.next h).c0, (z0.next h).c1, (z0.next h).c2, (z1.next h).c0, (z1.next h).c1, (z1.next h).c2⟩)
  have HH := hide hkk0
  clear z0 z1 z2 hp hp2 hK hK2 hkk0 hn hn2
  refine wp_drawn (by kernel_rfl) (by kernel_rfl) (by kernel_rfl) (fun w w' => Below w.heap.size w w') (fun j v w => match j with | 0 => v = .pointer (some ⟨w0.heap.size, 0, none⟩) | 1 => v = .slice A n c | 2 => ∃ A n c, v = .slice A n c ∧ PIn w A n (norm L) kk ∧ n ≤ c ∧ c ≤ 9223372036854775807 | 3 => v = .pointer (some ⟨w0.heap.size + 1, 0, none⟩) | 4 => v = .slice A2 n2 c2 | 5 => ∃ A n c, v = .slice A n c ∧ PIn w A n (norm M) kk ∧ n ≤ c ∧ c ≤ 9223372036854775807 | 6 => v = .int .i64 (cmpL (norm L) (norm M)) | 7 => v = .int .i64 (cmpL (norm L) (norm M)) | _ => True) (fun _ _ w => Below W0.heap.size W0 w) ?_ (fun _ => bl_drewN W0 1) ?_ ?_
  · intro j v w w' hT h
    match j, h with
    | 0, h => exact h
    | 1, h => exact h
    | 2, h => exact (by obtain ⟨A, n, c, e, h1, h2, h3⟩ := h; exact ⟨A, n, c, e, h1.below hT, h2, h3⟩)
    | 3, h => exact h
    | 4, h => exact h
    | 5, h => exact (by obtain ⟨A, n, c, e, h1, h2, h3⟩ := h; exact ⟨A, n, c, e, h1.below hT, h2, h3⟩)
    | 6, h => exact h
    | 7, h => exact h
    | j + 8, h => trivial
  · refine ⟨?_, ?_, ?_, ?_, ?_, ?_, ?_, ?_, trivial⟩
    · intro listed σ w a hin hout hl hc hp hG hF
      refine Guarded.none rfl ?_
      have e2 : a.tmps.getD 2 undef = .pointer (some ⟨w0.heap.size, 0, none⟩) := hout 2 (outB_spec (by kernel_rfl))
      refine Does.val (.pointer (some ⟨w0.heap.size, 0, none⟩)) (w' := w) ?_ ⟨Below.refl _ _, rfl, hG⟩
      simp only [Array.getD_eq_getD_getElem?] at e2
      go_simp
    · intro listed σ w a hin hout hl hc hp hG hF
      refine Guarded.none rfl ?_
      have e6 : a.tmps.getD 6 undef = .pointer (some ⟨w0.heap.size, 0, none⟩) := (hin 0 6 rfl (hp ⟨0, .data⟩ (by simp) rfl)).trans (hF 0 (hp ⟨0, .data⟩ (by simp) rfl))
      have CC := SOF.out w hG; obtain ⟨C0, C1, C2, D0, D1, D2⟩ := CC
      refine Does.val (.slice A n c) (w' := w) ?_ ⟨Below.refl _ _, rfl, hG⟩
      go_simp
    · intro listed σ w a hin hout hl hc hp hG hF
      refine Guarded.none rfl ?_
      have e7 : a.tmps.getD 7 undef = .slice A n c := (hin 1 7 rfl (hp ⟨1, .data⟩ (by simp) rfl)).trans (hF 1 (hp ⟨1, .data⟩ (by simp) rfl))
      refine Does.call ?_ (HPA.out w hG) ?_
      · go_simp
      · rintro e w' ⟨A, n, c, rfl, hp, h1, h2, hb⟩
        exact ⟨_, rfl, hb, ⟨A, n, c, rfl, hp, h1, h2⟩, hG.next hb⟩
    · intro listed σ w a hin hout hl hc hp hG hF
      refine Guarded.none rfl ?_
      have e3 : a.tmps.getD 3 undef = .pointer (some ⟨w0.heap.size + 1, 0, none⟩) := hout 3 (outB_spec (by kernel_rfl))
      refine Does.val (.pointer (some ⟨w0.heap.size + 1, 0, none⟩)) (w' := w) ?_ ⟨Below.refl _ _, rfl, hG⟩
      simp only [Array.getD_eq_getD_getElem?] at e3
      go_simp
    · intro listed σ w a hin hout hl hc hp hG hF
      refine Guarded.none rfl ?_
      have e9 : a.tmps.getD 9 undef = .pointer (some ⟨w0.heap.size + 1, 0, none⟩) := (hin 3 9 rfl (hp ⟨3, .data⟩ (by simp) rfl)).trans (hF 3 (hp ⟨3, .data⟩ (by simp) rfl))
      have CC := SOF.out w hG; obtain ⟨C0, C1, C2, D0, D1, D2⟩ := CC
      refine Does.val (.slice A2 n2 c2) (w' := w) ?_ ⟨Below.refl _ _, rfl, hG⟩
      go_simp
    · intro listed σ w a hin hout hl hc hp hG hF
      refine Guarded.none rfl ?_
      have e10 : a.tmps.getD 10 undef = .slice A2 n2 c2 := (hin 4 10 rfl (hp ⟨4, .data⟩ (by simp) rfl)).trans (hF 4 (hp ⟨4, .data⟩ (by simp) rfl))
      refine Does.call ?_ (HPB.out w hG) ?_
      · go_simp
      · rintro e w' ⟨A, n, c, rfl, hp, h1, h2, hb⟩
        exact ⟨_, rfl, hb, ⟨A, n, c, rfl, hp, h1, h2⟩, hG.next hb⟩
    · intro listed σ w a hin hout hl hc hp hG hF
      refine Guarded.none rfl ?_
      have e8 := hin 2 8 rfl (hp ⟨2, .data⟩ (by simp) rfl)
      obtain ⟨Aa, na, ca, ev2, p2, h21, h22⟩ := hF 2 (hp ⟨2, .data⟩ (by simp) rfl)
      rw [ev2] at e8
      have e11 := hin 5 11 rfl (hp ⟨5, .data⟩ (by simp) rfl)
      obtain ⟨Ab, nb, cb, ev5, p5, h51, h52⟩ := hF 5 (hp ⟨5, .data⟩ (by simp) rfl)
      rw [ev5] at e11
      refine Does.call ?_ (compareFunc_any Aa na ca Ab nb cb (norm L) (norm M) kk w p2 p5 (by omega) (by omega) hkk) ?_
      · go_simp
      · rintro e w' ⟨rfl, hb⟩
        exact ⟨_, rfl, hb, rfl, hG.next hb⟩
    · intro listed σ w a hin hout hl hc hp hG hF
      refine Guarded.none rfl ?_
      have e12 : a.tmps.getD 12 undef = .int .i64 (cmpL (norm L) (norm M)) := (hin 6 12 rfl (hp ⟨6, .data⟩ (by simp) rfl)).trans (hF 6 (hp ⟨6, .data⟩ (by simp) rfl))
      refine Does.val (.int .i64 (cmpL (norm L) (norm M))) (w' := w) ?_ ⟨Below.refl _ _, rfl, hG⟩
      simp only [Array.getD_eq_getD_getElem?] at e12
      go_simp
  · intro listed σ W9 hall hG hF
    rw [show mid _ σ listed _ = (Act.put (Act.put (Act.put (Act.put (Act.put (Act.put (Act.put (Act.put _ (some 6) (σ 0)) (some 7) (σ 1)) (some 8) (σ 2)) (some 9) (σ 3)) (some 10) (σ 4)) (some 11) (σ 5)) (some 12) (σ 6)) (some 5) (σ 7)) from (mid_all hall).trans rfl]
    generalize σ 0 = tt0
    generalize σ 1 = tt1
    generalize σ 2 = tt2
    generalize σ 3 = tt3
    generalize σ 4 = tt4
    generalize σ 5 = tt5
    generalize σ 6 = tt6
    rw [show σ 7 = .int .i64 (cmpL (norm L) (norm M)) from hF 7 (by decide)]
    simp only [Act.put, List.setIfInBounds_toArray, List.set_cons_zero, List.set_cons_succ]
    have TG := hG
    clear hF hG hall
    clear σ
    have C := SOF.out W9 TG
    obtain ⟨C0, C1, C2, D0, D1, D2⟩ := C
    have hcz := (show Calls Tryz.prog 96 #[.agg #[.bool s, .slice B m d], .agg #[.bool s2, .slice B2 m2 d2]] W9 (fun e w' => e = .returned (.int .i64 (cmpZ K KM)) ∧ Below W9.heap.size W9 w') from cmp_z _ _ K KM k W9 (HKA.out.below TG) (HKB.out.below TG) (by omega))
    have HT := hide (T0.out.next TG)
    have HD := hide (show cmpT L M K KM = orL [cmpL (norm L) (norm M), cmpZ K KM] by rw [orL_two]; rfl)
    generalize cmpL (norm L) (norm M) = z1 at *
    generalize cmpZ K KM = z2 at *
    clear TG SOF HKA HKB HPA HPB
    go_wp2_with fail
    refine hcz.mono ?_
    rintro e w2 ⟨rfl, b2⟩
    have HT2 := hide (HT.out.next b2)
    have y1 := bl_alloc w2 (.cells #[.int .i64 z1, .int .i64 z2] 3)
    have ho := or_any (some ⟨w2.heap.size, 0, none⟩) 2 2 [z1, z2] _ (IIn.two (Box.new 3 w2 #[.int .i64 z1, .int .i64 z2])) (by omega)
    have HT3 := hide (HT2.out.next y1)
    clear hcz C0 C1 C2 D0 D1 D2 y1
    go_wp2_with fail
    refine ho.mono ?_
    rintro e w3 ⟨rfl, rfl⟩
    go_wp2_with fail
    go_ret
    exact ⟨by rw [HD.out]; rfl, HT3.out⟩
set_option maxRecDepth 100000 in
set_option maxHeartbeats 1000000 in
theorem tsame_any (v u : Value) (L M : List (Int × Int)) (K KM : Int) (k : Nat) (w0 : World) (hv : TIn w0 v L K k) (hu : TIn w0 u M KM k) (hl : L.length ≤ 1099511) (hm : M.length ≤ 1099511) (hk : k ≤ 1099511627) :
    Calls Tryz.prog 100 #[v, u] w0 (BoolIs (cmpT L M K KM == 0) w0) := by
  have hv0 := hv
  have hu0 := hu
  obtain ⟨A, n, c, s, B, m, d, rfl, -⟩ := hv
  obtain ⟨A2, n2, c2, s2, B2, m2, d2, rfl, -⟩ := hu
  obtain ⟨z0, z1, z2, -⟩ := bstart2 28 28 w0 #[.slice A n c, .bool s, .slice B m d] #[.slice A2 n2 c2, .bool s2, .slice B2 m2 d2]
  have hc := tcmp_any _ _ L M K KM k _ (hv0.below z2) (hu0.below z2) hl hm hk
  have HZ := hide z2
  clear hv0 hu0 z0 z1 z2
  generalize cmpT L M K KM = z at *
  go_enter Tryz.func100, Tryz.ntmps100
  go_wp2_with fail
  refine hc.mono ?_
  rintro e w1 ⟨rfl, b1⟩
  go_wp2_with fail
  go_ret
  exact ⟨rfl, HZ.out.next b1⟩
end Go.Proofs.YtdeakieenppmiaaGreatDoor
