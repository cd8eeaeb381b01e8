/- plumblineref02: Sub, Cmp, Mul, Same; the statements' same and short. -/
import Derived.Test.YtpocaopiaggbmaaRefZ
namespace Go.Proofs.Ytpocaopiaggbmaa
open Go.RowKit
open Limb (limb limb_lt upto upto_succ upto_all upto_zero)

set_option maxHeartbeats 1000000 in
theorem rzsub_z (v u : Value) (Z Y : Int) (k : Nat) (w : World) (hv : ZIn w v Z k) (hu : ZIn w u Y k) (hk : k ≤ 137438953472) :
    Calls Try.prog 39 #[v, u] w (ZPost (Z - Y) (k + 1) w) := by
  have hv0 := hv
  have hu0 := hu
  obtain ⟨s, A, n, c, xs, rfl, -⟩ := hv
  obtain ⟨t, B, m, d, ys, rfl, -⟩ := hu
  obtain ⟨x0, y0, r0, z2, -⟩ := zstart3 w #[.bool s, .slice A n c] #[.bool t, .slice B m d] #[.bool false, .slice none 0 0]
  go_enter Try.func39, Try.ntmps39
  go_wp2_with fail
  go_region_held3 (fun w' => w'.cell? ⟨w.heap.size, 0, none⟩ = some (.bool s) ∧ w'.cell? ⟨w.heap.size, 1, none⟩ = some (.slice A n c) ∧ w'.cell? ⟨w.heap.size + 1, 0, none⟩ = some (.bool t) ∧ w'.cell? ⟨w.heap.size + 1, 1, none⟩ = some (.slice B m d))
    (first | exact ⟨x0.drew.c0, x0.drew.c1, y0.drew.c0, y0.drew.c1⟩ | exact ⟨x1.c0, x1.c1, y1.c0, y1.c1⟩ | exact ⟨x2.c0, x2.c1, y2.c0, y2.c1⟩ | exact ⟨(x2.other (only_set2 _ _ _ _) (by omega)).c0, (x2.other (only_set2 _ _ _ _) (by omega)).c1, (y2.other (only_set2 _ _ _ _) (by omega)).c0, (y2.other (only_set2 _ _ _ _) (by omega)).c1⟩)
    (first
      | (go_at_call 46; (with_reducible refine (rneg_z _ Y k _ (hu0.below z2.drew) (by omega)).mono ?_); rintro e w1 ⟨v1, rfl, z1, b1⟩; have t1 := z2.drew.next b1; have x1 := x0.drew.next b1; have y1 := y0.drew.next b1)
      | (go_at_call 37; (with_reducible refine (rzadd_z _ v1 Z (-Y) k w1 (hv0.below t1) z1.in_ hk).mono ?_); rintro e w2 ⟨v2, rfl, q2, b2⟩; have t2 := t1.next b2; have x2 := x1.next b2; have y2 := y1.next b2; obtain ⟨s2, A2, n2, c2, rfl⟩ := q2.form; have k2 := (r0.drew.next b1).next b2; have k2a := k2.c0; have k2b := k2.c1; have k2c := k2.fr 0; have k2d := k2.fr 1))
  go_wp2_with fail
  refine bodyPost_z rfl rfl (k2.set2 _ _) rfl ?_
  exact ⟨_, rfl, (q2.ofEq (by omega)).only k2 (only_set2 _ _ _ _), zback t2 (by omega) (only_set2 _ _ _ _)⟩
theorem sgn3_sub (Z Y : Int) : (Z - Y).sign = sgn3 Z Y := by
  rcases Int.lt_trichotomy Z Y with h | h | h
  · rw [sgn3_lt h]; exact Int.sign_eq_neg_one_of_neg (by omega)
  · subst h; rw [Int.sub_self]; unfold sgn3; simp
  · rw [sgn3_gt h]; exact Int.sign_eq_one_of_pos (by omega)
set_option maxHeartbeats 1000000 in
theorem rzcmp_z (v u : Value) (Z Y : Int) (k : Nat) (w : World) (hv : ZIn w v Z k) (hu : ZIn w u Y k) (hk : k ≤ 137438953472) :
    Calls Try.prog 34 #[v, u] w (CmpZPost Z Y w) := by
  have hE := hide (sgn3_sub Z Y)
  have hv0 := hv
  have hu0 := hu
  obtain ⟨s, A, n, c, xs, rfl, -⟩ := hv
  obtain ⟨t, B, m, d, ys, rfl, -⟩ := hu
  obtain ⟨x0, y0, z2, -⟩ := zstart2 w #[.bool s, .slice A n c] #[.bool t, .slice B m d]
  go_enter Try.func34, Try.ntmps34
  go_wp2_with fail
  refine (rzsub_z _ _ Z Y k _ (hv0.below z2) (hu0.below z2) hk).mono ?_
  rintro e w1 ⟨v1, rfl, z1, b1⟩
  have hs := rsign_z v1 (Z - Y) (k + 1) w1 z1.in_ (by omega)
  unfold RSignPost at hs
  rw [hE.out] at hs
  go_wp2_with fail
  refine hs.mono ?_
  rintro e w2 ⟨rfl, b2⟩
  go_wp2_with fail
  go_ret
  exact ⟨rfl, (z2.next b1).next b2⟩
theorem sign_prod (Z Y : Int) : sg (decide (Z.sign * Y.sign < 0)) (Z.natAbs * Y.natAbs) = Z * Y := by
  rw [← Int.sign_mul, ← Int.natAbs_mul]
  have : decide ((Z * Y).sign < 0) = decide (Z * Y < 0) := by rw [decide_eq_decide]; exact Int.sign_neg_iff
  rw [this, sg_canon]
theorem sign_mul_range (Z Y : Int) : -1 ≤ Z.sign * Y.sign ∧ Z.sign * Y.sign ≤ 1 := by rw [← Int.sign_mul]; exact sign_range _
set_option maxHeartbeats 2000000 in
theorem rzmul_z (v u : Value) (Z Y : Int) (k j : Nat) (w : World) (hv : ZIn w v Z k) (hu : ZIn w u Y j) (hk : k ≤ 68719476736) (hj : j ≤ 68719476736) :
    Calls Try.prog 41 #[v, u] w (ZPost (Z * Y) (k + j) w) := by
  have hlv := hide hv.lt
  have hlu := hide hu.lt
  have hv0 := hv
  have hu0 := hu
  obtain ⟨s, A, n, c, xs, rfl, hx, hc, hm, hn, hZ⟩ := hv
  obtain ⟨t, B, m, d, ys, rfl, hy, hd, hmd, hmk, hY⟩ := hu
  have HN := hide (ZIn.abs hZ)
  have HM := hide (ZIn.abs hY)
  have hE := hide (sign_prod Z Y)
  have hr := sign_mul_range Z Y
  have hsa := fun w' hw => rsign_z _ Z k w' (hv0.below hw) (by omega)
  have hsb := fun w' hw => rsign_z _ Y j w' (hu0.below hw) (by omega)
  unfold RSignPost at hsa hsb
  generalize Z.sign = p at *
  generalize Y.sign = q at *
  have hw : IntKind.i64.wrap (p * q) = p * q := IntWalk.i64_in _ (by omega)
  have HSA := hide hsa
  have HSB := hide hsb
  clear hZ hY hsa hsb
  obtain ⟨x0, y0, r0, z2, -⟩ := zstart3 w #[.bool s, .slice A n c] #[.bool t, .slice B m d] #[.bool false, .slice none 0 0]
  go_enter Try.func41, Try.ntmps41
  go_wp2_with fail
  go_region_held3 (fun w' => w'.cell? ⟨w.heap.size, 0, none⟩ = some (.bool s) ∧ w'.cell? ⟨w.heap.size, 1, none⟩ = some (.slice A n c) ∧ w'.cell? ⟨w.heap.size + 1, 0, none⟩ = some (.bool t) ∧ w'.cell? ⟨w.heap.size + 1, 1, none⟩ = some (.slice B m d))
    (first | exact ⟨x0.drew.c0, x0.drew.c1, y0.drew.c0, y0.drew.c1⟩ | exact ⟨x1.c0, x1.c1, y1.c0, y1.c1⟩ | exact ⟨x2.c0, x2.c1, y2.c0, y2.c1⟩ | exact ⟨x3.c0, x3.c1, y3.c0, y3.c1⟩ | exact ⟨x4.c0, x4.c1, y4.c0, y4.c1⟩ | exact ⟨(x4.other (only_set2 _ _ _ _) (by omega)).c0, (x4.other (only_set2 _ _ _ _) (by omega)).c1, (y4.other (only_set2 _ _ _ _) (by omega)).c0, (y4.other (only_set2 _ _ _ _) (by omega)).c1⟩)
    (first
      | (go_at_call_of 44 (Value.agg #[.bool s, .slice A n c]); (with_reducible refine (HSA.out _ z2.drew).mono ?_); rintro e w1 ⟨rfl, b1⟩; have t1 := z2.drew.next b1; have x1 := x0.drew.next b1; have y1 := y0.drew.next b1; have r1 := r0.drew.next b1)
      | (go_at_call_of 44 (Value.agg #[.bool t, .slice B m d]); (with_reducible refine (HSB.out w1 t1).mono ?_); rintro e w2 ⟨rfl, b2⟩; have t2 := t1.next b2; have x2 := x1.next b2; have y2 := y1.next b2; have r2 := r1.next b2)
      | (go_at_call 101; (with_reducible refine (rmul_any A B n c m d xs ys w2 (hx.below t2) (hy.below t2) (by omega) (by omega)).mono ?_); rintro e w3 ⟨A3, n3, c3, rfl, o3, l3, m3, b3⟩; have x3 := x2.next b3; have y3 := y2.next b3; have r3 := r2.next b3; rw [HN.out, HM.out] at o3; have ln3 : n3 ≤ k + j := short_canon o3 (mul_lt_pow _ _ _ _ hlv.out hlu.out))
      | (go_at_call 99; (with_reducible refine (rfrom_any (decide (p * q < 0)) A3 n3 c3 (k + j) _ w3 o3 ln3 (by omega)).mono ?_); rintro e w4 ⟨v4, rfl, z4, b4⟩; rw [Limb.val_canon, hE.out] at z4; obtain ⟨s4, A4, n4, c4, rfl⟩ := z4.form; have x4 := x3.next b4; have y4 := y3.next b4; have k4 := r3.next b4; have k4a := k4.c0; have k4b := k4.c1; have k4c := k4.fr 0; have k4d := k4.fr 1))
  go_wp2_with fail
  refine bodyPost_z rfl rfl (k4.set2 _ _) rfl ?_
  exact ⟨_, rfl, z4.only k4 (only_set2 _ _ _ _), zback ((t2.next b3).next b4) (by omega) (only_set2 _ _ _ _)⟩

theorem zres_nums {w : World} {s : Bool} {A : Option Addr} {n c : Nat} {Z : Int} {k : Nat} (h : ZRes w (.agg #[.bool s, .slice A n c]) Z k) : s = decide (Z < 0) ∧ Nums w A n (Limb.canon Z.natAbs) ∧ n ≤ c ∧ c ≤ 9223372036854775807 ∧ n ≤ k := by
  obtain ⟨A', n', c', e, h1, h2, h3, h4⟩ := h
  simp only [Value.agg.injEq, Array.mk.injEq, List.cons.injEq, Value.bool.injEq, Value.slice.injEq, and_true] at e
  obtain ⟨e0, e1, e2, e3⟩ := e
  subst e0 e1 e2 e3
  exact ⟨rfl, h1, h2, h3, h4⟩
set_option maxHeartbeats 1000000 in
theorem zsame_yes (v u : Value) (Z : Int) (k j : Nat) (w : World) (hv : ZRes w v Z k) (hu : ZRes w u Z j) : Calls Try.prog 78 #[v, u] w (YesPost w) := by
  obtain ⟨A, n, c, rfl, hx, hc, hm, hn⟩ := hv
  obtain ⟨B, m, d, rfl, hy, hd, hmd, hmk⟩ := hu
  obtain rfl : n = m := by rw [← hx.len, ← hy.len]
  have h0 : (decide (Z < 0) == decide (Z < 0)) = true := by simp
  generalize decide (Z < 0) = s at *
  generalize Limb.canon Z.natAbs = zs at *
  obtain ⟨x0, y0, z2, -⟩ := zstart2 w #[.bool s, .slice A n c] #[.bool s, .slice B n d]
  go_enter Try.func78, Try.ntmps78
  go_wp2_with fail
  refine (same_yes A B n c d zs _ (hx.below z2) (hy.below z2) (by omega)).mono ?_
  rintro e w1 ⟨rfl, hw⟩
  have b1 := bleK hw
  clear hw
  go_wp2_with fail
  go_ret
  exact ⟨rfl, z2.next b1⟩
set_option maxHeartbeats 1000000 in
theorem z2same_yes (v u : Value) (Z : Int) (k j : Nat) (w : World) (hv : ZRes w v Z k) (hu : ZRes w u Z j) (hk : k ≤ 1099511627776) : Calls Try.prog 35 #[v, u] w (YesPost w) := by
  have hv0 := hv
  have hu0 := hu
  obtain ⟨s, A, n, c, rfl⟩ := hv.form
  obtain ⟨t, B, m, d, rfl⟩ := hu.form
  obtain ⟨x0, y0, z2, -⟩ := zstart2 w #[.bool s, .slice A n c] #[.bool t, .slice B m d]
  go_enter Try.func35, Try.ntmps35
  go_wp2_with fail
  go_region_held3 (fun w' => w'.cell? ⟨w.heap.size, 0, none⟩ = some (.bool s) ∧ w'.cell? ⟨w.heap.size, 1, none⟩ = some (.slice A n c) ∧ w'.cell? ⟨w.heap.size + 1, 0, none⟩ = some (.bool t) ∧ w'.cell? ⟨w.heap.size + 1, 1, none⟩ = some (.slice B m d))
    (first | exact ⟨x0.drew.c0, x0.drew.c1, y0.drew.c0, y0.drew.c1⟩ | exact ⟨x1.c0, x1.c1, y1.c0, y1.c1⟩ | exact ⟨x2.c0, x2.c1, y2.c0, y2.c1⟩ | exact ⟨x3.c0, x3.c1, y3.c0, y3.c1⟩)
    (first
      | (go_at_call_of 78 (Value.agg #[.bool s, .slice A n c]); (with_reducible refine (zsame_yes _ _ Z k j _ (hv0.below z2.drew) (hu0.below z2.drew)).mono ?_); rintro e w1 ⟨rfl, b1⟩; have t1 := z2.drew.next b1; have x1 := x0.drew.next b1; have y1 := y0.drew.next b1)
      | (go_at_call 33; (with_reducible refine (clean_z _ Z k w1 (hv0.in_.below t1) hk).mono ?_); rintro e w2 ⟨v2, rfl, z22, b2⟩; have t2 := t1.next b2; have x2 := x1.next b2; have y2 := y1.next b2)
      | (go_at_call 78; (with_reducible refine (zsame_yes _ _ Z k k w2 (hv0.below t2) z22).mono ?_); rintro e w3 ⟨rfl, b3⟩; have x3 := x2.next b3; have y3 := y2.next b3))
  go_wp2_with fail
  go_ret
  exact ⟨rfl, t2.next b3⟩
def ShortPost (b : Bool) (w : World) (e : Ending) (w' : World) : Prop := e = .returned (.bool b) ∧ Below w.heap.size w w'
set_option maxHeartbeats 1000000 in
theorem z2short_yes (v u : Value) (Z Y : Int) (k : Nat) (q : Int) (w : World) (hv : ZIn w v Z k) (hu : ZIn w u Y k) (hk : (k : Int) ≤ q) (hq : q ≤ 4294967296) : Calls Try.prog 32 #[v, u, .int .i64 q] w (ShortPost true w) := by
  obtain ⟨s, A, n, c, xs, rfl, hx, hc, hm, hn, hZ⟩ := hv
  obtain ⟨t, B, m, d, ys, rfl, hy, hd, hmd, hmk, hY⟩ := hu
  have h1 : (n : Int) ≤ q := by omega
  have h2 : (m : Int) ≤ q := by omega
  obtain ⟨x0, y0, z2, -⟩ := zstart2 w #[.bool s, .slice A n c] #[.bool t, .slice B m d]
  clear hZ hY
  go_enter Try.func32, Try.ntmps32
  go_wp2_with fail
  go_ret
  exact ⟨rfl, z2⟩
set_option maxHeartbeats 1000000 in
theorem z2short_no (s t : Bool) (A B : Option Addr) (n c m d : Nat) (q : Int) (w : World) (hn : n ≤ 9223372036854775807) (hm : m ≤ 9223372036854775807) (h : q < (n : Int) ∨ q < (m : Int)) (hq : q ≤ 4294967296) :
    Calls Try.prog 32 #[.agg #[.bool s, .slice A n c], .agg #[.bool t, .slice B m d], .int .i64 q] w (ShortPost false w) := by
  obtain ⟨x0, y0, z2, -⟩ := zstart2 w #[.bool s, .slice A n c] #[.bool t, .slice B m d]
  by_cases h1 : (n : Int) ≤ q
  · have h2 : ¬ (m : Int) ≤ q := by omega
    clear h
    go_enter Try.func32, Try.ntmps32
    go_wp2_with fail
    go_ret
    exact ⟨rfl, z2⟩
  · clear h
    go_enter Try.func32, Try.ntmps32
    go_wp2_with fail
    go_ret
    exact ⟨rfl, z2⟩
end Go.Proofs.Ytpocaopiaggbmaa
