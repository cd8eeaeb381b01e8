/- Texts of one seat, put together: RefZB ZintD. -/
import Derived.Test.YtlihnagfmfpdcaaB21
/- plumblineref02: Sub, Mul, Same; the statements' same and short. -/
namespace Go.Proofs.Ytlihnagfmfpdcaa
open Go.RowKit
open Limb (limb limb_lt upto upto_succ upto_all upto_zero)

set_option maxHeartbeats 1000000 in
theorem rzsub_z (v u : Value) (Z Y : Int) (k : Nat) (w : World) (hv : ZIn w v Z k) (hu : ZIn w u Y k) (hk : k ≤ 137438953472) :
    Calls Try.prog 72 #[v, u] w (ZPost (Z - Y) (k + 1) w) := by
  have hv0 := hv
  have hu0 := hu
  obtain ⟨s, A, n, c, xs, rfl, -⟩ := hv
  obtain ⟨t, B, m, d, ys, rfl, -⟩ := hu
  obtain ⟨x0, y0, r0, z2, -⟩ := zstart3 w #[.bool s, .slice A n c] #[.bool t, .slice B m d] #[.bool false, .slice none 0 0]
  go_enter Try.func72, Try.ntmps72
  go_wp2_with fail
  go_region_held3 (fun w' => w'.cell? ⟨w.heap.size, 0, none⟩ = some (.bool s) ∧ w'.cell? ⟨w.heap.size, 1, none⟩ = some (.slice A n c) ∧ w'.cell? ⟨w.heap.size + 1, 0, none⟩ = some (.bool t) ∧ w'.cell? ⟨w.heap.size + 1, 1, none⟩ = some (.slice B m d))
    (first | exact ⟨x0.drew.c0, x0.drew.c1, y0.drew.c0, y0.drew.c1⟩ | exact ⟨x1.c0, x1.c1, y1.c0, y1.c1⟩ | exact ⟨x2.c0, x2.c1, y2.c0, y2.c1⟩ | exact ⟨(x2.other (only_set2 _ _ _ _) (by omega)).c0, (x2.other (only_set2 _ _ _ _) (by omega)).c1, (y2.other (only_set2 _ _ _ _) (by omega)).c0, (y2.other (only_set2 _ _ _ _) (by omega)).c1⟩)
    (first
      | (go_at_call 74; (with_reducible refine (rneg_z _ Y k _ (hu0.below z2.drew) (by omega)).mono ?_); rintro e w1 ⟨v1, rfl, z1, b1⟩; have t1 := z2.drew.next b1; have x1 := x0.drew.next b1; have y1 := y0.drew.next b1)
      | (go_at_call 98; (with_reducible refine (rzadd_z _ v1 Z (-Y) k w1 (hv0.below t1) z1.in_ hk).mono ?_); rintro e w2 ⟨v2, rfl, q2, b2⟩; have t2 := t1.next b2; have x2 := x1.next b2; have y2 := y1.next b2; obtain ⟨s2, A2, n2, c2, rfl⟩ := q2.form; have k2 := (r0.drew.next b1).next b2; have k2a := k2.c0; have k2b := k2.c1; have k2c := k2.fr 0; have k2d := k2.fr 1))
  go_wp2_with fail
  refine bodyPost_z rfl rfl (k2.set2 _ _) rfl ?_
  exact ⟨_, rfl, (q2.ofEq (by omega)).only k2 (only_set2 _ _ _ _), zback t2 (by omega) (only_set2 _ _ _ _)⟩
theorem sgn3_sub (Z Y : Int) : (Z - Y).sign = sgn3 Z Y := by
  rcases Int.lt_trichotomy Z Y with h | h | h
  · rw [sgn3_lt h]; exact Int.sign_eq_neg_one_of_neg (by omega)
  · subst h; rw [Int.sub_self]; unfold sgn3; simp
  · rw [sgn3_gt h]; exact Int.sign_eq_one_of_pos (by omega)
theorem sign_prod (Z Y : Int) : sg (decide (Z.sign * Y.sign < 0)) (Z.natAbs * Y.natAbs) = Z * Y := by
  rw [← Int.sign_mul, ← Int.natAbs_mul]
  have : decide ((Z * Y).sign < 0) = decide (Z * Y < 0) := by rw [decide_eq_decide]; exact Int.sign_neg_iff
  rw [this, sg_canon]
theorem sign_mul_range (Z Y : Int) : -1 ≤ Z.sign * Y.sign ∧ Z.sign * Y.sign ≤ 1 := by rw [← Int.sign_mul]; exact sign_range _
set_option maxHeartbeats 2000000 in
theorem rzmul_z (v u : Value) (Z Y : Int) (k j : Nat) (w : World) (hv : ZIn w v Z k) (hu : ZIn w u Y j) (hk : k ≤ 68719476736) (hj : j ≤ 68719476736) :
    Calls Try.prog 73 #[v, u] w (ZPost (Z * Y) (k + j) w) := by
  have hlv := hide hv.lt
  have hlu := hide hu.lt
  have hv0 := hv
  have hu0 := hu
  obtain ⟨s, A, n, c, xs, rfl, hx, hc, hm, hn, hZ⟩ := hv
  obtain ⟨t, B, m, d, ys, rfl, hy, hd, hmd, hmk, hY⟩ := hu
  have HN := hide (ZIn.abs hZ)
  have HM := hide (ZIn.abs hY)
  have hE := hide (sign_prod Z Y)
  have hr := sign_mul_range Z Y
  have hsa := fun w' hw => rsign_z _ Z k w' (hv0.below hw) (by omega)
  have hsb := fun w' hw => rsign_z _ Y j w' (hu0.below hw) (by omega)
  unfold RSignPost at hsa hsb
  generalize Z.sign = p at *
  generalize Y.sign = q at *
  have hw : IntKind.i64.wrap (p * q) = p * q := IntWalk.i64_in _ (by omega)
  have HSA := hide hsa
  have HSB := hide hsb
  clear hZ hY hsa hsb
  obtain ⟨x0, y0, r0, z2, -⟩ := zstart3 w #[.bool s, .slice A n c] #[.bool t, .slice B m d] #[.bool false, .slice none 0 0]
  go_enter Try.func73, Try.ntmps73
  go_wp2_with fail
  go_region_held3 (fun w' => w'.cell? ⟨w.heap.size, 0, none⟩ = some (.bool s) ∧ w'.cell? ⟨w.heap.size, 1, none⟩ = some (.slice A n c) ∧ w'.cell? ⟨w.heap.size + 1, 0, none⟩ = some (.bool t) ∧ w'.cell? ⟨w.heap.size + 1, 1, none⟩ = some (.slice B m d))
    (first | exact ⟨x0.drew.c0, x0.drew.c1, y0.drew.c0, y0.drew.c1⟩ | exact ⟨x1.c0, x1.c1, y1.c0, y1.c1⟩ | exact ⟨x2.c0, x2.c1, y2.c0, y2.c1⟩ | exact ⟨x3.c0, x3.c1, y3.c0, y3.c1⟩ | exact ⟨x4.c0, x4.c1, y4.c0, y4.c1⟩ | exact ⟨(x4.other (only_set2 _ _ _ _) (by omega)).c0, (x4.other (only_set2 _ _ _ _) (by omega)).c1, (y4.other (only_set2 _ _ _ _) (by omega)).c0, (y4.other (only_set2 _ _ _ _) (by omega)).c1⟩)
    (first
      | (go_at_call_of 70 (Value.agg #[.bool s, .slice A n c]); (with_reducible refine (HSA.out _ z2.drew).mono ?_); rintro e w1 ⟨rfl, b1⟩; have t1 := z2.drew.next b1; have x1 := x0.drew.next b1; have y1 := y0.drew.next b1; have r1 := r0.drew.next b1)
      | (go_at_call_of 70 (Value.agg #[.bool t, .slice B m d]); (with_reducible refine (HSB.out w1 t1).mono ?_); rintro e w2 ⟨rfl, b2⟩; have t2 := t1.next b2; have x2 := x1.next b2; have y2 := y1.next b2; have r2 := r1.next b2)
      | (go_at_call 14; (with_reducible refine (rmul_any A B n c m d xs ys w2 (hx.below t2) (hy.below t2) (by omega) (by omega)).mono ?_); rintro e w3 ⟨A3, n3, c3, rfl, o3, l3, m3, b3⟩; have x3 := x2.next b3; have y3 := y2.next b3; have r3 := r2.next b3; rw [HN.out, HM.out] at o3; have ln3 : n3 ≤ k + j := short_canon o3 (mul_lt_pow _ _ _ _ hlv.out hlu.out))
      | (go_at_call 76; (with_reducible refine (rfrom_any (decide (p * q < 0)) A3 n3 c3 (k + j) _ w3 o3 ln3 (by omega)).mono ?_); rintro e w4 ⟨v4, rfl, z4, b4⟩; rw [Limb.val_canon, hE.out] at z4; obtain ⟨s4, A4, n4, c4, rfl⟩ := z4.form; have x4 := x3.next b4; have y4 := y3.next b4; have k4 := r3.next b4; have k4a := k4.c0; have k4b := k4.c1; have k4c := k4.fr 0; have k4d := k4.fr 1))
  go_wp2_with fail
  refine bodyPost_z rfl rfl (k4.set2 _ _) rfl ?_
  exact ⟨_, rfl, z4.only k4 (only_set2 _ _ _ _), zback ((t2.next b3).next b4) (by omega) (only_set2 _ _ _ _)⟩

theorem zres_nums {w : World} {s : Bool} {A : Option Addr} {n c : Nat} {Z : Int} {k : Nat} (h : ZRes w (.agg #[.bool s, .slice A n c]) Z k) : s = decide (Z < 0) ∧ Nums w A n (Limb.canon Z.natAbs) ∧ n ≤ c ∧ c ≤ 9223372036854775807 ∧ n ≤ k := by
  obtain ⟨A', n', c', e, h1, h2, h3, h4⟩ := h
  simp only [Value.agg.injEq, Array.mk.injEq, List.cons.injEq, Value.bool.injEq, Value.slice.injEq, and_true] at e
  obtain ⟨e0, e1, e2, e3⟩ := e
  subst e0 e1 e2 e3
  exact ⟨rfl, h1, h2, h3, h4⟩
set_option maxHeartbeats 1000000 in
theorem zsame_yes (v u : Value) (Z : Int) (k j : Nat) (w : World) (hv : ZRes w v Z k) (hu : ZRes w u Z j) : Calls Try.prog 45 #[v, u] w (YesPost w) := by
  obtain ⟨A, n, c, rfl, hx, hc, hm, hn⟩ := hv
  obtain ⟨B, m, d, rfl, hy, hd, hmd, hmk⟩ := hu
  obtain rfl : n = m := by rw [← hx.len, ← hy.len]
  have h0 : (decide (Z < 0) == decide (Z < 0)) = true := by simp
  generalize decide (Z < 0) = s at *
  generalize Limb.canon Z.natAbs = zs at *
  obtain ⟨x0, y0, z2, -⟩ := zstart2 w #[.bool s, .slice A n c] #[.bool s, .slice B n d]
  go_enter Try.func45, Try.ntmps45
  go_wp2_with fail
  refine (same_yes A B n c d zs _ (hx.below z2) (hy.below z2) (by omega)).mono ?_
  rintro e w1 ⟨rfl, hw⟩
  have b1 := bleK hw
  clear hw
  go_wp2_with fail
  go_ret
  exact ⟨rfl, z2.next b1⟩
set_option maxHeartbeats 1000000 in
theorem z2same_yes (v u : Value) (Z : Int) (k j : Nat) (w : World) (hv : ZRes w v Z k) (hu : ZRes w u Z j) (hk : k ≤ 1099511627776) : Calls Try.prog 27 #[v, u] w (YesPost w) := by
  have hv0 := hv
  have hu0 := hu
  obtain ⟨s, A, n, c, rfl⟩ := hv.form
  obtain ⟨t, B, m, d, rfl⟩ := hu.form
  obtain ⟨x0, y0, z2, -⟩ := zstart2 w #[.bool s, .slice A n c] #[.bool t, .slice B m d]
  go_enter Try.func27, Try.ntmps27
  go_wp2_with fail
  go_region_held3 (fun w' => w'.cell? ⟨w.heap.size, 0, none⟩ = some (.bool s) ∧ w'.cell? ⟨w.heap.size, 1, none⟩ = some (.slice A n c) ∧ w'.cell? ⟨w.heap.size + 1, 0, none⟩ = some (.bool t) ∧ w'.cell? ⟨w.heap.size + 1, 1, none⟩ = some (.slice B m d))
    (first | exact ⟨x0.drew.c0, x0.drew.c1, y0.drew.c0, y0.drew.c1⟩ | exact ⟨x1.c0, x1.c1, y1.c0, y1.c1⟩ | exact ⟨x2.c0, x2.c1, y2.c0, y2.c1⟩ | exact ⟨x3.c0, x3.c1, y3.c0, y3.c1⟩)
    (first
      | (go_at_call_of 45 (Value.agg #[.bool s, .slice A n c]); (with_reducible refine (zsame_yes _ _ Z k j _ (hv0.below z2.drew) (hu0.below z2.drew)).mono ?_); rintro e w1 ⟨rfl, b1⟩; have t1 := z2.drew.next b1; have x1 := x0.drew.next b1; have y1 := y0.drew.next b1)
      | (go_at_call 46; (with_reducible refine (clean_z _ Z k w1 (hv0.in_.below t1) hk).mono ?_); rintro e w2 ⟨v2, rfl, z22, b2⟩; have t2 := t1.next b2; have x2 := x1.next b2; have y2 := y1.next b2)
      | (go_at_call 45; (with_reducible refine (zsame_yes _ _ Z k k w2 (hv0.below t2) z22).mono ?_); rintro e w3 ⟨rfl, b3⟩; have x3 := x2.next b3; have y3 := y2.next b3))
  go_wp2_with fail
  go_ret
  exact ⟨rfl, t2.next b3⟩
def ShortPost (b : Bool) (w : World) (e : Ending) (w' : World) : Prop := e = .returned (.bool b) ∧ Below w.heap.size w w'
set_option maxHeartbeats 1000000 in
theorem z2short_yes (v u : Value) (Z Y : Int) (k : Nat) (q : Int) (w : World) (hv : ZIn w v Z k) (hu : ZIn w u Y k) (hk : (k : Int) ≤ q) (hq : q ≤ 4294967296) : Calls Try.prog 24 #[v, u, .int .i64 q] w (ShortPost true w) := by
  obtain ⟨s, A, n, c, xs, rfl, hx, hc, hm, hn, hZ⟩ := hv
  obtain ⟨t, B, m, d, ys, rfl, hy, hd, hmd, hmk, hY⟩ := hu
  have h1 : (n : Int) ≤ q := by omega
  have h2 : (m : Int) ≤ q := by omega
  obtain ⟨x0, y0, z2, -⟩ := zstart2 w #[.bool s, .slice A n c] #[.bool t, .slice B m d]
  clear hZ hY
  go_enter Try.func24, Try.ntmps24
  go_wp2_with fail
  go_ret
  exact ⟨rfl, z2⟩
set_option maxHeartbeats 1000000 in
theorem z2short_no (s t : Bool) (A B : Option Addr) (n c m d : Nat) (q : Int) (w : World) (hn : n ≤ 9223372036854775807) (hm : m ≤ 9223372036854775807) (h : q < (n : Int) ∨ q < (m : Int)) (hq : q ≤ 4294967296) :
    Calls Try.prog 24 #[.agg #[.bool s, .slice A n c], .agg #[.bool t, .slice B m d], .int .i64 q] w (ShortPost false w) := by
  obtain ⟨x0, y0, z2, -⟩ := zstart2 w #[.bool s, .slice A n c] #[.bool t, .slice B m d]
  by_cases h1 : (n : Int) ≤ q
  · have h2 : ¬ (m : Int) ≤ q := by omega
    clear h
    go_enter Try.func24, Try.ntmps24
    go_wp2_with fail
    go_ret
    exact ⟨rfl, z2⟩
  · clear h
    go_enter Try.func24, Try.ntmps24
    go_wp2_with fail
    go_ret
    exact ⟨rfl, z2⟩
end Go.Proofs.Ytlihnagfmfpdcaa
/- zint.Of; plumblineref02.Of; the statements' is. -/
namespace Go.Proofs.Ytlihnagfmfpdcaa
open Go.RowKit
open Limb (limb limb_lt upto upto_succ upto_all upto_zero)

theorem wrapU (n : Int) : IntKind.u64.wrap n = n % 18446744073709551616 := by simp [IntKind.wrap, IntKind.bits, IntKind.signed]
set_option maxHeartbeats 1000000 in
theorem of_z (n : Int) (w : World) (h1 : -9223372036854775808 ≤ n) (h2 : n ≤ 9223372036854775807) : Calls Try.prog 64 #[.int .i64 n] w (ZPost n 2 w) := by
  obtain ⟨z1, z2, -⟩ := zstart1 w #[.bool false, .slice none 0 0]
  have hl : n.natAbs < 18446744073709551616 := by omega
  by_cases hn : n < 0
  · have hE := hide (show sg true n.natAbs = n by rw [sg_true]; omega)
    have hd : decide (n < 0) = true := decide_eq_true hn
    go_enter Try.func64, Try.ntmps64
    go_wp2_with fail
    refine (of_int _ n.natAbs _ (by rw [wrapU, wrapU]; omega) (by omega)).mono ?_
    rintro e w1 ⟨A1, n1, rfl, o1, b1⟩
    have hn1 := own_c o1
    go_wp2_with fail
    refine (signed_any true A1 n1 n1 _ w1 o1.len (by omega)).mono ?_
    rintro e w2 ⟨rfl, b2⟩
    have r2 := (zres_own (s := true) (k := 2) o1 (by omega)).below b2
    rw [hE.out, hd] at r2
    rw [hE.out, hd]
    have k2 := (z1.next b1).next b2
    go_wp2_with (with_reducible refine wpList_store_z rfl _ _ rfl w.heap.size _ _ _ _ rfl rfl _ _ k2 ?_; intro w3 k3 ho3)
    refine bodyPost_z rfl rfl k3 rfl ?_
    exact ⟨_, rfl, r2.only k2 ho3, zback ((z2.next b1).next b2) (Nat.le_refl _) ho3⟩
  · have hE := hide (show sg false n.natAbs = n by rw [sg_false]; omega)
    have hd : decide (n < 0) = false := decide_eq_false hn
    go_enter Try.func64, Try.ntmps64
    go_wp2_with fail
    refine (of_int _ n.natAbs _ (by omega) (by omega)).mono ?_
    rintro e w1 ⟨A1, n1, rfl, o1, b1⟩
    have hn1 := own_c o1
    go_wp2_with fail
    refine (signed_any false A1 n1 n1 _ w1 o1.len (by omega)).mono ?_
    rintro e w2 ⟨rfl, b2⟩
    have r2 := (zres_own (s := false) (k := 2) o1 (by omega)).below b2
    rw [hE.out, hd] at r2
    rw [hE.out, hd]
    have k2 := (z1.next b1).next b2
    go_wp2_with (with_reducible refine wpList_store_z rfl _ _ rfl w.heap.size _ _ _ _ rfl rfl _ _ k2 ?_; intro w3 k3 ho3)
    refine bodyPost_z rfl rfl k3 rfl ?_
    exact ⟨_, rfl, r2.only k2 ho3, zback ((z2.next b1).next b2) (Nat.le_refl _) ho3⟩

theorem nums_two (w : World) (x y : Nat) (us : Array Value) (hus : us = (u32s [x, y]).toArray) (h : x < 4294967296) (hy : y < 4294967296) : Nums (w.alloc (.cells us 59)) (some ⟨w.heap.size, 0, none⟩) 2 [x, y] :=
  Nums.new w [x, y] us hus (Limb.Ok.cons h (Limb.Ok.cons hy Limb.Ok.nil)) 2 rfl
set_option maxHeartbeats 1000000 in
theorem rof_z (n : Int) (w : World) (h1 : -9223372036854775808 ≤ n) (h2 : n ≤ 9223372036854775807) : Calls Try.prog 69 #[.int .i64 n] w (ZPost n 2 w) := by
  obtain ⟨z1, z2, z3⟩ := zstart1 w #[.bool false, .slice none 0 0]
  by_cases hn : n < 0
  · obtain ⟨m, rfl⟩ : ∃ m : Nat, n = -(m : Int) - 1 := ⟨(-n - 1).toNat, by omega⟩
    have hm : m ≤ 9223372036854775807 := by omega
    have e1 : -(m : Int) - 1 + 1 = -(m : Int) := by omega
    have e2 : 0 - -(m : Int) = (m : Int) := by omega
    clear h1 h2
    have hx := nums_two (w.alloc (.cells #[.bool false, .slice none 0 0] 38)) (m % 4294967296) (m / 4294967296) #[.int .u32 ((m : Int) % 4294967296), .int .u32 ((m : Int) / 4294967296)] (by simp [u32s]) (by omega) (by omega)
    have t2 := bl_alloc (w.alloc (.cells #[.bool false, .slice none 0 0] 38)) (.cells #[.int .u32 ((m : Int) % 4294967296), .int .u32 ((m : Int) / 4294967296)] 59)
    have s2 := size_alloc (w.alloc (.cells #[.bool false, .slice none 0 0] 38)) (.cells #[.int .u32 ((m : Int) % 4294967296), .int .u32 ((m : Int) / 4294967296)] 59)
    rw [z3] at hx s2
    have hv := hide (show Limb.val [m % 4294967296, m / 4294967296] = m by simp [Limb.val]; omega)
    have hy := lit1 ((w.alloc (.cells #[.bool false, .slice none 0 0] 38)).alloc (.cells #[.int .u32 ((m : Int) % 4294967296), .int .u32 ((m : Int) / 4294967296)] 59)) 1 1 #[.int .u32 1] rfl (by omega) (by omega) rfl
    have t3 := bl_alloc ((w.alloc (.cells #[.bool false, .slice none 0 0] 38)).alloc (.cells #[.int .u32 ((m : Int) % 4294967296), .int .u32 ((m : Int) / 4294967296)] 59)) (.cells #[.int .u32 1] 59)
    rw [s2] at hy
    have T := (z2.next t2).next t3
    have K := (z1.next t2).next t3
    have X := hx.below t3
    have hE := hide (show sg true (m + 1) = -(m : Int) - 1 by rw [sg_true]; omega)
    clear hx t2 t3 s2 z3
    go_enter Try.func69, Try.ntmps69
    go_wp2_with fail
    refine (radd_any _ _ 2 2 1 1 _ _ _ X hy (by omega) (by omega)).mono ?_
    rintro e w1 ⟨A1, n1, c1, rfl, o1, l1, m1, b1⟩
    rw [hv.out, Limb.val_canon] at o1
    have ln1 : n1 ≤ 2 := short_canon o1 (by omega)
    go_wp2_with fail
    refine (rfrom_any true A1 n1 c1 2 _ w1 o1 ln1 (by omega)).mono ?_
    rintro e w2 ⟨v2, rfl, r2, b2⟩
    rw [Limb.val_canon, hE.out] at r2
    obtain ⟨s2, A2, n2, c2, rfl⟩ := r2.form
    have k2 := (K.next b1).next b2
    go_wp2_with (with_reducible refine wpList_store_z rfl _ _ rfl w.heap.size _ _ _ _ rfl rfl _ _ k2 ?_; intro w3 k3 ho3)
    refine bodyPost_z rfl rfl k3 rfl ?_
    exact ⟨_, rfl, r2.only k2 ho3, zback ((T.next b1).next b2) (Nat.le_refl _) ho3⟩
  · obtain ⟨m, rfl⟩ := Int.eq_ofNat_of_zero_le (show 0 ≤ n by omega)
    clear hn h1
    have hx := nums_two (w.alloc (.cells #[.bool false, .slice none 0 0] 38)) (m % 4294967296) (m / 4294967296) #[.int .u32 ((m : Int) % 4294967296), .int .u32 ((m : Int) / 4294967296)] (by simp [u32s]) (by omega) (by omega)
    have t2 := bl_alloc (w.alloc (.cells #[.bool false, .slice none 0 0] 38)) (.cells #[.int .u32 ((m : Int) % 4294967296), .int .u32 ((m : Int) / 4294967296)] 59)
    rw [z3] at hx
    have hv := hide (show Limb.val [m % 4294967296, m / 4294967296] = m by simp [Limb.val]; omega)
    have hf := rfrom_any false _ 2 2 2 _ _ hx (by omega) (by omega)
    rw [hv.out, sg_false] at hf
    have K := z1.next t2
    have T := z2.next t2
    clear hx t2 z3 hv
    go_enter Try.func69, Try.ntmps69
    go_wp2_with fail
    refine hf.mono ?_
    rintro e w2 ⟨v2, rfl, r2, b2⟩
    obtain ⟨s2, A2, n2, c2, rfl⟩ := r2.form
    have k2 := K.next b2
    go_wp2_with (with_reducible refine wpList_store_z rfl _ _ rfl w.heap.size _ _ _ _ rfl rfl _ _ k2 ?_; intro w3 k3 ho3)
    refine bodyPost_z rfl rfl k3 rfl ?_
    exact ⟨_, rfl, r2.only k2 ho3, zback (T.next b2) (Nat.le_refl _) ho3⟩

set_option maxHeartbeats 1000000 in
theorem is_yes (v : Value) (Z : Int) (k : Nat) (w : World) (hv : ZRes w v Z k) (hk : k ≤ 1099511627776) (h1 : -9223372036854775808 ≤ Z) (h2 : Z ≤ 9223372036854775807) : Calls Try.prog 65 #[v, .int .i64 Z] w (YesPost w) := by
  have hv0 := hv
  obtain ⟨s, A, n, c, rfl⟩ := hv.form
  obtain ⟨x0, z2, -⟩ := zstart1 w #[.bool s, .slice A n c]
  go_enter Try.func65, Try.ntmps65
  go_wp2_with fail
  go_region_held3 (fun w' => w'.cell? ⟨w.heap.size, 0, none⟩ = some (.bool s) ∧ w'.cell? ⟨w.heap.size, 1, none⟩ = some (.slice A n c))
    (first | exact ⟨x0.drew.c0, x0.drew.c1⟩ | exact ⟨x1.c0, x1.c1⟩ | exact ⟨x2.c0, x2.c1⟩)
    (first
      | (go_at_call 69; (with_reducible refine (rof_z Z _ h1 h2).mono ?_); rintro e w1 ⟨v1, rfl, r1, b1⟩; have t1 := z2.drew.next b1; have x1 := x0.drew.next b1)
      | (go_at_call 27; (with_reducible refine (z2same_yes _ _ Z k 2 w1 (hv0.below t1) r1 hk).mono ?_); rintro e w2 ⟨rfl, b2⟩; have x2 := x1.next b2))
  go_wp2_with fail
  go_ret
  exact ⟨rfl, t1.next b2⟩
end Go.Proofs.Ytlihnagfmfpdcaa
