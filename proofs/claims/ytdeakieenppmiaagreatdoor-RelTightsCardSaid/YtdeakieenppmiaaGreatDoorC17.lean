/- Texts of one seat, put together: RefZB ZintD TermA SortPart ArePlain. -/
import Derived.Test.YtdeakieenppmiaaGreatDoorC15
import Derived.Test.YtdeakieenppmiaaGreatDoorC16
import Derived.Shelf.SlSortCmp.NoneTotal
import Derived.Test.YtdeakieenppmiaaGreatDoorC02
set_option linter.unusedVariables false
set_option linter.unusedSimpArgs false
set_option maxRecDepth 100000
set_option maxHeartbeats 16000000
/- plumblineref02: Sub, Mul, Same; the statements' same and short. -/
namespace Go.Proofs.YtdeakieenppmiaaGreatDoor
open Go.RowKit
open Limb (limb limb_lt upto upto_succ upto_all upto_zero)

theorem rzsub_z (v u : Value) (Z Y : Int) (k : Nat) (w : World) (hv : ZIn w v Z k) (hu : ZIn w u Y k) (hk : k ≤ 137438953472) :
  Calls Tryz.prog 82 #[v, u] w (ZPost (Z - Y) (k + 1) w) := by
 have hv0 := hv
 have hu0 := hu
 obtain ⟨s, A, n, c, xs, rfl, -⟩ := hv
 obtain ⟨t, B, m, d, ys, rfl, -⟩ := hu
 obtain ⟨x0, y0, r0, z2, -⟩ := zstart3 w #[.bool s, .slice A n c] #[.bool t, .slice B m d] #[.bool false, .slice none 0 0]
 go_enter Tryz.func82, Tryz.ntmps82
 go_wp2_with fail
 go_region_held3 (fun w' => w'.cell? ⟨w.heap.size, 0, none⟩ = some (.bool s) ∧ w'.cell? ⟨w.heap.size, 1, none⟩ = some (.slice A n c) ∧ w'.cell? ⟨w.heap.size + 1, 0, none⟩ = some (.bool t) ∧ w'.cell? ⟨w.heap.size + 1, 1, none⟩ = some (.slice B m d))
  (first | exact ⟨x0.drew.c0, x0.drew.c1, y0.drew.c0, y0.drew.c1⟩ | exact ⟨x1.c0, x1.c1, y1.c0, y1.c1⟩ | exact ⟨x2.c0, x2.c1, y2.c0, y2.c1⟩ | exact ⟨(x2.other (only_set2 _ _ _ _) (by omega)).c0, (x2.other (only_set2 _ _ _ _) (by omega)).c1, (y2.other (only_set2 _ _ _ _) (by omega)).c0, (y2.other (only_set2 _ _ _ _) (by omega)).c1⟩)
  (first
   | (go_at_call 127; (with_reducible refine (rneg_z _ Y k _ (hu0.below z2.drew) (by omega)).mono ?_); rintro e w1 ⟨v1, rfl, z1, b1⟩; have t1 := z2.drew.next b1; have x1 := x0.drew.next b1; have y1 := y0.drew.next b1)
   | (go_at_call 84; (with_reducible refine (rzadd_z _ v1 Z (-Y) k w1 (hv0.below t1) z1.in_ hk).mono ?_); rintro e w2 ⟨v2, rfl, q2, b2⟩; have t2 := t1.next b2; have x2 := x1.next b2; have y2 := y1.next b2; obtain ⟨s2, A2, n2, c2, rfl⟩ := q2.form; have k2 := (r0.drew.next b1).next b2; have k2a := k2.c0; have k2b := k2.c1; have k2c := k2.fr 0; have k2d := k2.fr 1))
 go_wp2_with fail
 refine bodyPost_z rfl rfl (k2.set2 _ _) rfl ?_
 exact ⟨_, rfl, (q2.ofEq (by omega)).only k2 (only_set2 _ _ _ _), zback t2 (by omega) (only_set2 _ _ _ _)⟩
theorem sgn3_sub (Z Y : Int) : (Z - Y).sign = sgn3 Z Y := by
 rcases Int.lt_trichotomy Z Y with h | h | h
 · rw [sgn3_lt h]; exact Int.sign_eq_neg_one_of_neg (by omega)
 · subst h; rw [Int.sub_self]; unfold sgn3; simp
 · rw [sgn3_gt h]; exact Int.sign_eq_one_of_pos (by omega)
theorem sign_prod (Z Y : Int) : sg (decide (Z.sign * Y.sign < 0)) (Z.natAbs * Y.natAbs) = Z * Y := by
 rw [← Int.sign_mul, ← Int.natAbs_mul]
 have : decide ((Z * Y).sign < 0) = decide (Z * Y < 0) := by rw [decide_eq_decide]; exact Int.sign_neg_iff
 rw [this, sg_canon]
theorem sign_mul_range (Z Y : Int) : -1 ≤ Z.sign * Y.sign ∧ Z.sign * Y.sign ≤ 1 := by rw [← Int.sign_mul]; exact sign_range _
theorem rzmul_z (v u : Value) (Z Y : Int) (k j : Nat) (w : World) (hv : ZIn w v Z k) (hu : ZIn w u Y j) (hk : k ≤ 68719476736) (hj : j ≤ 68719476736) :
  Calls Tryz.prog 83 #[v, u] w (ZPost (Z * Y) (k + j) w) := by
 have hlv := hide hv.lt
 have hlu := hide hu.lt
 have hv0 := hv
 have hu0 := hu
 obtain ⟨s, A, n, c, xs, rfl, hx, hc, hm, hn, hZ⟩ := hv
 obtain ⟨t, B, m, d, ys, rfl, hy, hd, hmd, hmk, hY⟩ := hu
 have HN := hide (ZIn.abs hZ)
 have HM := hide (ZIn.abs hY)
 have hE := hide (sign_prod Z Y)
 have hr := sign_mul_range Z Y
 have hsa := fun w' hw => rsign_z _ Z k w' (hv0.below hw) (by omega)
 have hsb := fun w' hw => rsign_z _ Y j w' (hu0.below hw) (by omega)
 unfold RSignPost at hsa hsb
 generalize Z.sign = p at *
 generalize Y.sign = q at *
 have hw : IntKind.i64.wrap (p * q) = p * q := IntWalk.i64_in _ (by omega)
 have HSA := hide hsa
 have HSB := hide hsb
 clear hZ hY hsa hsb
 obtain ⟨x0, y0, r0, z2, -⟩ := zstart3 w #[.bool s, .slice A n c] #[.bool t, .slice B m d] #[.bool false, .slice none 0 0]
 go_enter Tryz.func83, Tryz.ntmps83
 go_wp2_with fail
 go_region_held3 (fun w' => w'.cell? ⟨w.heap.size, 0, none⟩ = some (.bool s) ∧ w'.cell? ⟨w.heap.size, 1, none⟩ = some (.slice A n c) ∧ w'.cell? ⟨w.heap.size + 1, 0, none⟩ = some (.bool t) ∧ w'.cell? ⟨w.heap.size + 1, 1, none⟩ = some (.slice B m d))
  (first | exact ⟨x0.drew.c0, x0.drew.c1, y0.drew.c0, y0.drew.c1⟩ | exact ⟨x1.c0, x1.c1, y1.c0, y1.c1⟩ | exact ⟨x2.c0, x2.c1, y2.c0, y2.c1⟩ | exact ⟨x3.c0, x3.c1, y3.c0, y3.c1⟩ | exact ⟨x4.c0, x4.c1, y4.c0, y4.c1⟩ | exact ⟨(x4.other (only_set2 _ _ _ _) (by omega)).c0, (x4.other (only_set2 _ _ _ _) (by omega)).c1, (y4.other (only_set2 _ _ _ _) (by omega)).c0, (y4.other (only_set2 _ _ _ _) (by omega)).c1⟩)
  (first
   | (go_at_call_of 38 (Value.agg #[.bool s, .slice A n c]); (with_reducible refine (HSA.out _ z2.drew).mono ?_); rintro e w1 ⟨rfl, b1⟩; have t1 := z2.drew.next b1; have x1 := x0.drew.next b1; have y1 := y0.drew.next b1; have r1 := r0.drew.next b1)
   | (go_at_call_of 38 (Value.agg #[.bool t, .slice B m d]); (with_reducible refine (HSB.out w1 t1).mono ?_); rintro e w2 ⟨rfl, b2⟩; have t2 := t1.next b2; have x2 := x1.next b2; have y2 := y1.next b2; have r2 := r1.next b2)
   | (go_at_call 128; (with_reducible refine (rmul_any A B n c m d xs ys w2 (hx.below t2) (hy.below t2) (by omega) (by omega)).mono ?_); rintro e w3 ⟨A3, n3, c3, rfl, o3, l3, m3, b3⟩; have x3 := x2.next b3; have y3 := y2.next b3; have r3 := r2.next b3; rw [HN.out, HM.out] at o3; have ln3 : n3 ≤ k + j := short_canon o3 (mul_lt_pow _ _ _ _ hlv.out hlu.out))
   | (go_at_call 63; (with_reducible refine (rfrom_any (decide (p * q < 0)) A3 n3 c3 (k + j) _ w3 o3 ln3 (by omega)).mono ?_); rintro e w4 ⟨v4, rfl, z4, b4⟩; rw [Limb.val_canon, hE.out] at z4; obtain ⟨s4, A4, n4, c4, rfl⟩ := z4.form; have x4 := x3.next b4; have y4 := y3.next b4; have k4 := r3.next b4; have k4a := k4.c0; have k4b := k4.c1; have k4c := k4.fr 0; have k4d := k4.fr 1))
 go_wp2_with fail
 refine bodyPost_z rfl rfl (k4.set2 _ _) rfl ?_
 exact ⟨_, rfl, z4.only k4 (only_set2 _ _ _ _), zback ((t2.next b3).next b4) (by omega) (only_set2 _ _ _ _)⟩

theorem zsame_yes (v u : Value) (Z : Int) (k j : Nat) (w : World) (hv : ZRes w v Z k) (hu : ZRes w u Z j) : Calls Tryz.prog 87 #[v, u] w (YesPost w) := by
 obtain ⟨A, n, c, rfl, hx, hc, hm, hn⟩ := hv
 obtain ⟨B, m, d, rfl, hy, hd, hmd, hmk⟩ := hu
 obtain rfl : n = m := by rw [← hx.len, ← hy.len]
 have h0 : (decide (Z < 0) == decide (Z < 0)) = true := by simp
 generalize decide (Z < 0) = s at *
 generalize Limb.canon Z.natAbs = zs at *
 obtain ⟨x0, y0, z2, -⟩ := zstart2 w #[.bool s, .slice A n c] #[.bool s, .slice B n d]
 go_enter Tryz.func87, Tryz.ntmps87
 go_wp2_with fail
 refine (same_yes A B n c d zs _ (hx.below z2) (hy.below z2) (by omega)).mono ?_
 rintro e w1 ⟨rfl, hw⟩
 have b1 := bleK hw
 clear hw
 go_wp2_with fail
 go_ret
 exact ⟨rfl, z2.next b1⟩
def ShortPost (b : Bool) (w : World) (e : Ending) (w' : World) : Prop := e = .returned (.bool b) ∧ Below w.heap.size w w'
end Go.Proofs.YtdeakieenppmiaaGreatDoor
/- zint.Of; plumblineref02.Of; the statements' is. -/
namespace Go.Proofs.YtdeakieenppmiaaGreatDoor
open Go.RowKit
open Limb (limb limb_lt upto upto_succ upto_all upto_zero)

theorem wrapU (n : Int) : IntKind.u64.wrap n = n % 18446744073709551616 := by simp [IntKind.wrap, IntKind.bits, IntKind.signed]
theorem of_z (n : Int) (w : World) (h1 : -9223372036854775808 ≤ n) (h2 : n ≤ 9223372036854775807) : Calls Tryz.prog 49 #[.int .i64 n] w (ZPost n 2 w) := by
 obtain ⟨z1, z2, -⟩ := zstart1 w #[.bool false, .slice none 0 0]
 have hl : n.natAbs < 18446744073709551616 := by omega
 by_cases hn : n < 0
 · have hE := hide (show sg true n.natAbs = n by rw [sg_true]; omega)
   have hd : decide (n < 0) = true := decide_eq_true hn
   go_enter Tryz.func49, Tryz.ntmps49
   go_wp2_with fail
   refine (of_int _ n.natAbs _ (by rw [wrapU, wrapU]; omega) (by omega)).mono ?_
   rintro e w1 ⟨A1, n1, rfl, o1, b1⟩
   have hn1 := own_c o1
   go_wp2_with fail
   refine (signed_any true A1 n1 n1 _ w1 o1.len (by omega)).mono ?_
   rintro e w2 ⟨rfl, b2⟩
   have r2 := (zres_own (s := true) (k := 2) o1 (by omega)).below b2
   rw [hE.out, hd] at r2
   rw [hE.out, hd]
   have k2 := (z1.next b1).next b2
   go_wp2_with (with_reducible refine wpList_store_z rfl _ _ rfl w.heap.size _ _ _ _ rfl rfl _ _ k2 ?_; intro w3 k3 ho3)
   refine bodyPost_z rfl rfl k3 rfl ?_
   exact ⟨_, rfl, r2.only k2 ho3, zback ((z2.next b1).next b2) (Nat.le_refl _) ho3⟩
 · have hE := hide (show sg false n.natAbs = n by rw [sg_false]; omega)
   have hd : decide (n < 0) = false := decide_eq_false hn
   go_enter Tryz.func49, Tryz.ntmps49
   go_wp2_with fail
   refine (of_int _ n.natAbs _ (by omega) (by omega)).mono ?_
   rintro e w1 ⟨A1, n1, rfl, o1, b1⟩
   have hn1 := own_c o1
   go_wp2_with fail
   refine (signed_any false A1 n1 n1 _ w1 o1.len (by omega)).mono ?_
   rintro e w2 ⟨rfl, b2⟩
   have r2 := (zres_own (s := false) (k := 2) o1 (by omega)).below b2
   rw [hE.out, hd] at r2
   rw [hE.out, hd]
   have k2 := (z1.next b1).next b2
   go_wp2_with (with_reducible refine wpList_store_z rfl _ _ rfl w.heap.size _ _ _ _ rfl rfl _ _ k2 ?_; intro w3 k3 ho3)
   refine bodyPost_z rfl rfl k3 rfl ?_
   exact ⟨_, rfl, r2.only k2 ho3, zback ((z2.next b1).next b2) (Nat.le_refl _) ho3⟩

theorem nums_two (w : World) (x y : Nat) (us : Array Value) (hus : us = (u32s [x, y]).toArray) (h : x < 4294967296) (hy : y < 4294967296) : Nums (w.alloc (.cells us 92)) (some ⟨w.heap.size, 0, none⟩) 2 [x, y] :=
 Nums.new w [x, y] us hus (Limb.Ok.cons h (Limb.Ok.cons hy Limb.Ok.nil)) 2 rfl
theorem rof_z (n : Int) (w : World) (h1 : -9223372036854775808 ≤ n) (h2 : n ≤ 9223372036854775807) : Calls Tryz.prog 28 #[.int .i64 n] w (ZPost n 2 w) := by
 obtain ⟨z1, z2, z3⟩ := zstart1 w #[.bool false, .slice none 0 0]
 by_cases hn : n < 0
 · obtain ⟨m, rfl⟩ : ∃ m : Nat, n = -(m : Int) - 1 := ⟨(-n - 1).toNat, by omega⟩
   have hm : m ≤ 9223372036854775807 := by omega
   have e1 : -(m : Int) - 1 + 1 = -(m : Int) := by omega
   have e2 : 0 - -(m : Int) = (m : Int) := by omega
   clear h1 h2
   have hx := nums_two (w.alloc (.cells #[.bool false, .slice none 0 0] 26)) (m % 4294967296) (m / 4294967296) #[.int .u32 ((m : Int) % 4294967296), .int .u32 ((m : Int) / 4294967296)] (by simp [u32s]) (by omega) (by omega)
   have t2 := bl_alloc (w.alloc (.cells #[.bool false, .slice none 0 0] 26)) (.cells #[.int .u32 ((m : Int) % 4294967296), .int .u32 ((m : Int) / 4294967296)] 92)
   have s2 := size_alloc (w.alloc (.cells #[.bool false, .slice none 0 0] 26)) (.cells #[.int .u32 ((m : Int) % 4294967296), .int .u32 ((m : Int) / 4294967296)] 92)
   rw [z3] at hx s2
   have hv := hide (show Limb.val [m % 4294967296, m / 4294967296] = m by simp [Limb.val]; omega)
   have hy := lit1 ((w.alloc (.cells #[.bool false, .slice none 0 0] 26)).alloc (.cells #[.int .u32 ((m : Int) % 4294967296), .int .u32 ((m : Int) / 4294967296)] 92)) 1 1 #[.int .u32 1] rfl (by omega) (by omega) rfl
   have t3 := bl_alloc ((w.alloc (.cells #[.bool false, .slice none 0 0] 26)).alloc (.cells #[.int .u32 ((m : Int) % 4294967296), .int .u32 ((m : Int) / 4294967296)] 92)) (.cells #[.int .u32 1] 92)
   rw [s2] at hy
   have T := (z2.next t2).next t3
   have K := (z1.next t2).next t3
   have X := hx.below t3
   have hE := hide (show sg true (m + 1) = -(m : Int) - 1 by rw [sg_true]; omega)
   clear hx t2 t3 s2 z3
   go_enter Tryz.func28, Tryz.ntmps28
   go_wp2_with fail
   refine (radd_any _ _ 2 2 1 1 _ _ _ X hy (by omega) (by omega)).mono ?_
   rintro e w1 ⟨A1, n1, c1, rfl, o1, l1, m1, b1⟩
   rw [hv.out, Limb.val_canon] at o1
   have ln1 : n1 ≤ 2 := short_canon o1 (by omega)
   go_wp2_with fail
   refine (rfrom_any true A1 n1 c1 2 _ w1 o1 ln1 (by omega)).mono ?_
   rintro e w2 ⟨v2, rfl, r2, b2⟩
   rw [Limb.val_canon, hE.out] at r2
   obtain ⟨s2, A2, n2, c2, rfl⟩ := r2.form
   have k2 := (K.next b1).next b2
   go_wp2_with (with_reducible refine wpList_store_z rfl _ _ rfl w.heap.size _ _ _ _ rfl rfl _ _ k2 ?_; intro w3 k3 ho3)
   refine bodyPost_z rfl rfl k3 rfl ?_
   exact ⟨_, rfl, r2.only k2 ho3, zback ((T.next b1).next b2) (Nat.le_refl _) ho3⟩
 · obtain ⟨m, rfl⟩ := Int.eq_ofNat_of_zero_le (show 0 ≤ n by omega)
   clear hn h1
   have hx := nums_two (w.alloc (.cells #[.bool false, .slice none 0 0] 26)) (m % 4294967296) (m / 4294967296) #[.int .u32 ((m : Int) % 4294967296), .int .u32 ((m : Int) / 4294967296)] (by simp [u32s]) (by omega) (by omega)
   have t2 := bl_alloc (w.alloc (.cells #[.bool false, .slice none 0 0] 26)) (.cells #[.int .u32 ((m : Int) % 4294967296), .int .u32 ((m : Int) / 4294967296)] 92)
   rw [z3] at hx
   have hv := hide (show Limb.val [m % 4294967296, m / 4294967296] = m by simp [Limb.val]; omega)
   have hf := rfrom_any false _ 2 2 2 _ _ hx (by omega) (by omega)
   rw [hv.out, sg_false] at hf
   have K := z1.next t2
   have T := z2.next t2
   clear hx t2 z3 hv
   go_enter Tryz.func28, Tryz.ntmps28
   go_wp2_with fail
   refine hf.mono ?_
   rintro e w2 ⟨v2, rfl, r2, b2⟩
   obtain ⟨s2, A2, n2, c2, rfl⟩ := r2.form
   have k2 := K.next b2
   go_wp2_with (with_reducible refine wpList_store_z rfl _ _ rfl w.heap.size _ _ _ _ rfl rfl _ _ k2 ?_; intro w3 k3 ho3)
   refine bodyPost_z rfl rfl k3 rfl ?_
   exact ⟨_, rfl, r2.only k2 ho3, zback (T.next b2) (Nat.le_refl _) ho3⟩

end Go.Proofs.YtdeakieenppmiaaGreatDoor
/- term: copied, Number, the closures of plain and Scale. -/
namespace Go.Proofs.YtdeakieenppmiaaGreatDoor
open Go.RowKit

theorem copied_z (v : Value) (Z : Int) (k : Nat) (w : World) (hv : ZIn w v Z k) (hk : k ≤ 1099511627776) : Calls Tryz.prog 88 #[v] w (ZPost Z k w) := by
 obtain ⟨s, A, n, c, xs, rfl, hx, hc, hm, hn, rfl⟩ := hv
 obtain ⟨z0, z1, z2, -⟩ := zstart2 w #[.bool s, .slice A n c] #[.bool false, .slice none 0 0]
 have hf := from_any s A n c k xs _ (hx.below z2) hc hm hn hk
 go_enter Tryz.func88, Tryz.ntmps88
 go_wp2_with fail
 refine hf.mono ?_
 rintro e w1 ⟨v1, rfl, r1, b1⟩
 obtain ⟨s1, A1, n1, c1, rfl⟩ := r1.form
 have k1 := z1.next b1
 go_wp2_with (with_reducible refine wpList_store_z rfl _ _ rfl (w.heap.size + 1) _ _ _ _ rfl rfl _ _ k1 ?_; intro w3 k3 ho3)
 refine bodyPost_z rfl rfl k3 rfl ?_
 exact ⟨_, rfl, r1.only k1 ho3, zback (z2.next b1) (by omega) ho3⟩
/-- A term of a number alone. -/
theorem TRes.number {w w' : World} {v : Value} {s : Bool} {B : Option Addr} {m d : Nat} {K : Int} {k : Nat} (h : ZRes w (.agg #[.bool s, .slice B m d]) K k) : TRes w (.agg #[.slice none 0 0, .bool s, .slice B m d]) [] K k :=
 ⟨none, 0, 0, s, B, m, d, rfl, PRes.nil _ _ _, Nat.le_refl _, by omega, h⟩
theorem number_t (v : Value) (Z : Int) (k : Nat) (w : World) (hv : ZIn w v Z k) (hk : k ≤ 1099511627776) : Calls Tryz.prog 48 #[v] w (TPost [] Z k w) := by
 have hv0 := hv
 obtain ⟨s, A, n, c, xs, rfl, -⟩ := hv
 obtain ⟨z0, z1, z2, -⟩ := bstart2 26 28 w #[.bool s, .slice A n c] #[.slice none 0 0, .bool false, .slice none 0 0]
 have hf := copied_z _ Z k _ (hv0.below z2) hk
 have c0 := Blk.c0 z0
 have c1 := Blk.c1 z0
 go_enter Tryz.func48, Tryz.ntmps48
 go_wp2_with fail
 refine hf.mono ?_
 rintro e w1 ⟨v1, rfl, r1, b1⟩
 obtain ⟨s1, A1, n1, c1, rfl⟩ := r1.form
 have k1 := z1.next b1
 go_wp2_with (with_reducible refine wpList_store_t rfl _ _ rfl (w.heap.size + 1) _ _ _ _ _ _ _ rfl rfl _ _ _ k1 ?_; intro w3 k3 ho3)
 refine bodyPost_t rfl rfl k3 rfl ?_
 exact ⟨_, rfl, (TRes.number r1 (w' := w) (v := undef)).only k1 ho3, zback (z2.next b1) (by omega) ho3⟩
/-- The closure of plain that asks whether a coefficient is 0. -/
theorem plain2_any (q : PV) (k : Nat) (w : World) (hz : ZIn w q.num q.Z k) (hk : k ≤ 1099511627776) : Calls Tryz.prog 137 #[q.agg] w (fun e w' => e = .returned (.bool (decide (q.Z = 0))) ∧ Below w.heap.size w w') := by
 obtain ⟨x, s, B, m, d, Z⟩ := q
 obtain ⟨z0, z1, -⟩ := bstart1 60 w #[.int .i64 x, .bool s, .slice B m d]
 have hs := sign_z _ Z k _ (hz.below z1) hk
 unfold SignPost at hs
 have c1 := z0.c1
 have c2 := z0.c2
 unfold PV.num at hs
 dsimp only at hs
 show Calls _ _ #[.agg #[.int .i64 x, .bool s, .slice B m d]] _ _
 by_cases h0 : Z = 0
 · subst h0
   rw [show Int.sign 0 = 0 from rfl] at hs
   rw [show decide ((0 : Int) = 0) = true from rfl]
   go_enter Tryz.func137, Tryz.ntmps137
   go_wp2_with fail
   refine hs.mono ?_
   rintro e w1 ⟨rfl, b1⟩
   go_wp2_with fail
   go_ret
   exact ⟨rfl, z1.next b1⟩
 · have h1 : (Z.sign == 0) = false := sgn_ne h0
   have h2 : decide (Z = 0) = false := by simpa using h0
   dsimp only
   rw [h2]
   generalize Z.sign = q at *
   clear h0 h2
   go_enter Tryz.func137, Tryz.ntmps137
   go_wp2_with fail
   refine hs.mono ?_
   rintro e w1 ⟨rfl, b1⟩
   go_wp2_with fail
   go_ret
   exact ⟨rfl, z1.next b1⟩
/-- The closure of Scale. -/
theorem scale1_any (v u : Value) (N Z : Int) (g j k : Nat) (w : World) (hb : ∃ s A n c, v = .agg #[.bool s, .slice A n c] ∧ Blk w g #[.bool s, .slice A n c]) (hv : ZIn w v N j) (hu : ZIn w u Z k) (hk : k ≤ 137438953472) (hj : j ≤ 137438953472) :
  Calls Tryz.prog 158 #[u, .pointer (some ⟨g, 0, none⟩)] w (ZPost (N * Z) (j + k) w) := by
 obtain ⟨s, A, n, c, rfl, hb⟩ := hb
 have hu0 := hu
 obtain ⟨t, B, m, d, ys, rfl, -⟩ := hu
 obtain ⟨z0, z1, z2, -⟩ := zstart2 w #[.bool t, .slice B m d] #[.bool false, .slice none 0 0]
 have hf := mul_z _ _ N Z j k _ (hv.below z2) (hu0.below z2) hj hk
 have q := hb.next z2
 have c0 := z0.c0
 have c1 := z0.c1
 have d0 := q.c0
 have d1 := q.c1
 go_enter Tryz.func158, Tryz.ntmps158
 go_wp2_with fail
 refine hf.mono ?_
 rintro e w1 ⟨v1, rfl, r1, b1⟩
 obtain ⟨s1, A1, n1, c1, rfl⟩ := r1.form
 have k1 := z1.next b1
 go_wp2_with (with_reducible refine wpList_store_z rfl _ _ rfl (w.heap.size + 1) _ _ _ _ rfl rfl _ _ k1 ?_; intro w3 k3 ho3)
 refine bodyPost_z rfl rfl k3 rfl ?_
 exact ⟨_, rfl, r1.only k1 ho3, zback (z2.next b1) (by omega) ho3⟩
end Go.Proofs.YtdeakieenppmiaaGreatDoor
/- slices.SortFunc over parts: the library's own contract, laid at this program. -/
namespace Go.Proofs.YtdeakieenppmiaaGreatDoor
open Go.Shelf
def Tryz.sortPart_ren : Go.Shelf.Ren := ⟨fun | 6 => 134 | 15 => 103 | 14 => 168 | 28 => 120 | 29 => 153 | 20 => 193 | 21 => 194 | 22 => 195 | 23 => 196 | 24 => 197 | 25 => 198 | 26 => 199 | 27 => 200 | 46 => 212 | 47 => 181 | 48 => 182 | 49 => 213 | 50 => 214 | 57 => 222 | n => n, fun | 22 => 22 | 24 => 60 | 25 => 114 | 3 => 3 | 39 => 120 | 0 => 0 | 53 => 92 | 55 => 110 | 4 => 4 | 46 => 158 | 45 => 157 | 50 => 137 | 5 => 5 | 9 => 9 | 66 => 181 | 70 => 185 | 76 => 202 | 77 => 203 | n => n, fun | n => n⟩
theorem Tryz.sortPart : Go.Proofs.SlLaysF0.n6 Tryz.prog Tryz.sortPart_ren := {
 mixed := by kernel_rfl
 f6 := ⟨Tryz.f134.name, by decide, Tryz.func134.trans (congrArg some (by kernel_rfl))⟩
 f14 := ⟨Tryz.f168.name, by decide, Tryz.func168.trans (congrArg some (by kernel_rfl))⟩
 f15 := Tryz.func103.trans (congrArg some (by kernel_rfl))
 f20 := ⟨Tryz.f193.name, by decide, Tryz.func193.trans (congrArg some (by kernel_rfl))⟩
 f21 := ⟨Tryz.f194.name, by decide, Tryz.func194.trans (congrArg some (by kernel_rfl))⟩
 f22 := ⟨Tryz.f195.name, by decide, Tryz.func195.trans (congrArg some (by kernel_rfl))⟩
 f23 := ⟨Tryz.f196.name, by decide, Tryz.func196.trans (congrArg some (by kernel_rfl))⟩
 f24 := ⟨Tryz.f197.name, by decide, Tryz.func197.trans (congrArg some (by kernel_rfl))⟩
 f25 := ⟨Tryz.f198.name, by decide, Tryz.func198.trans (congrArg some (by kernel_rfl))⟩
 f26 := ⟨Tryz.f199.name, by decide, Tryz.func199.trans (congrArg some (by kernel_rfl))⟩
 f27 := ⟨Tryz.f200.name, by decide, Tryz.func200.trans (congrArg some (by kernel_rfl))⟩
 f28 := Tryz.func120.trans (congrArg some (by kernel_rfl))
 f29 := Tryz.func153.trans (congrArg some (by kernel_rfl))
 f46 := ⟨Tryz.f212.name, by decide, Tryz.func212.trans (congrArg some (by kernel_rfl))⟩
 f47 := Tryz.func181.trans (congrArg some (by kernel_rfl))
 f48 := Tryz.func182.trans (congrArg some (by kernel_rfl))
 f49 := ⟨Tryz.f213.name, by decide, Tryz.func213.trans (congrArg some (by kernel_rfl))⟩
 f50 := ⟨Tryz.f214.name, by decide, Tryz.func214.trans (congrArg some (by kernel_rfl))⟩
 f57 := ⟨Tryz.f222.name, by decide, Tryz.func222.trans (congrArg some (by kernel_rfl))⟩
 t0 := Tryz.underlying0
 a0 := Tryz.isAgg0
 z0 := Tryz.sizeOf0
 v0 := Tryz.zeroValue0
 t3 := Tryz.underlying3
 a3 := Tryz.isAgg3
 z3 := Tryz.sizeOf3
 v3 := Tryz.zeroValue3
 t4 := Tryz.underlying4
 a4 := Tryz.isAgg4
 z4 := Tryz.sizeOf4
 v4 := Tryz.zeroValue4
 t5 := Tryz.underlying5
 a5 := Tryz.isAgg5
 z5 := Tryz.sizeOf5
 v5 := Tryz.zeroValue5
 t9 := Tryz.underlying9
 a9 := Tryz.isAgg9
 z9 := Tryz.sizeOf9
 v9 := Tryz.zeroValue9
 t22 := Tryz.underlying22
 a22 := Tryz.isAgg22
 z22 := Tryz.sizeOf22
 v22 := Tryz.zeroValue22
 t25 := Tryz.underlying114
 a25 := Tryz.isAgg114
 z25 := Tryz.sizeOf114
 v25 := Tryz.zeroValue114
 t39 := Tryz.underlying120
 a39 := Tryz.isAgg120
 z39 := Tryz.sizeOf120
 v39 := Tryz.zeroValue120
 t45 := Tryz.underlying157
 a45 := Tryz.isAgg157
 z45 := Tryz.sizeOf157
 v45 := Tryz.zeroValue157
 t46 := Tryz.underlying158
 a46 := Tryz.isAgg158
 z46 := Tryz.sizeOf158
 v46 := Tryz.zeroValue158
 t50 := Tryz.underlying137
 a50 := Tryz.isAgg137
 z50 := Tryz.sizeOf137
 v50 := Tryz.zeroValue137
 t53 := Tryz.underlying92
 a53 := Tryz.isAgg92
 z53 := Tryz.sizeOf92
 v53 := Tryz.zeroValue92
 t55 := Tryz.underlying110
 a55 := Tryz.isAgg110
 z55 := Tryz.sizeOf110
 v55 := Tryz.zeroValue110
 t66 := Tryz.underlying181
 a66 := Tryz.isAgg181
 z66 := Tryz.sizeOf181
 v66 := Tryz.zeroValue181
 t70 := Tryz.underlying185
 a70 := Tryz.isAgg185
 z70 := Tryz.sizeOf185
 v70 := Tryz.zeroValue185
 t76 := Tryz.underlying202
 a76 := Tryz.isAgg202
 z76 := Tryz.sizeOf202
 v76 := Tryz.zeroValue202
 t77 := Tryz.underlying203
 a77 := Tryz.isAgg203
 z77 := Tryz.sizeOf203
 v77 := Tryz.zeroValue203 }
end Go.Proofs.YtdeakieenppmiaaGreatDoor
/- term.arePlain; cmp.Compare over int; the closure by which plain sorts. -/
namespace Go.Proofs.YtdeakieenppmiaaGreatDoor
open Go.RowKit
open Tm

def risingB : Int → List (Int × Int) → Bool
 | _, [] => true
 | b, (u, c) :: ps => decide (b < u) && (decide (c ≠ 0) && risingB u ps)
theorem risingB_iff (b : Int) (ps : List (Int × Int)) : risingB b ps = true ↔ Rising b ps := by
 induction ps generalizing b with
 | nil => simp [risingB, Rising]
 | cons p ps ih =>
  obtain ⟨u, c⟩ := p
  simp [risingB, Rising, ih]
theorem drop_cons {α : Type} {l : List α} {i : Nat} {x : α} (h : l[i]? = some x) : l.drop i = x :: l.drop (i + 1) := by
 obtain ⟨hlt, rfl⟩ := List.getElem?_eq_some_iff.1 h
 exact List.drop_eq_getElem_cons hlt
theorem lin_get {ps : List PV} {i : Nat} {p : PV} (h : ps[i]? = some p) : (lin ps)[i]? = some (p.v, p.Z) := by
 unfold lin
 rw [List.getElem?_map, h]
 rfl
def BoolB (b : Bool) (w : World) (e : Ending) (w' : World) : Prop := e = .returned (.bool b) ∧ Below w.heap.size w w'
/-- Where part i of a slice of parts lies. -/
theorem PIn.at_ {w : World} {A : Option Addr} {n k i : Nat} {L : List (Int × Int)} (h : PIn w A n L k) (hi : i < n) : ∃ (b o : Nat) (p : PV), A = some ⟨b, o, none⟩ ∧ b < w.heap.size ∧ L[i]? = some (p.v, p.Z) ∧ w.cell? ⟨b, o + i * 3, none⟩ = some (.int .i64 p.v) ∧ w.cell? ⟨b, o + i * 3 + 1, none⟩ = some (.bool p.s) ∧ w.cell? ⟨b, o + i * 3 + 2, none⟩ = some (.slice p.B p.m p.d) ∧ ZIn w p.num p.Z k := by
 obtain ⟨ps, h1, rfl⟩ := h
 obtain ⟨b, o, p, e, hp, c0, c1, c2, hz⟩ := h1.at_ hi
 have e0 : o + 3 * i = o + i * 3 := by omega
 have e1 : o + (3 * i + 1) = o + i * 3 + 1 := by omega
 have e2 : o + (3 * i + 2) = o + i * 3 + 2 := by omega
 rw [e0] at c0
 rw [e1] at c1
 rw [e2] at c2
 exact ⟨b, o, p, e, World.block_lt_of_cell? w _ c0, lin_get hp, c0, c1, c2, hz⟩
theorem arePlain_any (A : Option Addr) (n c : Nat) (L : List (Int × Int)) (k : Nat) (w : World) (hx : PIn w A n L k) (hm : n ≤ 9223372036854775807) (hk : k ≤ 1099511627776) :
  Calls Tryz.prog 132 #[.slice A n c] w (BoolB (risingB (-1) L) w) := by
 have hlen := hide hx.len
 go_enter Tryz.func132, Tryz.ntmps132
 go_wp2_with fail
 go_loopw [3, 8] (fun l i wr => ∃ (q : Nat) (b : Int), q ≤ n ∧ i = .int .i64 q ∧ l = .int .i64 b ∧ Hid (risingB (-1) L = risingB b (L.drop q)) ∧ Below w.heap.size w wr) (fun _ i _ => n - (intOf i).toNat)
 case atStart => exact ⟨0, -1, Nat.zero_le _, rfl, rfl, Lib.hid (by rw [List.drop_zero]), Below.refl _ _⟩
 case round =>
  obtain ⟨q, b, hq, rfl, rfl, HR, hb⟩ := hrel
  by_cases hqn : q < n
  · obtain ⟨bb, o, p, rfl, hlt, hL, c0, c1, c2, hz⟩ := (hx.below hb).at_ hqn
    obtain ⟨v, s, B, m, d, Z⟩ := p
    dsimp only at hL c0 c1 c2
    have hD := hide (drop_cons hL)
    clear hL
    obtain ⟨z0, z1, -⟩ := bstart1 60 wr #[.int .i64 v, .bool s, .slice B m d]
    have x0 := z0.c0
    have x1 := z0.c1
    have x2 := z0.c2
    by_cases hvb : v ≤ b
    · have HF := hide (show risingB b ((v, Z) :: L.drop (q + 1)) = false by simp [risingB]; omega)
      have hd : decide (v ≤ b) = true := by simpa using hvb
      go_wp2_with fail
      go_ret
      exact ⟨by rw [HR.out, hD.out, HF.out]; rfl, hb.next z1⟩
    · have hd : decide (v ≤ b) = false := by simpa using hvb
      have hs := sign_z _ Z k _ (hz.below z1) hk
      unfold SignPost PV.num at hs
      dsimp only at hs
      by_cases h0 : Z = 0
      · subst h0
        rw [show Int.sign 0 = 0 from rfl] at hs
        have HF := hide (show risingB b ((v, 0) :: L.drop (q + 1)) = false by simp [risingB])
        go_wp2_with fail
        refine hs.mono ?_
        rintro e w1 ⟨rfl, b1⟩
        go_wp2_with fail
        go_ret
        exact ⟨by rw [HR.out, hD.out, HF.out]; rfl, (hb.next z1).next b1⟩
      · have h1 : (Z.sign == 0) = false := sgn_ne h0
        have HT := hide (show risingB b ((v, Z) :: L.drop (q + 1)) = risingB v (L.drop (q + 1)) by simp [risingB, h0]; omega)
        generalize Z.sign = sg at *
        clear h0
        go_wp2_with fail
        refine hs.mono ?_
        rintro e w1 ⟨rfl, b1⟩
        have y0 := (z0.next b1).c0
        go_wp2_with fail
        go_roundw
        case rel => exact ⟨q + 1, v, by omega, by go_num, rfl, Lib.hid (by rw [HR.out, hD.out, HT.out]), (hb.next z1).next b1⟩
        case measure => simp [intOf] <;> omega
  · have HT := hide (show risingB b (L.drop q) = true by rw [List.drop_of_length_le (by have := hlen.out; omega)]; rfl)
    go_wp2_with fail
    go_ret
    exact ⟨by rw [HR.out, HT.out]; rfl, hb⟩

theorem isNaN_any (x : Int) (w : World) : Calls Tryz.prog 138 #[.int .i64 x] w (fun e w' => e = .returned (.bool false) ∧ w' = w) := by
 have h : (x != x) = false := by simp
 go_enter Tryz.func138, Tryz.ntmps138
 go_wp2_with fail
 go_ret
 exact ⟨rfl, rfl⟩
theorem compare_any (x y : Int) (w : World) : Calls Tryz.prog 95 #[.int .i64 x, .int .i64 y] w (fun e w' => e = .returned (.int .i64 (cmpZ x y)) ∧ w' = w) := by
 rcases Int.lt_trichotomy x y with h | h | h
 · have H := hide (show cmpZ x y = -1 by unfold cmpZ; rw [if_pos h])
   go_enter Tryz.func95, Tryz.ntmps95
   go_wp2_with (go_at_call 138; refine (isNaN_any _ _).mono ?_; rintro e w' ⟨rfl, rfl⟩)
   go_ret
   exact ⟨by rw [H.out]; rfl, rfl⟩
 · have H := hide (show cmpZ x y = 0 by unfold cmpZ; rw [if_neg (by omega), if_neg (by omega)])
   have h1 : ¬ x < y := by omega
   have h2 : ¬ y < x := by omega
   clear h
   go_enter Tryz.func95, Tryz.ntmps95
   go_wp2_with (go_at_call 138; refine (isNaN_any _ _).mono ?_; rintro e w' ⟨rfl, rfl⟩)
   go_ret
   exact ⟨by rw [H.out]; rfl, rfl⟩
 · have H := hide (show cmpZ x y = 1 by unfold cmpZ; rw [if_neg (by omega), if_pos h])
   have h1 : ¬ x < y := by omega
   go_enter Tryz.func95, Tryz.ntmps95
   go_wp2_with (go_at_call 138; refine (isNaN_any _ _).mono ?_; rintro e w' ⟨rfl, rfl⟩)
   go_ret
   exact ⟨by rw [H.out]; rfl, rfl⟩
open Go.Shelf Go.Lib Go.Sort in
theorem plain1_any (x y : PV) (W : World) : Calls Tryz.prog 135 #[x.agg, y.agg] W (fun e w' => e = .returned (.int .i64 (cmpZ x.v y.v)) ∧ ∃ q os', w' = grow (W.drewN q) os') := by
 obtain ⟨xv, xs, xB, xm, xd, xZ⟩ := x
 obtain ⟨yv, ys, yB, ym, yd, yZ⟩ := y
 obtain ⟨z0, z1, -, -⟩ := bstart2 60 60 W #[.int .i64 xv, .bool xs, .slice xB xm xd] #[.int .i64 yv, .bool ys, .slice yB ym yd]
 have x0 := z0.c0
 have y0 := z1.c0
 show Calls _ _ #[.agg #[.int .i64 xv, .bool xs, .slice xB xm xd], .agg #[.int .i64 yv, .bool ys, .slice yB ym yd]] _ _
 dsimp only
 go_enter Tryz.func135, Tryz.ntmps135
 go_wp2_with (go_at_call 95; refine (compare_any _ _ _).mono ?_; rintro e w' ⟨rfl, rfl⟩)
 go_ret
 exact ⟨rfl, 0, _, by rw [alloc_eq_grow, alloc_eq_grow, grow_grow]; rfl⟩
end Go.Proofs.YtdeakieenppmiaaGreatDoor
