/- zint.Of; plumblineref02.Of; the statements' is. -/
import Derived.Test.YtpocaopiaggbmaaRefZB
namespace Go.Proofs.Ytpocaopiaggbmaa
open Go.RowKit
open Limb (limb limb_lt upto upto_succ upto_all upto_zero)

theorem wrapU (n : Int) : IntKind.u64.wrap n = n % 18446744073709551616 := by simp [IntKind.wrap, IntKind.bits, IntKind.signed]
set_option maxHeartbeats 1000000 in
theorem of_z (n : Int) (w : World) (h1 : -9223372036854775808 ≤ n) (h2 : n ≤ 9223372036854775807) : Calls Try.prog 53 #[.int .i64 n] w (ZPost n 2 w) := by
  obtain ⟨z1, z2, -⟩ := zstart1 w #[.bool false, .slice none 0 0]
  have hl : n.natAbs < 18446744073709551616 := by omega
  by_cases hn : n < 0
  · have hE := hide (show sg true n.natAbs = n by rw [sg_true]; omega)
    have hd : decide (n < 0) = true := decide_eq_true hn
    go_enter Try.func53, Try.ntmps53
    go_wp2_with fail
    refine (of_int _ n.natAbs _ (by rw [wrapU, wrapU]; omega) (by omega)).mono ?_
    rintro e w1 ⟨A1, n1, rfl, o1, b1⟩
    have hn1 := own_c o1
    go_wp2_with fail
    refine (signed_any true A1 n1 n1 _ w1 o1.len (by omega)).mono ?_
    rintro e w2 ⟨rfl, b2⟩
    have r2 := (zres_own (s := true) (k := 2) o1 (by omega)).below b2
    rw [hE.out, hd] at r2
    rw [hE.out, hd]
    have k2 := (z1.next b1).next b2
    go_wp2_with (with_reducible refine wpList_store_z rfl _ _ rfl w.heap.size _ _ _ _ rfl rfl _ _ k2 ?_; intro w3 k3 ho3)
    refine bodyPost_z rfl rfl k3 rfl ?_
    exact ⟨_, rfl, r2.only k2 ho3, zback ((z2.next b1).next b2) (Nat.le_refl _) ho3⟩
  · have hE := hide (show sg false n.natAbs = n by rw [sg_false]; omega)
    have hd : decide (n < 0) = false := decide_eq_false hn
    go_enter Try.func53, Try.ntmps53
    go_wp2_with fail
    refine (of_int _ n.natAbs _ (by omega) (by omega)).mono ?_
    rintro e w1 ⟨A1, n1, rfl, o1, b1⟩
    have hn1 := own_c o1
    go_wp2_with fail
    refine (signed_any false A1 n1 n1 _ w1 o1.len (by omega)).mono ?_
    rintro e w2 ⟨rfl, b2⟩
    have r2 := (zres_own (s := false) (k := 2) o1 (by omega)).below b2
    rw [hE.out, hd] at r2
    rw [hE.out, hd]
    have k2 := (z1.next b1).next b2
    go_wp2_with (with_reducible refine wpList_store_z rfl _ _ rfl w.heap.size _ _ _ _ rfl rfl _ _ k2 ?_; intro w3 k3 ho3)
    refine bodyPost_z rfl rfl k3 rfl ?_
    exact ⟨_, rfl, r2.only k2 ho3, zback ((z2.next b1).next b2) (Nat.le_refl _) ho3⟩

theorem nums_two (w : World) (x y : Nat) (us : Array Value) (hus : us = (u32s [x, y]).toArray) (h : x < 4294967296) (hy : y < 4294967296) : Nums (w.alloc (.cells us 73)) (some ⟨w.heap.size, 0, none⟩) 2 [x, y] :=
  Nums.new w [x, y] us hus (Limb.Ok.cons h (Limb.Ok.cons hy Limb.Ok.nil)) 2 rfl
set_option maxHeartbeats 1000000 in
theorem rof_z (n : Int) (w : World) (h1 : -9223372036854775808 ≤ n) (h2 : n ≤ 9223372036854775807) : Calls Try.prog 54 #[.int .i64 n] w (ZPost n 2 w) := by
  obtain ⟨z1, z2, z3⟩ := zstart1 w #[.bool false, .slice none 0 0]
  by_cases hn : n < 0
  · obtain ⟨m, rfl⟩ : ∃ m : Nat, n = -(m : Int) - 1 := ⟨(-n - 1).toNat, by omega⟩
    have hm : m ≤ 9223372036854775807 := by omega
    have e1 : -(m : Int) - 1 + 1 = -(m : Int) := by omega
    have e2 : 0 - -(m : Int) = (m : Int) := by omega
    clear h1 h2
    have hx := nums_two (w.alloc (.cells #[.bool false, .slice none 0 0] 42)) (m % 4294967296) (m / 4294967296) #[.int .u32 ((m : Int) % 4294967296), .int .u32 ((m : Int) / 4294967296)] (by simp [u32s]) (by omega) (by omega)
    have t2 := bl_alloc (w.alloc (.cells #[.bool false, .slice none 0 0] 42)) (.cells #[.int .u32 ((m : Int) % 4294967296), .int .u32 ((m : Int) / 4294967296)] 73)
    have s2 := size_alloc (w.alloc (.cells #[.bool false, .slice none 0 0] 42)) (.cells #[.int .u32 ((m : Int) % 4294967296), .int .u32 ((m : Int) / 4294967296)] 73)
    rw [z3] at hx s2
    have hv := hide (show Limb.val [m % 4294967296, m / 4294967296] = m by simp [Limb.val]; omega)
    have hy := lit1 ((w.alloc (.cells #[.bool false, .slice none 0 0] 42)).alloc (.cells #[.int .u32 ((m : Int) % 4294967296), .int .u32 ((m : Int) / 4294967296)] 73)) 1 1 #[.int .u32 1] rfl (by omega) (by omega) rfl
    have t3 := bl_alloc ((w.alloc (.cells #[.bool false, .slice none 0 0] 42)).alloc (.cells #[.int .u32 ((m : Int) % 4294967296), .int .u32 ((m : Int) / 4294967296)] 73)) (.cells #[.int .u32 1] 73)
    rw [s2] at hy
    have T := (z2.next t2).next t3
    have K := (z1.next t2).next t3
    have X := hx.below t3
    have hE := hide (show sg true (m + 1) = -(m : Int) - 1 by rw [sg_true]; omega)
    clear hx t2 t3 s2 z3
    go_enter Try.func54, Try.ntmps54
    go_wp2_with fail
    refine (radd_any _ _ 2 2 1 1 _ _ _ X hy (by omega) (by omega)).mono ?_
    rintro e w1 ⟨A1, n1, c1, rfl, o1, l1, m1, b1⟩
    rw [hv.out, Limb.val_canon] at o1
    have ln1 : n1 ≤ 2 := short_canon o1 (by omega)
    go_wp2_with fail
    refine (rfrom_any true A1 n1 c1 2 _ w1 o1 ln1 (by omega)).mono ?_
    rintro e w2 ⟨v2, rfl, r2, b2⟩
    rw [Limb.val_canon, hE.out] at r2
    obtain ⟨s2, A2, n2, c2, rfl⟩ := r2.form
    have k2 := (K.next b1).next b2
    go_wp2_with (with_reducible refine wpList_store_z rfl _ _ rfl w.heap.size _ _ _ _ rfl rfl _ _ k2 ?_; intro w3 k3 ho3)
    refine bodyPost_z rfl rfl k3 rfl ?_
    exact ⟨_, rfl, r2.only k2 ho3, zback ((T.next b1).next b2) (Nat.le_refl _) ho3⟩
  · obtain ⟨m, rfl⟩ := Int.eq_ofNat_of_zero_le (show 0 ≤ n by omega)
    clear hn h1
    have hx := nums_two (w.alloc (.cells #[.bool false, .slice none 0 0] 42)) (m % 4294967296) (m / 4294967296) #[.int .u32 ((m : Int) % 4294967296), .int .u32 ((m : Int) / 4294967296)] (by simp [u32s]) (by omega) (by omega)
    have t2 := bl_alloc (w.alloc (.cells #[.bool false, .slice none 0 0] 42)) (.cells #[.int .u32 ((m : Int) % 4294967296), .int .u32 ((m : Int) / 4294967296)] 73)
    rw [z3] at hx
    have hv := hide (show Limb.val [m % 4294967296, m / 4294967296] = m by simp [Limb.val]; omega)
    have hf := rfrom_any false _ 2 2 2 _ _ hx (by omega) (by omega)
    rw [hv.out, sg_false] at hf
    have K := z1.next t2
    have T := z2.next t2
    clear hx t2 z3 hv
    go_enter Try.func54, Try.ntmps54
    go_wp2_with fail
    refine hf.mono ?_
    rintro e w2 ⟨v2, rfl, r2, b2⟩
    obtain ⟨s2, A2, n2, c2, rfl⟩ := r2.form
    have k2 := K.next b2
    go_wp2_with (with_reducible refine wpList_store_z rfl _ _ rfl w.heap.size _ _ _ _ rfl rfl _ _ k2 ?_; intro w3 k3 ho3)
    refine bodyPost_z rfl rfl k3 rfl ?_
    exact ⟨_, rfl, r2.only k2 ho3, zback (T.next b2) (Nat.le_refl _) ho3⟩

set_option maxHeartbeats 1000000 in
theorem is_yes (v : Value) (Z : Int) (k : Nat) (w : World) (hv : ZRes w v Z k) (hk : k ≤ 1099511627776) (h1 : -9223372036854775808 ≤ Z) (h2 : Z ≤ 9223372036854775807) : Calls Try.prog 77 #[v, .int .i64 Z] w (YesPost w) := by
  have hv0 := hv
  obtain ⟨s, A, n, c, rfl⟩ := hv.form
  obtain ⟨x0, z2, -⟩ := zstart1 w #[.bool s, .slice A n c]
  go_enter Try.func77, Try.ntmps77
  go_wp2_with fail
  go_region_held3 (fun w' => w'.cell? ⟨w.heap.size, 0, none⟩ = some (.bool s) ∧ w'.cell? ⟨w.heap.size, 1, none⟩ = some (.slice A n c))
    (first | exact ⟨x0.drew.c0, x0.drew.c1⟩ | exact ⟨x1.c0, x1.c1⟩ | exact ⟨x2.c0, x2.c1⟩)
    (first
      | (go_at_call 54; (with_reducible refine (rof_z Z _ h1 h2).mono ?_); rintro e w1 ⟨v1, rfl, r1, b1⟩; have t1 := z2.drew.next b1; have x1 := x0.drew.next b1)
      | (go_at_call 35; (with_reducible refine (z2same_yes _ _ Z k 2 w1 (hv0.below t1) r1 hk).mono ?_); rintro e w2 ⟨rfl, b2⟩; have x2 := x1.next b2))
  go_wp2_with fail
  go_ret
  exact ⟨rfl, t1.next b2⟩
end Go.Proofs.Ytpocaopiaggbmaa
