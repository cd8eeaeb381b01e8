/- Texts of one seat, put together: RefA Of Alive1 Mul. -/
import Derived.Test.YtdeakieenppmiaaGreatDoorC04
set_option linter.unusedVariables false
set_option linter.unusedSimpArgs false
set_option maxRecDepth 100000
set_option maxHeartbeats 16000000
/- plumblineref01: Add, Sub, small. -/
namespace Go.Proofs.YtdeakieenppmiaaGreatDoor
open Go.RowKit
open Limb (limb limb_lt upto upto_succ upto_all upto_zero)

def AddTo (xs ys os : List Nat) (k z : Nat) : Prop := os.length = k ∧ Limb.val os + 4294967296 ^ k * z = upto xs k + upto ys k
theorem AddTo.step {xs ys os : List Nat} {k z : Nat} (h : AddTo xs ys os k z) : AddTo xs ys (os ++ [(limb xs k + limb ys k + z) % 4294967296]) (k + 1) ((limb xs k + limb ys k + z) / 4294967296) := by
 obtain ⟨hl, hv⟩ := h
 refine ⟨by simp [hl], ?_⟩
 rw [Limb.val_append, hl, upto_succ, upto_succ]
 have e : Limb.val [(limb xs k + limb ys k + z) % 4294967296] = (limb xs k + limb ys k + z) % 4294967296 := by simp [Limb.val]
 rw [e, Nat.pow_succ, Nat.mul_assoc]
 have e2 : 4294967296 ^ k * ((limb xs k + limb ys k + z) % 4294967296) + 4294967296 ^ k * (4294967296 * ((limb xs k + limb ys k + z) / 4294967296)) = 4294967296 ^ k * limb xs k + 4294967296 ^ k * limb ys k + 4294967296 ^ k * z := by
  rw [← Nat.mul_add, ← Nat.mul_add, ← Nat.mul_add]
  congr 1
  omega
 omega
theorem AddTo.done {xs ys os : List Nat} {k z : Nat} (h : AddTo xs ys os k z) (hx : Limb.Ok xs) (hy : Limb.Ok ys) (h1 : xs.length + 1 ≤ k) (h2 : ys.length + 1 ≤ k) : Limb.val os = Limb.val xs + Limb.val ys := by
 obtain ⟨hl, hv⟩ := h
 rw [upto_all xs k (by omega), upto_all ys k (by omega)] at hv
 obtain ⟨j, rfl⟩ : ∃ j, k = j + 1 := ⟨k - 1, by omega⟩
 have b1 := Nat.lt_of_lt_of_le (Limb.val_lt xs hx) (Limb.pow_mono (show xs.length ≤ j by omega))
 have b2 := Nat.lt_of_lt_of_le (Limb.val_lt ys hy) (Limb.pow_mono (show ys.length ≤ j by omega))
 refine Limb.carry_zero _ _ _ _ hv ?_
 rw [Nat.pow_succ]
 exact Limb.sum_lt _ _ _ b1 b2

theorem radd_any (A B : Option Addr) (n c m d : Nat) (xs ys : List Nat) (w : World) (hx : Nums w A n xs) (hy : Nums w B m ys) (hn : n ≤ 549755813888) (hm : m ≤ 549755813888) :
  Calls Tryz.prog 64 #[.slice A n c, .slice B m d] w (RefPost (Limb.val xs + Limb.val ys) w) := by
 obtain ⟨hm1, hm2, hm3⟩ := mx_le n m
 have hle : mx n m ≤ 549755813888 := by omega
 clear hm3
 go_enter Tryz.func64, Tryz.ntmps64
 go_wp2_with fail
 go_loopw [5, 6, 7] (fun v cz i wr => ∃ k z : Nat, ∃ os : List Nat, k ≤ mx n m + 1 ∧ z ≤ 1 ∧ i = .int .i64 (k : Int) ∧ cz = .int .u64 (z : Int) ∧ Lst wr w.heap.size v os ∧ Below w.heap.size w wr ∧ Hid (AddTo xs ys os k z)) (fun _ _ i _ => mx n m + 1 - (intOf i).toNat)
 case atStart => exact ⟨0, 0, [], Nat.zero_le _, Nat.zero_le _, rfl, rfl, Lst.empty w _ (Nat.le_refl _), (Below.refl _ _).alloc (Nat.le_refl _) _, ⟨rfl, by simp [Limb.val, upto]⟩⟩
 case round =>
  obtain ⟨k, z, os, hk, hz, rfl, rfl, hL, hB, HA⟩ := hrel
  have hol : os.length ≤ 4398046511104 := by rw [HA.out.1]; omega
  have hxk := limb_lt hx.ok k
  have hyk := limb_lt hy.ok k
  by_cases hkn : k ≤ mx n m
  · go_wp2_with fail
    refine (longer_any A B n c m d wr (by omega) (by omega)).mono ?_
    rintro e w' ⟨rfl, rfl⟩
    go_wp2_with fail
    refine (at_any A n c xs k wr (hx.below hB) (by omega)).mono ?_
    rintro e w' ⟨rfl, rfl⟩
    go_wp2_with fail
    refine (at_any B m d ys k wr (hy.below hB) (by omega)).mono ?_
    rintro e w' ⟨rfl, rfl⟩
    go_wp2_with (at_builtin; refine wpList_append_u32 _ rfl _ _ rfl w.heap.size _ _ rfl (hL.alloc _) _ ((limb xs k + limb ys k + z) % 4294967296) rfl (cell_new' _ _ _ _ (by omega)) (by omega) hol (by have := hB.size; simp; omega) ?_; intro v' w1 hL1 hB1)
    go_roundw
    case rel => exact ⟨k + 1, (limb xs k + limb ys k + z) / 4294967296, _, by omega, by omega, by go_num, by go_num, hL1, (hB.alloc hB.size _).trans hB1, HA.out.step⟩
    case measure => simp [intOf] <;> omega
  · go_wp2_with fail
    refine (longer_any A B n c m d wr (by omega) (by omega)).mono ?_
    rintro e w' ⟨rfl, rfl⟩
    obtain ⟨A1, c1, rfl, hN, hc1, hc2⟩ := hL.form
    have hv := HA.out.done hx.ok hy.ok (by rw [hx.len]; omega) (by rw [hy.len]; omega)
    have HV := Lib.hid hv
    have hol2 : os.length ≤ 1099511627776 := by rw [HA.out.1]; omega
    clear hL hv
    go_wp2_with fail
    refine (rtrim_any A1 _ c1 os wr hN hol2).mono ?_
    rintro e w2 ⟨A2, n2, c2, rfl, hN2, h1, h2, hB2⟩
    rw [HV.out] at hN2
    go_wp2_with fail
    go_ret
    exact ⟨A2, n2, c2, rfl, hN2, h1, h2, hB.trans (hB2.mono hB.size)⟩

/-! ### Sub -/
def SubTo (xs ys os : List Nat) (k z : Nat) : Prop := os.length = k ∧ Limb.val os + upto ys k = upto xs k + 4294967296 ^ k * z
theorem app_sub (v U X p s y z x c : Nat) (h : v + U = X + p * z) (hs : s + y + z = x + 4294967296 * c) : v + p * s + (U + p * y) = X + p * x + p * (4294967296 * c) := by
 have e : p * (s + y + z) = p * (x + 4294967296 * c) := by rw [hs]
 rw [Nat.mul_add, Nat.mul_add, Nat.mul_add] at e
 omega
theorem sub_limb (x y z : Nat) (hx : x < 4294967296) (hy : y < 4294967296) (hz : z ≤ 1) : (x + 4294967296 - y - z) % 4294967296 + y + z = x + 4294967296 * (1 - (x + 4294967296 - y - z) / 4294967296) := by omega
theorem SubTo.step {xs ys os : List Nat} {k z : Nat} (h : SubTo xs ys os k z) (s c : Nat) (hs : s + limb ys k + z = limb xs k + 4294967296 * c) : SubTo xs ys (os ++ [s]) (k + 1) c := by
 obtain ⟨hl, hv⟩ := h
 refine ⟨by simp [hl], ?_⟩
 have e : Limb.val [s] = s := by simp [Limb.val]
 rw [Limb.val_append, hl, upto_succ, upto_succ, e, Nat.pow_succ, Nat.mul_assoc]
 exact app_sub _ _ _ _ _ _ _ _ _ hv hs
theorem SubTo.done {xs ys os : List Nat} {k z : Nat} (h : SubTo xs ys os k z) (ho : Limb.Ok os) (h1 : xs.length ≤ k) (h2 : ys.length ≤ k) (hle : Limb.val ys ≤ Limb.val xs) : Limb.val os = Limb.val xs - Limb.val ys := by
 obtain ⟨hl, hv⟩ := h
 rw [upto_all xs k (by omega), upto_all ys k (by omega)] at hv
 have b1 := Limb.val_lt os ho
 rw [hl] at b1
 exact Limb.borrow_zero _ _ _ _ _ hv b1 hle

def RefSubNoPost (w : World) (e : Ending) (w' : World) : Prop := e = .returned (.tuple #[.slice none 0 0, .bool false]) ∧ w = w'
def RefSubYesPost (N : Nat) (w : World) (e : Ending) (w' : World) : Prop := ∃ A n c, e = .returned (.tuple #[.slice A n c, .bool true]) ∧ Nums w' A n (Limb.canon N) ∧ n ≤ c ∧ c ≤ 9223372036854775807 ∧ Below w.heap.size w w'

theorem rsub_no (A B : Option Addr) (n c m d : Nat) (xs ys : List Nat) (w : World) (hx : Nums w A n xs) (hy : Nums w B m ys) (hn : n ≤ 9223372036854775807) (hm : m ≤ 9223372036854775807) (hlt : Limb.val xs < Limb.val ys) :
  Calls Tryz.prog 126 #[.slice A n c, .slice B m d] w (RefSubNoPost w) := by
 have h0 := cmpN_lt hlt
 clear hlt
 go_enter Tryz.func126, Tryz.ntmps126
 go_wp2_with fail
 refine (rcmp_any A B n c m d xs ys w hx hy hn hm).mono ?_
 rintro e w' ⟨rfl, rfl⟩
 go_wp2_with fail
 go_ret2
 exact ⟨rfl, rfl⟩

theorem rsub_yes (A B : Option Addr) (n c m d : Nat) (xs ys : List Nat) (w : World) (hx : Nums w A n xs) (hy : Nums w B m ys) (hn : n ≤ 549755813888) (hm : m ≤ 549755813888) (hle : Limb.val ys ≤ Limb.val xs) :
  Calls Tryz.prog 126 #[.slice A n c, .slice B m d] w (RefSubYesPost (Limb.val xs - Limb.val ys) w) := by
 obtain ⟨hm1, hm2, hm3⟩ := mx_le n m
 have hlm : mx n m ≤ 549755813888 := by omega
 clear hm3
 have h0 := cmpN_ge hle
 have HLE := hide hle
 clear hle
 go_enter Tryz.func126, Tryz.ntmps126
 go_wp2_with fail
 refine (rcmp_any A B n c m d xs ys w hx hy (by omega) (by omega)).mono ?_
 rintro e w' ⟨rfl, rfl⟩
 go_wp2_with fail
 go_loopw [6, 7, 8] (fun v cz i wr => ∃ k z : Nat, ∃ os : List Nat, k ≤ mx n m ∧ z ≤ 1 ∧ i = .int .i64 (k : Int) ∧ cz = .int .u64 (z : Int) ∧ Lst wr w.heap.size v os ∧ Below w.heap.size w wr ∧ Hid (SubTo xs ys os k z)) (fun _ _ i _ => mx n m - (intOf i).toNat)
 case atStart => exact ⟨0, 0, [], Nat.zero_le _, Nat.zero_le _, rfl, rfl, Lst.empty w _ (Nat.le_refl _), (Below.refl _ _).alloc (Nat.le_refl _) _, ⟨rfl, by simp [Limb.val, upto]⟩⟩
 case round =>
  obtain ⟨k, z, os, hk, hz, rfl, rfl, hL, hB, HA⟩ := hrel
  have hol : os.length ≤ 4398046511104 := by rw [HA.out.1]; omega
  have hxk := limb_lt hx.ok k
  have hyk := limb_lt hy.ok k
  by_cases hkn : k < mx n m
  · go_wp2_with fail
    refine (longer_any A B n c m d wr (by omega) (by omega)).mono ?_
    rintro e w' ⟨rfl, rfl⟩
    go_wp2_with fail
    refine (at_any A n c xs k wr (hx.below hB) (by omega)).mono ?_
    rintro e w' ⟨rfl, rfl⟩
    go_wp2_with fail
    refine (at_any B m d ys k wr (hy.below hB) (by omega)).mono ?_
    rintro e w' ⟨rfl, rfl⟩
    go_wp2_with (at_builtin; refine wpList_append_u32 _ rfl _ _ rfl w.heap.size _ _ rfl (hL.alloc _) _ ((limb xs k + 4294967296 - limb ys k - z) % 4294967296) rfl (cell_new' _ _ _ _ (by omega)) (by omega) hol (by have := hB.size; simp; omega) ?_; intro v' w1 hL1 hB1)
    go_roundw
    case rel => exact ⟨k + 1, 1 - (limb xs k + 4294967296 - limb ys k - z) / 4294967296, _, by omega, by omega, by go_num, by go_num, hL1, (hB.alloc hB.size _).trans hB1, HA.out.step _ _ (sub_limb _ _ _ hxk hyk hz)⟩
    case measure => simp [intOf] <;> omega
  · go_wp2_with fail
    refine (longer_any A B n c m d wr (by omega) (by omega)).mono ?_
    rintro e w' ⟨rfl, rfl⟩
    obtain ⟨A1, c1, rfl, hN, hc1, hc2⟩ := hL.form
    have hv := HA.out.done hL.ok (by rw [hx.len]; omega) (by rw [hy.len]; omega) HLE.out
    have HV := Lib.hid hv
    have hol2 : os.length ≤ 1099511627776 := by rw [HA.out.1]; omega
    clear hL hv
    go_wp2_with fail
    refine (rtrim_any A1 _ c1 os wr hN hol2).mono ?_
    rintro e w2 ⟨A2, n2, c2, rfl, hN2, h1, h2, hB2⟩
    rw [HV.out] at hN2
    go_wp2_with fail
    go_ret2
    exact ⟨A2, n2, c2, rfl, hN2, h1, h2, hB.trans (hB2.mono hB.size)⟩

/-! ### small -/
def MulTo (xs os : List Nat) (m k z : Nat) : Prop := os.length = k ∧ Limb.val os + 4294967296 ^ k * z = upto xs k * m
theorem MulTo.step {xs os : List Nat} {m k z : Nat} (h : MulTo xs os m k z) : MulTo xs (os ++ [(limb xs k * m + z) % 4294967296]) m (k + 1) ((limb xs k * m + z) / 4294967296) := by
 obtain ⟨hl, hv⟩ := h
 refine ⟨by simp [hl], ?_⟩
 rw [Limb.val_append, hl, upto_succ, Nat.add_mul, ← hv]
 have e : Limb.val [(limb xs k * m + z) % 4294967296] = (limb xs k * m + z) % 4294967296 := by simp [Limb.val]
 rw [e, Nat.pow_succ, Nat.mul_assoc, Nat.mul_assoc]
 have e2 : 4294967296 ^ k * ((limb xs k * m + z) % 4294967296) + 4294967296 ^ k * (4294967296 * ((limb xs k * m + z) / 4294967296)) = 4294967296 ^ k * (limb xs k * m) + 4294967296 ^ k * z := by
  rw [← Nat.mul_add, ← Nat.mul_add]
  congr 1
  omega
 omega
theorem MulTo.done {xs os : List Nat} {m k z : Nat} (h : MulTo xs os m k z) (h1 : xs.length ≤ k) : Limb.val (os ++ [z]) = Limb.val xs * m := by
 obtain ⟨hl, hv⟩ := h
 rw [upto_all xs k h1] at hv
 rw [Limb.val_append, hl]
 have e : Limb.val [z] = z := by simp [Limb.val]
 rw [e]; exact hv

theorem prod_le (x m : Nat) (hx : x < 4294967296) (hm : m < 4294967296) : x * m ≤ 18446744065119617025 := by
 have := Nat.mul_le_mul (show x ≤ 4294967295 by omega) (show m ≤ 4294967295 by omega)
 omega
theorem prod_int (x m : Nat) (hx : x < 4294967296) (hm : m < 4294967296) : (x : Int) * (m : Int) ≤ 18446744065119617025 ∧ 0 ≤ (x : Int) * (m : Int) ∧ (x : Int) * (m : Int) = ((x * m : Nat) : Int) := by
 have h := prod_le x m hx hm
 rw [← Int.natCast_mul]
 omega

theorem small_any (A : Option Addr) (n c : Nat) (xs : List Nat) (m : Nat) (w : World) (hx : Nums w A n xs) (hn : n ≤ 549755813888) (hm : m < 4294967296) :
  Calls Tryz.prog 166 #[.slice A n c, .int .u64 (m : Int)] w (RefPost (Limb.val xs * m) w) := by
 go_enter Tryz.func166, Tryz.ntmps166
 go_wp2_with fail
 go_loopw [5, 6, 7] (fun v cz i wr => ∃ k z : Nat, ∃ os : List Nat, k ≤ n ∧ z < 4294967296 ∧ i = .int .i64 (k : Int) ∧ cz = .int .u64 (z : Int) ∧ Lst wr w.heap.size v os ∧ Below w.heap.size w wr ∧ Hid (MulTo xs os m k z)) (fun _ _ i _ => n - (intOf i).toNat)
 case atStart => exact ⟨0, 0, [], Nat.zero_le _, by omega, rfl, rfl, Lst.empty w _ (Nat.le_refl _), (Below.refl _ _).alloc (Nat.le_refl _) _, ⟨rfl, by simp [Limb.val, upto]⟩⟩
 case round =>
  obtain ⟨k, z, os, hk, hz, rfl, rfl, hL, hB, HA⟩ := hrel
  have hol : os.length ≤ 4398046511104 := by rw [HA.out.1]; omega
  have hxk := limb_lt hx.ok k
  by_cases hkn : k < n
  · have hpn := prod_le _ _ hxk hm
    obtain ⟨hp1, hp2, hp3⟩ := prod_int _ _ hxk hm
    have HP := Lib.hid hp3
    clear hp3
    go_wp2_with fail
    refine (at_any A n c xs k wr (hx.below hB) (by omega)).mono ?_
    rintro e w' ⟨rfl, rfl⟩
    go_wp2_with (at_builtin; refine wpList_append_u32 _ rfl _ _ rfl w.heap.size _ _ rfl (hL.alloc _) _ ((limb xs k * m + z) % 4294967296) rfl (cell_new' _ _ _ _ (by have := HP.out; omega)) (by omega) hol (by have := hB.size; simp; omega) ?_; intro v' w1 hL1 hB1)
    go_roundw
    case rel => exact ⟨k + 1, (limb xs k * m + z) / 4294967296, _, by omega, by omega, by go_num, by have := HP.out; congr 1 <;> omega, hL1, (hB.alloc hB.size _).trans hB1, HA.out.step⟩
    case measure => simp [intOf] <;> omega
  · have hv := HA.out.done (by rw [hx.len]; omega)
    have HV := Lib.hid hv
    have hol2 : os.length + 1 ≤ 1099511627776 := by rw [HA.out.1]; omega
    clear hv
    go_wp2_with (at_builtin; refine wpList_append_u32 _ rfl _ _ rfl w.heap.size _ _ rfl (hL.alloc _) _ z rfl (cell_new' _ _ _ _ (by omega)) hz hol (by have := hB.size; simp; omega) ?_; intro v' w1 hL1 hB1; obtain ⟨A1, c1, rfl, hN, hc1, hc2⟩ := hL1.form)
    refine (rtrim_any A1 (os.length + 1) c1 _ w1 (by simpa using hN) hol2).mono ?_
    rintro e w2 ⟨A2, n2, c2, rfl, hN2, h1, h2, hB2⟩
    rw [HV.out] at hN2
    go_wp2_with fail
    go_ret
    have hB3 : Below w.heap.size w w1 := (hB.alloc hB.size _).trans hB1
    exact ⟨A2, n2, c2, rfl, hN2, h1, h2, hB3.trans (hB2.mono hB3.size)⟩
end Go.Proofs.YtdeakieenppmiaaGreatDoor
/- nat.Of; the statements' own small calls. -/
namespace Go.Proofs.YtdeakieenppmiaaGreatDoor
open Go.RowKit

theorem Row.new (w : World) (zs : List Nat) (us : Array Value) (h : us = (u32s zs).toArray) : Row (w.alloc (.cells us 92)) w.heap.size zs := by
 unfold Row; rw [h]; exact heap_alloc_new w _

theorem of_any (N : Nat) (w : World) (h : N / 4294967296 < 4294967296) :
  Calls Tryz.prog 89 #[.int .u64 (N : Int)] w (CutPost N w) := by
 go_enter Tryz.func89, Tryz.ntmps89
 go_wp2_with fail
 have hr := Row.new w [N % 4294967296, N / 4294967296] #[.int .u32 ((N : Int) % 4294967296), .int .u32 ((N : Int) / 4294967296)] (by simp [u32s])
 refine (trimmed_row w.heap.size 2 2 N w.heap.size _ _ hr (Limb.Ok.cons (by omega) (Limb.Ok.cons h Limb.Ok.nil)) (by simp) (by omega) (by omega) (Nat.le_refl _) (by simp [Limb.val]; omega)).mono ?_
 rintro e w' ⟨A', m, rfl, how, rfl⟩
 go_wp2_with fail
 go_ret
 exact ⟨A', m, rfl, how, (Below.refl _ _).alloc (Nat.le_refl _) _⟩

theorem of_int (v : Int) (N : Nat) (w : World) (hv : v = (N : Int)) (h : N / 4294967296 < 4294967296) : Calls Tryz.prog 89 #[.int .u64 v] w (CutPost N w) := by
 subst hv; exact of_any N w h

/-- A small list that the statement writes out. -/
theorem Nums.new (w : World) (xs : List Nat) (us : Array Value) (h : us = (u32s xs).toArray) (ho : Limb.Ok xs) (n : Nat) (hn : n = xs.length) : Nums (w.alloc (.cells us 92)) (some ⟨w.heap.size, 0, none⟩) n xs := by
 subst hn
 have := (Row.new w xs us h).nums ho (o := 0) (n := xs.length) (by omega)
 simpa using this

def YesPost (w : World) (e : Ending) (w' : World) : Prop := e = .returned (.bool true) ∧ Below w.heap.size w w'
def short_post (b : Bool) (w : World) (e : Ending) (w' : World) : Prop := e = .returned (.bool b) ∧ w = w'
end Go.Proofs.YtdeakieenppmiaaGreatDoor
/- plumblinelaw01.adding: the simple calls are alive. -/
namespace Go.Proofs.YtdeakieenppmiaaGreatDoor
open Go.RowKit

theorem canon_one (x : Nat) (h0 : x ≠ 0) (h : x < 4294967296) : Limb.canon x = [x] := by
 rw [Limb.canon_pos x h0]
 have e1 : x % 4294967296 = x := by omega
 have e2 : x / 4294967296 = 0 := by omega
 rw [e1, e2, Limb.canon_zero]
theorem lit1 (w : World) (x N : Nat) (us : Array Value) (hus : us = (u32s [x]).toArray) (h0 : x ≠ 0) (h : x < 4294967296) (hN : x = N) : Nums (w.alloc (.cells us 92)) (some ⟨w.heap.size, 0, none⟩) 1 (Limb.canon N) := by
 subst hN
 rw [canon_one x h0 h]
 exact Nums.new w [x] us hus (Limb.Ok.cons h Limb.Ok.nil) 1 rfl
theorem short_canon {w : World} {A : Option Addr} {n N k : Nat} (h : Nums w A n (Limb.canon N)) (hN : N < 4294967296 ^ k) : n ≤ k := by
 rw [← h.len]; exact Limb.canon_len_le N k hN

end Go.Proofs.YtdeakieenppmiaaGreatDoor
/- nat.lowest, nat.addProduct, nat.productByLimbs. -/
namespace Go.Proofs.YtdeakieenppmiaaGreatDoor
open Go.RowKit
open Limb (limb limb_lt upto upto_succ upto_all upto_zero)

theorem val_put (zs : List Nat) (o : Nat) (ws : List Nat) (h : o + ws.length ≤ zs.length) :
  Limb.val (put zs o ws) + 4294967296 ^ o * Limb.val (win zs o ws.length) = Limb.val zs + 4294967296 ^ o * Limb.val ws := by
 have hl : (zs.take o).length = o := by rw [List.length_take]; omega
 have e1 : Limb.val (put zs o ws) = Limb.val (zs.take o) + 4294967296 ^ o * (Limb.val ws + 4294967296 ^ ws.length * Limb.val (zs.drop (o + ws.length))) := by
  unfold put
  rw [Limb.val_append, hl, Limb.val_append]
 have e2 : Limb.val zs = Limb.val (zs.take o) + 4294967296 ^ o * (Limb.val (win zs o ws.length) + 4294967296 ^ ws.length * Limb.val (zs.drop (o + ws.length))) := by
  rw [Limb.val_take_drop zs o (by omega), Limb.val_take_drop (zs.drop o) ws.length (by rw [List.length_drop]; omega), List.drop_drop]
  rfl
 rw [e1, e2, Nat.mul_add, Nat.mul_add]
 omega

theorem lowest_any (A : Option Addr) (n c k : Nat) (xs : List Nat) (w : World) (hx : Nums w A n xs) (hk : k ≤ n) (hc : n ≤ c) (hm : c ≤ 9223372036854775807) :
  Calls Tryz.prog 216 #[.slice A n c, .int .i64 (k : Int)] w (TrimDetPost A (Limb.val (xs.take k)) w) := by
 go_enter Tryz.func216, Tryz.ntmps216
 go_wp2_with fail
 refine (trimmed_det A k k (xs.take k) w (hx.take hk) (Nat.le_refl _) (by omega)).mono ?_
 rintro e w' ⟨rfl, rfl⟩
 go_wp2_with fail
 go_ret
 exact ⟨rfl, rfl⟩

/-! ### addProduct -/
def APRel (g o m f : Nat) (zs xs : List Nat) (w : World) (k c : Nat) (wr : World) : Prop :=
 ∃ cur : List Nat, cur.length = m ∧ Limb.Ok cur ∧ Row wr g (put zs o cur) ∧ Only g w wr ∧ Limb.val cur + 4294967296 ^ k * c = Limb.val (win zs o m) + upto xs k * f
theorem APRel.start (g o m f : Nat) (zs xs : List Nat) (w : World) (hz : Limb.Ok zs) (hr : Row w g zs) (hn : o + m ≤ zs.length) : APRel g o m f zs xs w 0 0 w :=
 ⟨win zs o m, win_length zs o m hn, win_ok hz o m, by unfold win; rw [put_self zs o m hn]; exact hr, Only.refl g w, by simp [upto_zero]⟩
theorem APRel.only {g o m f : Nat} {zs xs : List Nat} {w : World} {k c : Nat} {wr : World} (h : APRel g o m f zs xs w k c wr) : Only g w wr := by
 obtain ⟨_, _, _, _, hon, _⟩ := h; exact hon
theorem APRel.at_ {g o m f : Nat} {zs xs : List Nat} {w : World} {k c : Nat} {wr : World} (h : APRel g o m f zs xs w k c wr) (hn : o + m ≤ zs.length) (hk : k < m) :
   ∃ z : Nat, z < 4294967296 ∧ wr.cell? ⟨g, o + k, none⟩ = some (.int .u32 (z : Int)) ∧ wr.frozen? ⟨g, o + k, none⟩ = false ∧
     ∀ s c' : Nat, s < 4294967296 → s + 4294967296 * c' = z + limb xs k * f + c → APRel g o m f zs xs w (k + 1) c' (wr.setCell ⟨g, o + k, none⟩ (.int .u32 (s : Int))) := by
 obtain ⟨cur, hl, ho, hr, hon, hv⟩ := h
 have hfit : o + cur.length ≤ zs.length := by omega
 refine ⟨cur.getD k 0, ho.getD k, ?_, hr.frozen _, fun s c' hs he => ?_⟩
 · rw [hr.cell (i := o + k) (by rw [put_length _ _ _ hfit]; omega), put_getD zs o cur hfit k (by omega)]
 · refine ⟨cur.set k s, by simp [hl], ho.set k s hs, ?_, hon.setCell _ _, ?_⟩
   · rw [← put_set zs o cur hfit k s (by omega)]
     exact hr.set_ _ _
   · rw [Limb.step_set cur k s (limb xs k * f) c c' (by omega) _ hv he, upto_succ, Nat.add_mul, Nat.mul_assoc, Nat.add_assoc]

def APPost (g o m f : Nat) (zs xs : List Nat) (w : World) (e : Ending) (w' : World) : Prop :=
 ∃ (cur : List Nat) (cy : Nat), e = .returned (.int .u32 (cy : Int)) ∧ cy < 4294967296 ∧ cur.length = m ∧ Limb.Ok cur ∧ Row w' g (put zs o cur) ∧ Only g w w' ∧ Hid (Limb.val cur + 4294967296 ^ m * cy = Limb.val (win zs o m) + Limb.val xs * f)

theorem addProduct_any (g o m c f : Nat) (zs : List Nat) (A : Option Addr) (d : Nat) (xs : List Nat) (w : World) (hr : Row w g zs) (hz : Limb.Ok zs) (hn : o + m ≤ zs.length) (hc : m ≤ 4611686018427387904) (hcc : m ≤ c)
  (hx : Nums w A m xs) (hap : 0 < m → Apart A g) (hf : f < 4294967296) :
  Calls Tryz.prog 215 #[.slice (some ⟨g, o, none⟩) m c, .slice A m d, .int .u32 (f : Int)] w (APPost g o m f zs xs w) := by
 have R := hide (APRel.start g o m f zs xs w hz hr hn)
 clear hr hz
 go_enter Tryz.func215, Tryz.ntmps215
 go_wp2_with fail
 go_loopw [7, 12] (fun c i wr => ∃ k z : Nat, k ≤ m ∧ z < 4294967296 ∧ i = .int .i64 (k : Int) ∧ c = .int .u64 (z : Int) ∧ Hid (APRel g o m f zs xs w k z wr)) (fun _ i _ => m - (intOf i).toNat)
 case atStart => exact ⟨0, 0, Nat.zero_le _, by omega, rfl, rfl, R.out⟩
 case round =>
  clear R
  obtain ⟨k, z, hk, hz1, rfl, rfl, R⟩ := hrel
  by_cases hkm : k < m
  · have hxr := hx.grown R.out.only (hap (by omega))
    obtain ⟨b1, o1, y, rfl, hyb, hye, hyc⟩ := hxr.at_ hkm
    obtain ⟨zz, hzz, hcell, hfroz, hstep⟩ := R.out.at_ hn hkm
    have hpn := prod_le _ _ hyb hf
    obtain ⟨hp1, hp2, hp3⟩ := prod_int _ _ hyb hf
    have HP := Lib.hid hp3
    have HY := Lib.hid hye
    have HS := hide hstep
    clear hye hstep hp3 hxr
    go_wp2_with fail
    have es : ((z : Int) + ((y : Int) * (f : Int) + (zz : Int))) % 4294967296 = (((z + (y * f + zz)) % 4294967296 : Nat) : Int) := by have := HP.out; omega
    have ec : ((z : Int) + ((y : Int) * (f : Int) + (zz : Int))) / 4294967296 = (((z + (y * f + zz)) / 4294967296 : Nat) : Int) := by have := HP.out; omega
    rw [es, ec]
    clear es ec
    go_roundw
    case rel => exact ⟨k + 1, _, by omega, by omega, by go_num, rfl, HS.out _ _ (by omega) (by have e := HY.out; unfold limb; rw [← e]; omega)⟩
    case measure => simp [intOf]; omega
  · obtain rfl : k = m := by omega
    clear hkm
    go_wp2_with fail
    go_ret
    obtain ⟨cur, hl, ho, hr, hon, hv⟩ := R.out
    exact ⟨cur, z, rfl, hz1, hl, ho, hr, hon, by show _ = _; rw [hv, upto_all xs k (by rw [hx.len]; omega)]⟩

/-! ### productByLimbs -/
theorem mul_lt_pow (a b n m : Nat) (ha : a < 4294967296 ^ n) (hb : b < 4294967296 ^ m) : a * b < 4294967296 ^ (n + m) := by
 rw [Nat.pow_add]
 exact Nat.mul_lt_mul'' ha hb
theorem upto_lt (ys : List Nat) (h : Limb.Ok ys) (k : Nat) : upto ys k < 4294967296 ^ k := by
 unfold upto
 have h1 := Limb.val_lt (ys.take k) (h.take k)
 exact Nat.lt_of_lt_of_le h1 (Limb.pow_mono (by rw [List.length_take]; omega))
theorem pb_alg (V P Q W C2 c cy ay T new old : Nat) (h1 : new + Q * old = P + Q * cy) (h0 : old = 0) (h2 : P + c * W = V + c * C2) (h3 : C2 + T * cy = W + ay) (h4 : Q = c * T) : new = V + c * ay := by
 subst h0
 subst h4
 have e : c * (C2 + T * cy) = c * (W + ay) := by rw [h3]
 rw [Nat.mul_add, Nat.mul_add, ← Nat.mul_assoc] at e
 rw [Nat.mul_zero] at h1
 omega
def PBRel (g n m : Nat) (xs ys : List Nat) (w : World) (k : Nat) (wr : World) : Prop :=
 ∃ cur : List Nat, cur.length = n + m ∧ Limb.Ok cur ∧ Row wr g cur ∧ Below w.heap.size w wr ∧ Limb.val cur = Limb.val xs * upto ys k
theorem pb_step (cur cur2 xs ys : List Nat) (n m k cy : Nat) (hl : cur.length = n + m) (hx : Limb.val xs < 4294967296 ^ n) (hy : Limb.Ok ys) (hk : k < m) (hv : Limb.val cur = Limb.val xs * upto ys k) (hl2 : cur2.length = n)
  (h : Limb.val cur2 + 4294967296 ^ n * cy = Limb.val (win cur k n) + Limb.val xs * limb ys k) : Limb.val ((put cur k cur2).set (k + n) cy) = Limb.val xs * upto ys (k + 1) := by
 have hfit : k + cur2.length ≤ cur.length := by omega
 have e1 := val_put cur k cur2 hfit
 rw [hl2] at e1
 have hlt : Limb.val cur < 4294967296 ^ (k + n) := by
  rw [hv, Nat.add_comm k n]; exact mul_lt_pow _ _ _ _ hx (upto_lt ys hy k)
 have e2 := Limb.val_set (put cur k cur2) (k + n) cy (by rw [put_length _ _ _ hfit]; omega)
 have e3 : (put cur k cur2).getD (k + n) 0 = 0 := by
  have h0 := Limb.limb_zero_of_lt cur (k + n) hlt
  unfold limb at h0
  unfold put
  have hl3 : (cur.take k).length = k := by rw [List.length_take]; omega
  rw [List.getD_eq_getElem?_getD, List.getElem?_append_right (by omega), hl3, List.getElem?_append_right (by omega), List.getElem?_drop, ← List.getD_eq_getElem?_getD, ← h0]
  congr 1
  omega
 have := pb_alg _ _ _ _ _ _ _ _ _ _ _ e2 e3 e1 h (Nat.pow_add 4294967296 k n)
 rw [this, hv, upto_succ, Nat.mul_add, Nat.mul_left_comm]

theorem Nums.lt {w : World} {A : Option Addr} {n : Nat} {xs : List Nat} (h : Nums w A n xs) : Limb.val xs < 4294967296 ^ n := by
 have := Limb.val_lt xs h.ok; rwa [h.len] at this

theorem productByLimbs_any (A B : Option Addr) (n c m d : Nat) (xs ys : List Nat) (w : World) (hx : Nums w A n xs) (hcn : n ≤ c) (hc9 : c ≤ 9223372036854775807) (hn40 : n ≤ 1099511627776) (hy : Nums w B m ys) (hdm : m ≤ d) (hd9 : d ≤ 9223372036854775807) (hmn : m ≤ n) :
  Calls Tryz.prog 202 #[.slice A n c, .slice B m d] w (CutPost (Limb.val xs * Limb.val ys) w) := by
 go_enter Tryz.func202, Tryz.ntmps202
 go_wp2_with (at_make; refine wpList_make_u32 _ rfl _ _ rfl _ (n + m) rfl rfl (by omega) (by omega) ?_; intro w1 hr1 hb1 hs1)
 have R : Hid (PBRel w.heap.size n m xs ys w 0 w1) := ⟨List.replicate (n + m) 0, by simp, Limb.Ok.replicate _, hr1, hb1, by rw [Limb.val_replicate, upto_zero, Nat.mul_zero]⟩
 clear hr1
 go_loopw [16] (fun i wr => ∃ k : Nat, k ≤ m ∧ i = .int .i64 (k : Int) ∧ w.heap.size < wr.heap.size ∧ Hid (PBRel w.heap.size n m xs ys w k wr)) (fun i _ => m - (intOf i).toNat)
 case atStart => exact ⟨0, Nat.zero_le _, rfl, hs1, R.out⟩
 case round =>
  clear R hb1 hs1
  obtain ⟨k, hk, rfl, hsz, R⟩ := hrel
  obtain ⟨cur, hl, ho, hr, hb, hv⟩ := R.out
  have HL := Lib.hid hl
  have HV := Lib.hid hv
  clear hv R
  by_cases hkm : k < m
  · obtain ⟨b1, o1, y, rfl, hyb, hye, hyc⟩ := (hy.below hb).at_ hkm
    have HY := Lib.hid hye
    clear hye hl
    go_wp2_with fail
    refine (addProduct_any w.heap.size k n _ y cur A c xs wr hr ho (by rw [HL.out]; omega) (by omega) (by omega) (hx.below hb) (fun h => hx.apart h (Nat.le_refl _)) hyb).mono ?_
    rintro e w2 ⟨cur2, cy, rfl, hcy, hl2, ho2, hr2, hon2, HE⟩
    have HL2 := Lib.hid hl2
    clear hl2
    have hfit : k + cur2.length ≤ cur.length := by rw [HL.out, HL2.out]; omega
    have hc2 := hr2.cell (i := k + n) (by rw [put_length _ _ _ hfit, HL.out]; omega)
    have hf2 := hr2.frozen (k + n)
    go_wp2_with fail
    go_roundw
    case rel =>
     refine ⟨k + 1, by omega, by go_num, by have := hon2.size; simp [World.setCell]; omega, _, ?_, (put_ok ho k ho2).set (k + n) cy hcy, hr2.set_ _ _, (hb.trans (hon2.below (by omega) (Nat.le_refl _))).setCell (Nat.le_refl _) _, ?_⟩
     · rw [List.length_set, put_length _ _ _ hfit]; exact HL.out
     · exact pb_step cur cur2 xs ys n m k cy HL.out hx.lt hy.ok hkm HV.out HL2.out (by have e := HY.out; unfold limb; rw [← e]; exact HE.out)
    case measure => simp [intOf]; omega
  · obtain rfl : k = m := by omega
    clear hkm
    go_wp2_with fail
    refine (trimmed_row w.heap.size (n + k) _ (Limb.val xs * Limb.val ys) w.heap.size cur wr hr ho (by rw [hl]; omega) (by omega) (by omega) (Nat.le_refl _) (by rw [List.take_of_length_le (by omega), HV.out, upto_all ys k (by rw [hy.len]; omega)])).mono ?_
    rintro e w4 ⟨A', j, rfl, how, rfl⟩
    go_wp2_with fail
    go_ret
    exact ⟨A', j, rfl, how, hb⟩
end Go.Proofs.YtdeakieenppmiaaGreatDoor
