/- Texts of one seat, put together: RefA Of. -/
import Derived.Test.YtlihnagfmfpdcaaB07
import Derived.Test.YtlihnagfmfpdcaaB06
/- plumblineref01: Add, Sub, small. -/
namespace Go.Proofs.Ytlihnagfmfpdcaa
open Go.RowKit
open Limb (limb limb_lt upto upto_succ upto_all upto_zero)

def AddTo (xs ys os : List Nat) (k z : Nat) : Prop := os.length = k ∧ Limb.val os + 4294967296 ^ k * z = upto xs k + upto ys k
theorem AddTo.step {xs ys os : List Nat} {k z : Nat} (h : AddTo xs ys os k z) : AddTo xs ys (os ++ [(limb xs k + limb ys k + z) % 4294967296]) (k + 1) ((limb xs k + limb ys k + z) / 4294967296) := by
  obtain ⟨hl, hv⟩ := h
  refine ⟨by simp [hl], ?_⟩
  rw [Limb.val_append, hl, upto_succ, upto_succ]
  have e : Limb.val [(limb xs k + limb ys k + z) % 4294967296] = (limb xs k + limb ys k + z) % 4294967296 := by simp [Limb.val]
  rw [e, Nat.pow_succ, Nat.mul_assoc]
  have e2 : 4294967296 ^ k * ((limb xs k + limb ys k + z) % 4294967296) + 4294967296 ^ k * (4294967296 * ((limb xs k + limb ys k + z) / 4294967296)) = 4294967296 ^ k * limb xs k + 4294967296 ^ k * limb ys k + 4294967296 ^ k * z := by
    rw [← Nat.mul_add, ← Nat.mul_add, ← Nat.mul_add]
    congr 1
    omega
  omega
theorem AddTo.done {xs ys os : List Nat} {k z : Nat} (h : AddTo xs ys os k z) (hx : Limb.Ok xs) (hy : Limb.Ok ys) (h1 : xs.length + 1 ≤ k) (h2 : ys.length + 1 ≤ k) : Limb.val os = Limb.val xs + Limb.val ys := by
  obtain ⟨hl, hv⟩ := h
  rw [upto_all xs k (by omega), upto_all ys k (by omega)] at hv
  obtain ⟨j, rfl⟩ : ∃ j, k = j + 1 := ⟨k - 1, by omega⟩
  have b1 := Nat.lt_of_lt_of_le (Limb.val_lt xs hx) (Limb.pow_mono (show xs.length ≤ j by omega))
  have b2 := Nat.lt_of_lt_of_le (Limb.val_lt ys hy) (Limb.pow_mono (show ys.length ≤ j by omega))
  refine Limb.carry_zero _ _ _ _ hv ?_
  rw [Nat.pow_succ]
  exact Limb.sum_lt _ _ _ b1 b2

set_option maxHeartbeats 1000000 in
theorem radd_any (A B : Option Addr) (n c m d : Nat) (xs ys : List Nat) (w : World) (hx : Nums w A n xs) (hy : Nums w B m ys) (hn : n ≤ 549755813888) (hm : m ≤ 549755813888) :
    Calls Try.prog 54 #[.slice A n c, .slice B m d] w (RefPost (Limb.val xs + Limb.val ys) w) := by
  obtain ⟨hm1, hm2, hm3⟩ := mx_le n m
  have hle : mx n m ≤ 549755813888 := by omega
  clear hm3
  go_enter Try.func54, Try.ntmps54
  go_wp2_with fail
  go_loopw [5, 6, 7] (fun v cz i wr => ∃ k z : Nat, ∃ os : List Nat, k ≤ mx n m + 1 ∧ z ≤ 1 ∧ i = .int .i64 (k : Int) ∧ cz = .int .u64 (z : Int) ∧ Lst wr w.heap.size v os ∧ Below w.heap.size w wr ∧ Hid (AddTo xs ys os k z)) (fun _ _ i _ => mx n m + 1 - (intOf i).toNat)
  case atStart => exact ⟨0, 0, [], Nat.zero_le _, Nat.zero_le _, rfl, rfl, Lst.empty w _ (Nat.le_refl _), (Below.refl _ _).alloc (Nat.le_refl _) _, ⟨rfl, by simp [Limb.val, upto]⟩⟩
  case round =>
    obtain ⟨k, z, os, hk, hz, rfl, rfl, hL, hB, HA⟩ := hrel
    have hol : os.length ≤ 4398046511104 := by rw [HA.out.1]; omega
    have hxk := limb_lt hx.ok k
    have hyk := limb_lt hy.ok k
    by_cases hkn : k ≤ mx n m
    · go_wp2_with fail
      refine (longer_any A B n c m d wr (by omega) (by omega)).mono ?_
      rintro e w' ⟨rfl, rfl⟩
      go_wp2_with fail
      refine (at_any A n c xs k wr (hx.below hB) (by omega)).mono ?_
      rintro e w' ⟨rfl, rfl⟩
      go_wp2_with fail
      refine (at_any B m d ys k wr (hy.below hB) (by omega)).mono ?_
      rintro e w' ⟨rfl, rfl⟩
      go_wp2_with (at_builtin; refine wpList_append_u32 _ rfl _ _ rfl w.heap.size _ _ rfl (hL.alloc _) _ ((limb xs k + limb ys k + z) % 4294967296) rfl (cell_new' _ _ _ _ (by omega)) (by omega) hol (by have := hB.size; simp; omega) ?_; intro v' w1 hL1 hB1)
      go_roundw
      case rel => exact ⟨k + 1, (limb xs k + limb ys k + z) / 4294967296, _, by omega, by omega, by go_num, by go_num, hL1, (hB.alloc hB.size _).trans hB1, HA.out.step⟩
      case measure => simp [intOf] <;> omega
    · go_wp2_with fail
      refine (longer_any A B n c m d wr (by omega) (by omega)).mono ?_
      rintro e w' ⟨rfl, rfl⟩
      obtain ⟨A1, c1, rfl, hN, hc1, hc2⟩ := hL.form
      have hv := HA.out.done hx.ok hy.ok (by rw [hx.len]; omega) (by rw [hy.len]; omega)
      have HV := Lib.hid hv
      have hol2 : os.length ≤ 1099511627776 := by rw [HA.out.1]; omega
      clear hL hv
      go_wp2_with fail
      refine (rtrim_any A1 _ c1 os wr hN hol2).mono ?_
      rintro e w2 ⟨A2, n2, c2, rfl, hN2, h1, h2, hB2⟩
      rw [HV.out] at hN2
      go_wp2_with fail
      go_ret
      exact ⟨A2, n2, c2, rfl, hN2, h1, h2, hB.trans (hB2.mono hB.size)⟩

/-! ### Sub -/
def SubTo (xs ys os : List Nat) (k z : Nat) : Prop := os.length = k ∧ Limb.val os + upto ys k = upto xs k + 4294967296 ^ k * z
theorem app_sub (v U X p s y z x c : Nat) (h : v + U = X + p * z) (hs : s + y + z = x + 4294967296 * c) : v + p * s + (U + p * y) = X + p * x + p * (4294967296 * c) := by
  have e : p * (s + y + z) = p * (x + 4294967296 * c) := by rw [hs]
  rw [Nat.mul_add, Nat.mul_add, Nat.mul_add] at e
  omega
theorem sub_limb (x y z : Nat) (hx : x < 4294967296) (hy : y < 4294967296) (hz : z ≤ 1) : (x + 4294967296 - y - z) % 4294967296 + y + z = x + 4294967296 * (1 - (x + 4294967296 - y - z) / 4294967296) := by omega
theorem SubTo.step {xs ys os : List Nat} {k z : Nat} (h : SubTo xs ys os k z) (s c : Nat) (hs : s + limb ys k + z = limb xs k + 4294967296 * c) : SubTo xs ys (os ++ [s]) (k + 1) c := by
  obtain ⟨hl, hv⟩ := h
  refine ⟨by simp [hl], ?_⟩
  have e : Limb.val [s] = s := by simp [Limb.val]
  rw [Limb.val_append, hl, upto_succ, upto_succ, e, Nat.pow_succ, Nat.mul_assoc]
  exact app_sub _ _ _ _ _ _ _ _ _ hv hs
theorem SubTo.done {xs ys os : List Nat} {k z : Nat} (h : SubTo xs ys os k z) (ho : Limb.Ok os) (h1 : xs.length ≤ k) (h2 : ys.length ≤ k) (hle : Limb.val ys ≤ Limb.val xs) : Limb.val os = Limb.val xs - Limb.val ys := by
  obtain ⟨hl, hv⟩ := h
  rw [upto_all xs k (by omega), upto_all ys k (by omega)] at hv
  have b1 := Limb.val_lt os ho
  rw [hl] at b1
  exact Limb.borrow_zero _ _ _ _ _ hv b1 hle

def RefSubNoPost (w : World) (e : Ending) (w' : World) : Prop := e = .returned (.tuple #[.slice none 0 0, .bool false]) ∧ w = w'
def RefSubYesPost (N : Nat) (w : World) (e : Ending) (w' : World) : Prop := ∃ A n c, e = .returned (.tuple #[.slice A n c, .bool true]) ∧ Nums w' A n (Limb.canon N) ∧ n ≤ c ∧ c ≤ 9223372036854775807 ∧ Below w.heap.size w w'

set_option maxHeartbeats 1000000 in
theorem rsub_no (A B : Option Addr) (n c m d : Nat) (xs ys : List Nat) (w : World) (hx : Nums w A n xs) (hy : Nums w B m ys) (hn : n ≤ 9223372036854775807) (hm : m ≤ 9223372036854775807) (hlt : Limb.val xs < Limb.val ys) :
    Calls Try.prog 109 #[.slice A n c, .slice B m d] w (RefSubNoPost w) := by
  have h0 := cmpN_lt hlt
  clear hlt
  go_enter Try.func109, Try.ntmps109
  go_wp2_with fail
  refine (rcmp_any A B n c m d xs ys w hx hy hn hm).mono ?_
  rintro e w' ⟨rfl, rfl⟩
  go_wp2_with fail
  go_ret2
  exact ⟨rfl, rfl⟩

set_option maxHeartbeats 1000000 in
theorem rsub_yes (A B : Option Addr) (n c m d : Nat) (xs ys : List Nat) (w : World) (hx : Nums w A n xs) (hy : Nums w B m ys) (hn : n ≤ 549755813888) (hm : m ≤ 549755813888) (hle : Limb.val ys ≤ Limb.val xs) :
    Calls Try.prog 109 #[.slice A n c, .slice B m d] w (RefSubYesPost (Limb.val xs - Limb.val ys) w) := by
  obtain ⟨hm1, hm2, hm3⟩ := mx_le n m
  have hlm : mx n m ≤ 549755813888 := by omega
  clear hm3
  have h0 := cmpN_ge hle
  have HLE := hide hle
  clear hle
  go_enter Try.func109, Try.ntmps109
  go_wp2_with fail
  refine (rcmp_any A B n c m d xs ys w hx hy (by omega) (by omega)).mono ?_
  rintro e w' ⟨rfl, rfl⟩
  go_wp2_with fail
  go_loopw [6, 7, 8] (fun v cz i wr => ∃ k z : Nat, ∃ os : List Nat, k ≤ mx n m ∧ z ≤ 1 ∧ i = .int .i64 (k : Int) ∧ cz = .int .u64 (z : Int) ∧ Lst wr w.heap.size v os ∧ Below w.heap.size w wr ∧ Hid (SubTo xs ys os k z)) (fun _ _ i _ => mx n m - (intOf i).toNat)
  case atStart => exact ⟨0, 0, [], Nat.zero_le _, Nat.zero_le _, rfl, rfl, Lst.empty w _ (Nat.le_refl _), (Below.refl _ _).alloc (Nat.le_refl _) _, ⟨rfl, by simp [Limb.val, upto]⟩⟩
  case round =>
    obtain ⟨k, z, os, hk, hz, rfl, rfl, hL, hB, HA⟩ := hrel
    have hol : os.length ≤ 4398046511104 := by rw [HA.out.1]; omega
    have hxk := limb_lt hx.ok k
    have hyk := limb_lt hy.ok k
    by_cases hkn : k < mx n m
    · go_wp2_with fail
      refine (longer_any A B n c m d wr (by omega) (by omega)).mono ?_
      rintro e w' ⟨rfl, rfl⟩
      go_wp2_with fail
      refine (at_any A n c xs k wr (hx.below hB) (by omega)).mono ?_
      rintro e w' ⟨rfl, rfl⟩
      go_wp2_with fail
      refine (at_any B m d ys k wr (hy.below hB) (by omega)).mono ?_
      rintro e w' ⟨rfl, rfl⟩
      go_wp2_with (at_builtin; refine wpList_append_u32 _ rfl _ _ rfl w.heap.size _ _ rfl (hL.alloc _) _ ((limb xs k + 4294967296 - limb ys k - z) % 4294967296) rfl (cell_new' _ _ _ _ (by omega)) (by omega) hol (by have := hB.size; simp; omega) ?_; intro v' w1 hL1 hB1)
      go_roundw
      case rel => exact ⟨k + 1, 1 - (limb xs k + 4294967296 - limb ys k - z) / 4294967296, _, by omega, by omega, by go_num, by go_num, hL1, (hB.alloc hB.size _).trans hB1, HA.out.step _ _ (sub_limb _ _ _ hxk hyk hz)⟩
      case measure => simp [intOf] <;> omega
    · go_wp2_with fail
      refine (longer_any A B n c m d wr (by omega) (by omega)).mono ?_
      rintro e w' ⟨rfl, rfl⟩
      obtain ⟨A1, c1, rfl, hN, hc1, hc2⟩ := hL.form
      have hv := HA.out.done hL.ok (by rw [hx.len]; omega) (by rw [hy.len]; omega) HLE.out
      have HV := Lib.hid hv
      have hol2 : os.length ≤ 1099511627776 := by rw [HA.out.1]; omega
      clear hL hv
      go_wp2_with fail
      refine (rtrim_any A1 _ c1 os wr hN hol2).mono ?_
      rintro e w2 ⟨A2, n2, c2, rfl, hN2, h1, h2, hB2⟩
      rw [HV.out] at hN2
      go_wp2_with fail
      go_ret2
      exact ⟨A2, n2, c2, rfl, hN2, h1, h2, hB.trans (hB2.mono hB.size)⟩

/-! ### small -/
def MulTo (xs os : List Nat) (m k z : Nat) : Prop := os.length = k ∧ Limb.val os + 4294967296 ^ k * z = upto xs k * m
theorem MulTo.step {xs os : List Nat} {m k z : Nat} (h : MulTo xs os m k z) : MulTo xs (os ++ [(limb xs k * m + z) % 4294967296]) m (k + 1) ((limb xs k * m + z) / 4294967296) := by
  obtain ⟨hl, hv⟩ := h
  refine ⟨by simp [hl], ?_⟩
  rw [Limb.val_append, hl, upto_succ, Nat.add_mul, ← hv]
  have e : Limb.val [(limb xs k * m + z) % 4294967296] = (limb xs k * m + z) % 4294967296 := by simp [Limb.val]
  rw [e, Nat.pow_succ, Nat.mul_assoc, Nat.mul_assoc]
  have e2 : 4294967296 ^ k * ((limb xs k * m + z) % 4294967296) + 4294967296 ^ k * (4294967296 * ((limb xs k * m + z) / 4294967296)) = 4294967296 ^ k * (limb xs k * m) + 4294967296 ^ k * z := by
    rw [← Nat.mul_add, ← Nat.mul_add]
    congr 1
    omega
  omega
theorem MulTo.done {xs os : List Nat} {m k z : Nat} (h : MulTo xs os m k z) (h1 : xs.length ≤ k) : Limb.val (os ++ [z]) = Limb.val xs * m := by
  obtain ⟨hl, hv⟩ := h
  rw [upto_all xs k h1] at hv
  rw [Limb.val_append, hl]
  have e : Limb.val [z] = z := by simp [Limb.val]
  rw [e]; exact hv

theorem prod_le (x m : Nat) (hx : x < 4294967296) (hm : m < 4294967296) : x * m ≤ 18446744065119617025 := by
  have := Nat.mul_le_mul (show x ≤ 4294967295 by omega) (show m ≤ 4294967295 by omega)
  omega
theorem prod_int (x m : Nat) (hx : x < 4294967296) (hm : m < 4294967296) : (x : Int) * (m : Int) ≤ 18446744065119617025 ∧ 0 ≤ (x : Int) * (m : Int) ∧ (x : Int) * (m : Int) = ((x * m : Nat) : Int) := by
  have h := prod_le x m hx hm
  rw [← Int.natCast_mul]
  omega

set_option maxHeartbeats 1000000 in
theorem small_any (A : Option Addr) (n c : Nat) (xs : List Nat) (m : Nat) (w : World) (hx : Nums w A n xs) (hn : n ≤ 549755813888) (hm : m < 4294967296) :
    Calls Try.prog 55 #[.slice A n c, .int .u64 (m : Int)] w (RefPost (Limb.val xs * m) w) := by
  go_enter Try.func55, Try.ntmps55
  go_wp2_with fail
  go_loopw [5, 6, 7] (fun v cz i wr => ∃ k z : Nat, ∃ os : List Nat, k ≤ n ∧ z < 4294967296 ∧ i = .int .i64 (k : Int) ∧ cz = .int .u64 (z : Int) ∧ Lst wr w.heap.size v os ∧ Below w.heap.size w wr ∧ Hid (MulTo xs os m k z)) (fun _ _ i _ => n - (intOf i).toNat)
  case atStart => exact ⟨0, 0, [], Nat.zero_le _, by omega, rfl, rfl, Lst.empty w _ (Nat.le_refl _), (Below.refl _ _).alloc (Nat.le_refl _) _, ⟨rfl, by simp [Limb.val, upto]⟩⟩
  case round =>
    obtain ⟨k, z, os, hk, hz, rfl, rfl, hL, hB, HA⟩ := hrel
    have hol : os.length ≤ 4398046511104 := by rw [HA.out.1]; omega
    have hxk := limb_lt hx.ok k
    by_cases hkn : k < n
    · have hpn := prod_le _ _ hxk hm
      obtain ⟨hp1, hp2, hp3⟩ := prod_int _ _ hxk hm
      have HP := Lib.hid hp3
      clear hp3
      go_wp2_with fail
      refine (at_any A n c xs k wr (hx.below hB) (by omega)).mono ?_
      rintro e w' ⟨rfl, rfl⟩
      go_wp2_with (at_builtin; refine wpList_append_u32 _ rfl _ _ rfl w.heap.size _ _ rfl (hL.alloc _) _ ((limb xs k * m + z) % 4294967296) rfl (cell_new' _ _ _ _ (by have := HP.out; omega)) (by omega) hol (by have := hB.size; simp; omega) ?_; intro v' w1 hL1 hB1)
      go_roundw
      case rel => exact ⟨k + 1, (limb xs k * m + z) / 4294967296, _, by omega, by omega, by go_num, by have := HP.out; congr 1 <;> omega, hL1, (hB.alloc hB.size _).trans hB1, HA.out.step⟩
      case measure => simp [intOf] <;> omega
    · have hv := HA.out.done (by rw [hx.len]; omega)
      have HV := Lib.hid hv
      have hol2 : os.length + 1 ≤ 1099511627776 := by rw [HA.out.1]; omega
      clear hv
      go_wp2_with (at_builtin; refine wpList_append_u32 _ rfl _ _ rfl w.heap.size _ _ rfl (hL.alloc _) _ z rfl (cell_new' _ _ _ _ (by omega)) hz hol (by have := hB.size; simp; omega) ?_; intro v' w1 hL1 hB1; obtain ⟨A1, c1, rfl, hN, hc1, hc2⟩ := hL1.form)
      refine (rtrim_any A1 (os.length + 1) c1 _ w1 (by simpa using hN) hol2).mono ?_
      rintro e w2 ⟨A2, n2, c2, rfl, hN2, h1, h2, hB2⟩
      rw [HV.out] at hN2
      go_wp2_with fail
      go_ret
      have hB3 : Below w.heap.size w w1 := (hB.alloc hB.size _).trans hB1
      exact ⟨A2, n2, c2, rfl, hN2, h1, h2, hB3.trans (hB2.mono hB3.size)⟩
end Go.Proofs.Ytlihnagfmfpdcaa
/- nat.Of; the statements' own small calls. -/
namespace Go.Proofs.Ytlihnagfmfpdcaa
open Go.RowKit

theorem Row.new (w : World) (zs : List Nat) (us : Array Value) (h : us = (u32s zs).toArray) : Row (w.alloc (.cells us 59)) w.heap.size zs := by
  unfold Row; rw [h]; exact heap_alloc_new w _

set_option maxHeartbeats 400000 in
theorem of_any (N : Nat) (w : World) (h : N / 4294967296 < 4294967296) :
    Calls Try.prog 50 #[.int .u64 (N : Int)] w (CutPost N w) := by
  go_enter Try.func50, Try.ntmps50
  go_wp2_with fail
  have hr := Row.new w [N % 4294967296, N / 4294967296] #[.int .u32 ((N : Int) % 4294967296), .int .u32 ((N : Int) / 4294967296)] (by simp [u32s])
  refine (trimmed_row w.heap.size 2 2 N w.heap.size _ _ hr (Limb.Ok.cons (by omega) (Limb.Ok.cons h Limb.Ok.nil)) (by simp) (by omega) (by omega) (Nat.le_refl _) (by simp [Limb.val]; omega)).mono ?_
  rintro e w' ⟨A', m, rfl, how, rfl⟩
  go_wp2_with fail
  go_ret
  exact ⟨A', m, rfl, how, (Below.refl _ _).alloc (Nat.le_refl _) _⟩

theorem of_int (v : Int) (N : Nat) (w : World) (hv : v = (N : Int)) (h : N / 4294967296 < 4294967296) : Calls Try.prog 50 #[.int .u64 v] w (CutPost N w) := by
  subst hv; exact of_any N w h

/-- A small list that the statement writes out. -/
theorem Nums.new (w : World) (xs : List Nat) (us : Array Value) (h : us = (u32s xs).toArray) (ho : Limb.Ok xs) (n : Nat) (hn : n = xs.length) : Nums (w.alloc (.cells us 59)) (some ⟨w.heap.size, 0, none⟩) n xs := by
  subst hn
  have := (Row.new w xs us h).nums ho (o := 0) (n := xs.length) (by omega)
  simpa using this

def YesPost (w : World) (e : Ending) (w' : World) : Prop := e = .returned (.bool true) ∧ Below w.heap.size w w'
set_option maxHeartbeats 1000000 in
theorem lsame_yes (A B : Option Addr) (n m c d N : Nat) (w : World) (hx : Nums w A n (Limb.canon N)) (hy : Nums w B m (Limb.canon N)) (hn : n ≤ 9223372036854775807) :
    Calls Try.prog 12 #[.slice A n c, .slice B m d] w (YesPost w) := by
  obtain rfl : n = m := by rw [← hx.len, ← hy.len]
  have hlen := hx.len
  have HT := hide (Limb.tight_canon N)
  have HL := Lib.hid hlen
  clear hlen
  by_cases h0 : n = 0
  · subst h0
    go_enter Try.func12, Try.ntmps12
    go_wp2_with fail
    refine (same_yes A B 0 c d _ w hx hy hn).mono ?_
    rintro e w' ⟨rfl, k, rfl⟩
    go_wp2_with fail
    go_ret
    exact ⟨rfl, bl_drewN w k⟩
  · have h1 : ((n : Int) == 0) = false := by simp; omega
    have hpos : 1 ≤ n := by omega
    clear h0
    obtain ⟨b, o, x, hA, hxl, hxe, hc⟩ := hx.at_ (i := n - 1) (by omega)
    have hx0 : x ≠ 0 := by
      have hne : Limb.canon N ≠ [] := by intro hh; have := HL.out; rw [hh] at this; simp at this; omega
      have ht := HT.out hne
      rw [List.getLast_eq_getElem] at ht
      rw [hxe, List.getD_eq_getElem?_getD, List.getElem?_eq_getElem (by rw [HL.out]; omega)]
      simpa [HL.out] using ht
    have h2 : ((x : Int) != 0) = true := by simp; omega
    subst hA
    clear hxe hx0
    go_enter Try.func12, Try.ntmps12
    go_wp2_with fail
    refine (same_yes _ B n c d _ w hx hy hn).mono ?_
    rintro e w' ⟨rfl, k, rfl⟩
    go_wp2_with fail
    go_ret
    exact ⟨rfl, bl_drewN w k⟩

def short_post (b : Bool) (w : World) (e : Ending) (w' : World) : Prop := e = .returned (.bool b) ∧ w = w'
theorem short_yes (A B : Option Addr) (n c m d : Nat) (k : Int) (w : World) (h1 : (n : Int) ≤ k) (h2 : (m : Int) ≤ k) (hk : k ≤ 4294967296) :
    Calls Try.prog 11 #[.slice A n c, .slice B m d, .int .i64 k] w (short_post true w) := by
  go_enter Try.func11, Try.ntmps11
  go_wp2_with fail
  go_ret
  exact ⟨rfl, rfl⟩
theorem short_no (A B : Option Addr) (n c m d : Nat) (k : Int) (w : World) (hn : n ≤ 9223372036854775807) (hm : m ≤ 9223372036854775807) (h : k < (n : Int) ∨ k < (m : Int)) (hk : k ≤ 4294967296) :
    Calls Try.prog 11 #[.slice A n c, .slice B m d, .int .i64 k] w (short_post false w) := by
  by_cases h1 : (n : Int) ≤ k
  · have h2 : ¬ (m : Int) ≤ k := by omega
    clear h
    go_enter Try.func11, Try.ntmps11
    go_wp2_with fail
    go_ret
    exact ⟨rfl, rfl⟩
  · clear h
    go_enter Try.func11, Try.ntmps11
    go_wp2_with fail
    go_ret
    exact ⟨rfl, rfl⟩
end Go.Proofs.Ytlihnagfmfpdcaa
