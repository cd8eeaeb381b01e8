/- Texts of one seat, put together: Alive1 Mul. -/
import Derived.Test.YtlihnagfmfpdcaaB08
import Derived.Test.YtlihnagfmfpdcaaB06
/- plumblinelaw01.adding: the simple calls are alive. -/
namespace Go.Proofs.Ytlihnagfmfpdcaa
open Go.RowKit

theorem canon_one (x : Nat) (h0 : x ≠ 0) (h : x < 4294967296) : Limb.canon x = [x] := by
  rw [Limb.canon_pos x h0]
  have e1 : x % 4294967296 = x := by omega
  have e2 : x / 4294967296 = 0 := by omega
  rw [e1, e2, Limb.canon_zero]
theorem canon_two (x y : Nat) (h : x < 4294967296) (h0 : y ≠ 0) (hy : y < 4294967296) : Limb.canon (x + 4294967296 * y) = [x, y] := by
  rw [Limb.canon_pos _ (by omega)]
  have e1 : (x + 4294967296 * y) % 4294967296 = x := by omega
  have e2 : (x + 4294967296 * y) / 4294967296 = y := by omega
  rw [e1, e2, canon_one y h0 hy]
theorem lit1 (w : World) (x N : Nat) (us : Array Value) (hus : us = (u32s [x]).toArray) (h0 : x ≠ 0) (h : x < 4294967296) (hN : x = N) : Nums (w.alloc (.cells us 59)) (some ⟨w.heap.size, 0, none⟩) 1 (Limb.canon N) := by
  subst hN
  rw [canon_one x h0 h]
  exact Nums.new w [x] us hus (Limb.Ok.cons h Limb.Ok.nil) 1 rfl
theorem lit2 (w : World) (x y N : Nat) (us : Array Value) (hus : us = (u32s [x, y]).toArray) (h : x < 4294967296) (h0 : y ≠ 0) (hy : y < 4294967296) (hN : x + 4294967296 * y = N) : Nums (w.alloc (.cells us 59)) (some ⟨w.heap.size, 0, none⟩) 2 (Limb.canon N) := by
  subst hN
  rw [canon_two x y h h0 hy]
  exact Nums.new w [x, y] us hus (Limb.Ok.cons h (Limb.Ok.cons hy Limb.Ok.nil)) 2 rfl
theorem short_canon {w : World} {A : Option Addr} {n N k : Nat} (h : Nums w A n (Limb.canon N)) (hN : N < 4294967296 ^ k) : n ≤ k := by
  rw [← h.len]; exact Limb.canon_len_le N k hN

set_option maxHeartbeats 4000000 in
theorem adding_any (w : World) : Calls Try.prog 21 #[] w (YesPost w) := by
  go_enter Try.func21, Try.ntmps21
  go_wp2_with fail
  refine (of_any 7 _ (by omega)).mono ?_
  rintro e w1 ⟨A1, n1, rfl, o1, b1⟩
  have l1 : n1 ≤ 2 := short_canon o1.nums (by omega)
  go_wp2_with fail
  refine (of_any 5 _ (by omega)).mono ?_
  rintro e w2 ⟨A2, n2, rfl, o2, b2⟩
  have l2 : n2 ≤ 2 := short_canon o2.nums (by omega)
  go_wp2_with fail
  refine (sub_yes A1 A2 n1 n1 n2 n2 _ _ w2 (o1.nums.below b2) (by omega) (by omega) (by omega) o2.nums (by omega) (by omega) (by rw [Limb.val_canon, Limb.val_canon]; omega)).mono ?_
  rintro e w3 ⟨A3, n3, rfl, o3, b3⟩
  rw [Limb.val_canon, Limb.val_canon] at o3
  have l3 : n3 ≤ 2 := short_canon o3.nums (by omega)
  go_wp2_with fail
  refine (of_any 5 _ (by omega)).mono ?_
  rintro e w4 ⟨A4, n4, rfl, o4, b4⟩
  have l4 : n4 ≤ 2 := short_canon o4.nums (by omega)
  go_wp2_with fail
  refine (of_any 7 _ (by omega)).mono ?_
  rintro e w5 ⟨A5, n5, rfl, o5, b5⟩
  have l5 : n5 ≤ 2 := short_canon o5.nums (by omega)
  go_wp2_with fail
  refine (sub_no A4 A5 n4 n4 n5 n5 _ _ w5 (o4.nums.below b5) (by omega) (by omega) o5.nums (by omega) (by omega) (by rw [Limb.val_canon, Limb.val_canon]; omega)).mono ?_
  rintro e w6 ⟨rfl, k6, rfl⟩
  go_wp2_with fail
  have t6 := bl_drewN w5 k6
  have ta7 := bl_alloc (w5.drewN k6) (.cells #[.int .u32 3, .int .u32 0] 59)
  have x7 := Nums.new (w5.drewN k6) [3, 0] #[.int .u32 3, .int .u32 0] rfl (Limb.Ok.cons (by omega) (Limb.Ok.cons (by omega) Limb.Ok.nil)) 2 rfl
  refine (trim_any _ 2 2 [3, 0] _ x7 (by omega) (by omega) (by omega)).mono ?_
  rintro e w7 ⟨A7, n7, rfl, o7, b7⟩
  have e7 : Limb.val [3, 0] = 3 := by simp [Limb.val]
  rw [e7] at o7
  clear e7 x7
  have l7 : n7 ≤ 2 := short_canon o7.nums (by omega)
  go_wp2_with fail
  refine (lsame_yes A7 _ n7 1 n7 _ 3 _ (o7.nums.below (bl_alloc w7 _)) (lit1 w7 3 3 #[.int .u32 3] rfl (by omega) (by omega) rfl) (by omega)).mono ?_
  rintro e w8 ⟨rfl, b8⟩
  have t8 : Below w3.heap.size w3 w8 := (((((b4.next b5).next t6).next ta7).next b7).next (bl_alloc w7 _)).next b8
  clear ta7 b7 o7 b4 b5 t6 o4 o5
  go_wp2_with fail
  refine (of_any 4294967296 _ (by omega)).mono ?_
  rintro e w9 ⟨A9, n9, rfl, o9, b9⟩
  have l9 : n9 ≤ 2 := short_canon o9.nums (by omega)
  go_wp2_with fail
  refine (lsame_yes A9 _ n9 2 n9 _ 4294967296 _ (o9.nums.below (bl_alloc w9 _)) (lit2 w9 0 1 4294967296 #[.int .u32 0, .int .u32 1] rfl (by omega) (by omega) (by omega) rfl) (by omega)).mono ?_
  rintro e w10 ⟨rfl, b10⟩
  have t10 : Below w3.heap.size w3 w10 := ((t8.next b9).next (bl_alloc w9 _)).next b10
  clear t8 b9 o9 b10
  go_wp2_with fail
  refine (of_any 4294967295 _ (by omega)).mono ?_
  rintro e w11 ⟨A11, n11, rfl, o11, b11⟩
  have l11 : n11 ≤ 2 := short_canon o11.nums (by omega)
  go_wp2_with fail
  refine (of_any 1 _ (by omega)).mono ?_
  rintro e w12 ⟨A12, n12, rfl, o12, b12⟩
  have l12 : n12 ≤ 2 := short_canon o12.nums (by omega)
  go_wp2_with fail
  refine (add_any A11 A12 n11 n11 n12 n12 _ _ w12 (o11.nums.below b12) (by omega) (by omega) (by omega) o12.nums (by omega) (by omega) (by omega)).mono ?_
  rintro e w13 ⟨A13, n13, rfl, o13, b13⟩
  rw [Limb.val_canon, Limb.val_canon] at o13
  have l13 : n13 ≤ 2 := short_canon o13.nums (by omega)
  go_wp2_with fail
  refine (lsame_yes A13 _ n13 2 n13 _ 4294967296 _ (o13.nums.below (bl_alloc w13 _)) (lit2 w13 0 1 4294967296 #[.int .u32 0, .int .u32 1] rfl (by omega) (by omega) (by omega) rfl) (by omega)).mono ?_
  rintro e w14 ⟨rfl, b14⟩
  have t14 : Below w3.heap.size w3 w14 := ((((t10.next b11).next b12).next b13).next (bl_alloc w13 _)).next b14
  clear t10 b11 b12 b13 b14 o11 o12 o13
  go_wp2_with fail
  refine (lsame_yes A3 _ n3 1 n3 _ 2 _ (o3.nums.below (t14.next (bl_alloc w14 _))) (lit1 w14 2 2 #[.int .u32 2] rfl (by omega) (by omega) rfl) (by omega)).mono ?_
  rintro e w15 ⟨rfl, b15⟩
  have t15 : Below w3.heap.size w3 w15 := (t14.next (bl_alloc w14 _)).next b15
  clear t14 b15
  go_wp2_with fail
  refine (of_any 3 _ (by omega)).mono ?_
  rintro e w16 ⟨A16, n16, rfl, o16, b16⟩
  have l16 : n16 ≤ 2 := short_canon o16.nums (by omega)
  go_wp2_with fail
  have x17 := Nums.new w16 [3, 0] #[.int .u32 3, .int .u32 0] rfl (Limb.Ok.cons (by omega) (Limb.Ok.cons (by omega) Limb.Ok.nil)) 2 rfl
  refine (cmp_any A16 _ n16 n16 2 2 _ [3, 0] _ (o16.nums.below (bl_alloc w16 _)) (by omega) (by omega) x17 (by omega) (by omega)).mono ?_
  rintro e w17 ⟨rfl, k17, rfl⟩
  have e17 : cmpN (Limb.val (Limb.canon 3)) (Limb.val [3, 0]) = 0 := by rw [Limb.val_canon]; rfl
  rw [e17]
  clear e17 x17
  go_wp2_with fail
  refine (of_any 2 _ (by omega)).mono ?_
  rintro e w18 ⟨A18, n18, rfl, o18, b18⟩
  have l18 : n18 ≤ 2 := short_canon o18.nums (by omega)
  go_wp2_with fail
  refine (of_any 3 _ (by omega)).mono ?_
  rintro e w19 ⟨A19, n19, rfl, o19, b19⟩
  have l19 : n19 ≤ 2 := short_canon o19.nums (by omega)
  go_wp2_with fail
  refine (cmp_any A18 A19 n18 n18 n19 n19 _ _ _ (o18.nums.below b19) (by omega) (by omega) o19.nums (by omega) (by omega)).mono ?_
  rintro e w20 ⟨rfl, k20, rfl⟩
  have e20 : cmpN (Limb.val (Limb.canon 2)) (Limb.val (Limb.canon 3)) = -1 := by rw [Limb.val_canon, Limb.val_canon]; rfl
  rw [e20]
  clear e20
  go_wp2_with fail
  go_ret
  exact ⟨rfl, ((((((((b1.next b2).next b3).next t15).next b16).next (bl_alloc w16 _)).next (bl_drewN _ k17)).next b18).next b19).next (bl_drewN _ k20)⟩
end Go.Proofs.Ytlihnagfmfpdcaa
/- nat.lowest, nat.addProduct, nat.productByLimbs. -/
namespace Go.Proofs.Ytlihnagfmfpdcaa
open Go.RowKit
open Limb (limb limb_lt upto upto_succ upto_all upto_zero)

theorem val_put (zs : List Nat) (o : Nat) (ws : List Nat) (h : o + ws.length ≤ zs.length) :
    Limb.val (put zs o ws) + 4294967296 ^ o * Limb.val (win zs o ws.length) = Limb.val zs + 4294967296 ^ o * Limb.val ws := by
  have hl : (zs.take o).length = o := by rw [List.length_take]; omega
  have e1 : Limb.val (put zs o ws) = Limb.val (zs.take o) + 4294967296 ^ o * (Limb.val ws + 4294967296 ^ ws.length * Limb.val (zs.drop (o + ws.length))) := by
    unfold put
    rw [Limb.val_append, hl, Limb.val_append]
  have e2 : Limb.val zs = Limb.val (zs.take o) + 4294967296 ^ o * (Limb.val (win zs o ws.length) + 4294967296 ^ ws.length * Limb.val (zs.drop (o + ws.length))) := by
    rw [Limb.val_take_drop zs o (by omega), Limb.val_take_drop (zs.drop o) ws.length (by rw [List.length_drop]; omega), List.drop_drop]
    rfl
  rw [e1, e2, Nat.mul_add, Nat.mul_add]
  omega

set_option maxHeartbeats 400000 in
theorem lowest_any (A : Option Addr) (n c k : Nat) (xs : List Nat) (w : World) (hx : Nums w A n xs) (hk : k ≤ n) (hc : n ≤ c) (hm : c ≤ 9223372036854775807) :
    Calls Try.prog 103 #[.slice A n c, .int .i64 (k : Int)] w (TrimDetPost A (Limb.val (xs.take k)) w) := by
  go_enter Try.func103, Try.ntmps103
  go_wp2_with fail
  refine (trimmed_det A k k (xs.take k) w (hx.take hk) (Nat.le_refl _) (by omega)).mono ?_
  rintro e w' ⟨rfl, rfl⟩
  go_wp2_with fail
  go_ret
  exact ⟨rfl, rfl⟩

/-! ### addProduct -/
def APRel (g o m f : Nat) (zs xs : List Nat) (w : World) (k c : Nat) (wr : World) : Prop :=
  ∃ cur : List Nat, cur.length = m ∧ Limb.Ok cur ∧ Row wr g (put zs o cur) ∧ Only g w wr ∧ Limb.val cur + 4294967296 ^ k * c = Limb.val (win zs o m) + upto xs k * f
theorem APRel.start (g o m f : Nat) (zs xs : List Nat) (w : World) (hz : Limb.Ok zs) (hr : Row w g zs) (hn : o + m ≤ zs.length) : APRel g o m f zs xs w 0 0 w :=
  ⟨win zs o m, win_length zs o m hn, win_ok hz o m, by unfold win; rw [put_self zs o m hn]; exact hr, Only.refl g w, by simp [upto_zero]⟩
theorem APRel.only {g o m f : Nat} {zs xs : List Nat} {w : World} {k c : Nat} {wr : World} (h : APRel g o m f zs xs w k c wr) : Only g w wr := by
  obtain ⟨_, _, _, _, hon, _⟩ := h; exact hon
theorem APRel.at_ {g o m f : Nat} {zs xs : List Nat} {w : World} {k c : Nat} {wr : World} (h : APRel g o m f zs xs w k c wr) (hn : o + m ≤ zs.length) (hk : k < m) :
    ∃ z : Nat, z < 4294967296 ∧ wr.cell? ⟨g, o + k, none⟩ = some (.int .u32 (z : Int)) ∧ wr.frozen? ⟨g, o + k, none⟩ = false ∧
      ∀ s c' : Nat, s < 4294967296 → s + 4294967296 * c' = z + limb xs k * f + c → APRel g o m f zs xs w (k + 1) c' (wr.setCell ⟨g, o + k, none⟩ (.int .u32 (s : Int))) := by
  obtain ⟨cur, hl, ho, hr, hon, hv⟩ := h
  have hfit : o + cur.length ≤ zs.length := by omega
  refine ⟨cur.getD k 0, ho.getD k, ?_, hr.frozen _, fun s c' hs he => ?_⟩
  · rw [hr.cell (i := o + k) (by rw [put_length _ _ _ hfit]; omega), put_getD zs o cur hfit k (by omega)]
  · refine ⟨cur.set k s, by simp [hl], ho.set k s hs, ?_, hon.setCell _ _, ?_⟩
    · rw [← put_set zs o cur hfit k s (by omega)]
      exact hr.set_ _ _
    · rw [Limb.step_set cur k s (limb xs k * f) c c' (by omega) _ hv he, upto_succ, Nat.add_mul, Nat.mul_assoc, Nat.add_assoc]

def APPost (g o m f : Nat) (zs xs : List Nat) (w : World) (e : Ending) (w' : World) : Prop :=
  ∃ (cur : List Nat) (cy : Nat), e = .returned (.int .u32 (cy : Int)) ∧ cy < 4294967296 ∧ cur.length = m ∧ Limb.Ok cur ∧ Row w' g (put zs o cur) ∧ Only g w w' ∧ Hid (Limb.val cur + 4294967296 ^ m * cy = Limb.val (win zs o m) + Limb.val xs * f)

set_option maxHeartbeats 1000000 in
theorem addProduct_any (g o m c f : Nat) (zs : List Nat) (A : Option Addr) (d : Nat) (xs : List Nat) (w : World) (hr : Row w g zs) (hz : Limb.Ok zs) (hn : o + m ≤ zs.length) (hc : m ≤ 4611686018427387904) (hcc : m ≤ c)
    (hx : Nums w A m xs) (hap : 0 < m → Apart A g) (hf : f < 4294967296) :
    Calls Try.prog 102 #[.slice (some ⟨g, o, none⟩) m c, .slice A m d, .int .u32 (f : Int)] w (APPost g o m f zs xs w) := by
  have R := hide (APRel.start g o m f zs xs w hz hr hn)
  clear hr hz
  go_enter Try.func102, Try.ntmps102
  go_wp2_with fail
  go_loopw [7, 12] (fun c i wr => ∃ k z : Nat, k ≤ m ∧ z < 4294967296 ∧ i = .int .i64 (k : Int) ∧ c = .int .u64 (z : Int) ∧ Hid (APRel g o m f zs xs w k z wr)) (fun _ i _ => m - (intOf i).toNat)
  case atStart => exact ⟨0, 0, Nat.zero_le _, by omega, rfl, rfl, R.out⟩
  case round =>
    clear R
    obtain ⟨k, z, hk, hz1, rfl, rfl, R⟩ := hrel
    by_cases hkm : k < m
    · have hxr := hx.grown R.out.only (hap (by omega))
      obtain ⟨b1, o1, y, rfl, hyb, hye, hyc⟩ := hxr.at_ hkm
      obtain ⟨zz, hzz, hcell, hfroz, hstep⟩ := R.out.at_ hn hkm
      have hpn := prod_le _ _ hyb hf
      obtain ⟨hp1, hp2, hp3⟩ := prod_int _ _ hyb hf
      have HP := Lib.hid hp3
      have HY := Lib.hid hye
      have HS := hide hstep
      clear hye hstep hp3 hxr
      go_wp2_with fail
      have es : ((z : Int) + ((y : Int) * (f : Int) + (zz : Int))) % 4294967296 = (((z + (y * f + zz)) % 4294967296 : Nat) : Int) := by have := HP.out; omega
      have ec : ((z : Int) + ((y : Int) * (f : Int) + (zz : Int))) / 4294967296 = (((z + (y * f + zz)) / 4294967296 : Nat) : Int) := by have := HP.out; omega
      rw [es, ec]
      clear es ec
      go_roundw
      case rel => exact ⟨k + 1, _, by omega, by omega, by go_num, rfl, HS.out _ _ (by omega) (by have e := HY.out; unfold limb; rw [← e]; omega)⟩
      case measure => simp [intOf]; omega
    · obtain rfl : k = m := by omega
      clear hkm
      go_wp2_with fail
      go_ret
      obtain ⟨cur, hl, ho, hr, hon, hv⟩ := R.out
      exact ⟨cur, z, rfl, hz1, hl, ho, hr, hon, by show _ = _; rw [hv, upto_all xs k (by rw [hx.len]; omega)]⟩

/-! ### productByLimbs -/
theorem mul_lt_pow (a b n m : Nat) (ha : a < 4294967296 ^ n) (hb : b < 4294967296 ^ m) : a * b < 4294967296 ^ (n + m) := by
  rw [Nat.pow_add]
  exact Nat.mul_lt_mul'' ha hb
theorem upto_lt (ys : List Nat) (h : Limb.Ok ys) (k : Nat) : upto ys k < 4294967296 ^ k := by
  unfold upto
  have h1 := Limb.val_lt (ys.take k) (h.take k)
  exact Nat.lt_of_lt_of_le h1 (Limb.pow_mono (by rw [List.length_take]; omega))
theorem pb_alg (V P Q W C2 c cy ay T new old : Nat) (h1 : new + Q * old = P + Q * cy) (h0 : old = 0) (h2 : P + c * W = V + c * C2) (h3 : C2 + T * cy = W + ay) (h4 : Q = c * T) : new = V + c * ay := by
  subst h0
  subst h4
  have e : c * (C2 + T * cy) = c * (W + ay) := by rw [h3]
  rw [Nat.mul_add, Nat.mul_add, ← Nat.mul_assoc] at e
  rw [Nat.mul_zero] at h1
  omega
def PBRel (g n m : Nat) (xs ys : List Nat) (w : World) (k : Nat) (wr : World) : Prop :=
  ∃ cur : List Nat, cur.length = n + m ∧ Limb.Ok cur ∧ Row wr g cur ∧ Below w.heap.size w wr ∧ Limb.val cur = Limb.val xs * upto ys k
theorem pb_step (cur cur2 xs ys : List Nat) (n m k cy : Nat) (hl : cur.length = n + m) (hx : Limb.val xs < 4294967296 ^ n) (hy : Limb.Ok ys) (hk : k < m) (hv : Limb.val cur = Limb.val xs * upto ys k) (hl2 : cur2.length = n)
    (h : Limb.val cur2 + 4294967296 ^ n * cy = Limb.val (win cur k n) + Limb.val xs * limb ys k) : Limb.val ((put cur k cur2).set (k + n) cy) = Limb.val xs * upto ys (k + 1) := by
  have hfit : k + cur2.length ≤ cur.length := by omega
  have e1 := val_put cur k cur2 hfit
  rw [hl2] at e1
  have hlt : Limb.val cur < 4294967296 ^ (k + n) := by
    rw [hv, Nat.add_comm k n]; exact mul_lt_pow _ _ _ _ hx (upto_lt ys hy k)
  have e2 := Limb.val_set (put cur k cur2) (k + n) cy (by rw [put_length _ _ _ hfit]; omega)
  have e3 : (put cur k cur2).getD (k + n) 0 = 0 := by
    have h0 := Limb.limb_zero_of_lt cur (k + n) hlt
    unfold limb at h0
    unfold put
    have hl3 : (cur.take k).length = k := by rw [List.length_take]; omega
    rw [List.getD_eq_getElem?_getD, List.getElem?_append_right (by omega), hl3, List.getElem?_append_right (by omega), List.getElem?_drop, ← List.getD_eq_getElem?_getD, ← h0]
    congr 1
    omega
  have := pb_alg _ _ _ _ _ _ _ _ _ _ _ e2 e3 e1 h (Nat.pow_add 4294967296 k n)
  rw [this, hv, upto_succ, Nat.mul_add, Nat.mul_left_comm]

theorem Nums.lt {w : World} {A : Option Addr} {n : Nat} {xs : List Nat} (h : Nums w A n xs) : Limb.val xs < 4294967296 ^ n := by
  have := Limb.val_lt xs h.ok; rwa [h.len] at this

set_option maxHeartbeats 1000000 in
theorem productByLimbs_any (A B : Option Addr) (n c m d : Nat) (xs ys : List Nat) (w : World) (hx : Nums w A n xs) (hcn : n ≤ c) (hc9 : c ≤ 9223372036854775807) (hn40 : n ≤ 1099511627776) (hy : Nums w B m ys) (hdm : m ≤ d) (hd9 : d ≤ 9223372036854775807) (hmn : m ≤ n) :
    Calls Try.prog 88 #[.slice A n c, .slice B m d] w (CutPost (Limb.val xs * Limb.val ys) w) := by
  go_enter Try.func88, Try.ntmps88
  go_wp2_with (at_make; refine wpList_make_u32 _ rfl _ _ rfl _ (n + m) rfl rfl (by omega) (by omega) ?_; intro w1 hr1 hb1 hs1)
  have R : Hid (PBRel w.heap.size n m xs ys w 0 w1) := ⟨List.replicate (n + m) 0, by simp, Limb.Ok.replicate _, hr1, hb1, by rw [Limb.val_replicate, upto_zero, Nat.mul_zero]⟩
  clear hr1
  go_loopw [16] (fun i wr => ∃ k : Nat, k ≤ m ∧ i = .int .i64 (k : Int) ∧ w.heap.size < wr.heap.size ∧ Hid (PBRel w.heap.size n m xs ys w k wr)) (fun i _ => m - (intOf i).toNat)
  case atStart => exact ⟨0, Nat.zero_le _, rfl, hs1, R.out⟩
  case round =>
    clear R hb1 hs1
    obtain ⟨k, hk, rfl, hsz, R⟩ := hrel
    obtain ⟨cur, hl, ho, hr, hb, hv⟩ := R.out
    have HL := Lib.hid hl
    have HV := Lib.hid hv
    clear hv R
    by_cases hkm : k < m
    · obtain ⟨b1, o1, y, rfl, hyb, hye, hyc⟩ := (hy.below hb).at_ hkm
      have HY := Lib.hid hye
      clear hye hl
      go_wp2_with fail
      refine (addProduct_any w.heap.size k n _ y cur A c xs wr hr ho (by rw [HL.out]; omega) (by omega) (by omega) (hx.below hb) (fun h => hx.apart h (Nat.le_refl _)) hyb).mono ?_
      rintro e w2 ⟨cur2, cy, rfl, hcy, hl2, ho2, hr2, hon2, HE⟩
      have HL2 := Lib.hid hl2
      clear hl2
      have hfit : k + cur2.length ≤ cur.length := by rw [HL.out, HL2.out]; omega
      have hc2 := hr2.cell (i := k + n) (by rw [put_length _ _ _ hfit, HL.out]; omega)
      have hf2 := hr2.frozen (k + n)
      go_wp2_with fail
      go_roundw
      case rel =>
        refine ⟨k + 1, by omega, by go_num, by have := hon2.size; simp [World.setCell]; omega, _, ?_, (put_ok ho k ho2).set (k + n) cy hcy, hr2.set_ _ _, (hb.trans (hon2.below (by omega) (Nat.le_refl _))).setCell (Nat.le_refl _) _, ?_⟩
        · rw [List.length_set, put_length _ _ _ hfit]; exact HL.out
        · exact pb_step cur cur2 xs ys n m k cy HL.out hx.lt hy.ok hkm HV.out HL2.out (by have e := HY.out; unfold limb; rw [← e]; exact HE.out)
      case measure => simp [intOf]; omega
    · obtain rfl : k = m := by omega
      clear hkm
      go_wp2_with fail
      refine (trimmed_row w.heap.size (n + k) _ (Limb.val xs * Limb.val ys) w.heap.size cur wr hr ho (by rw [hl]; omega) (by omega) (by omega) (Nat.le_refl _) (by rw [List.take_of_length_le (by omega), HV.out, upto_all ys k (by rw [hy.len]; omega)])).mono ?_
      rintro e w4 ⟨A', j, rfl, how, rfl⟩
      go_wp2_with fail
      go_ret
      exact ⟨A', j, rfl, how, hb⟩
end Go.Proofs.Ytlihnagfmfpdcaa
