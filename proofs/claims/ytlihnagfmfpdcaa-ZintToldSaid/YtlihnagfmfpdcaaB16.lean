/- Texts of one seat, put together: Alive1. -/
import Derived.Test.YtlihnagfmfpdcaaB14
/- plumblinelaw01.adding: the simple calls are alive. -/
namespace Go.Proofs.Ytlihnagfmfpdcaa
open Go.RowKit

theorem canon_one (x : Nat) (h0 : x ≠ 0) (h : x < 4294967296) : Limb.canon x = [x] := by
  rw [Limb.canon_pos x h0]
  have e1 : x % 4294967296 = x := by omega
  have e2 : x / 4294967296 = 0 := by omega
  rw [e1, e2, Limb.canon_zero]
theorem canon_two (x y : Nat) (h : x < 4294967296) (h0 : y ≠ 0) (hy : y < 4294967296) : Limb.canon (x + 4294967296 * y) = [x, y] := by
  rw [Limb.canon_pos _ (by omega)]
  have e1 : (x + 4294967296 * y) % 4294967296 = x := by omega
  have e2 : (x + 4294967296 * y) / 4294967296 = y := by omega
  rw [e1, e2, canon_one y h0 hy]
theorem lit1 (w : World) (x N : Nat) (us : Array Value) (hus : us = (u32s [x]).toArray) (h0 : x ≠ 0) (h : x < 4294967296) (hN : x = N) : Nums (w.alloc (.cells us 59)) (some ⟨w.heap.size, 0, none⟩) 1 (Limb.canon N) := by
  subst hN
  rw [canon_one x h0 h]
  exact Nums.new w [x] us hus (Limb.Ok.cons h Limb.Ok.nil) 1 rfl
theorem lit2 (w : World) (x y N : Nat) (us : Array Value) (hus : us = (u32s [x, y]).toArray) (h : x < 4294967296) (h0 : y ≠ 0) (hy : y < 4294967296) (hN : x + 4294967296 * y = N) : Nums (w.alloc (.cells us 59)) (some ⟨w.heap.size, 0, none⟩) 2 (Limb.canon N) := by
  subst hN
  rw [canon_two x y h h0 hy]
  exact Nums.new w [x, y] us hus (Limb.Ok.cons h (Limb.Ok.cons hy Limb.Ok.nil)) 2 rfl
theorem short_canon {w : World} {A : Option Addr} {n N k : Nat} (h : Nums w A n (Limb.canon N)) (hN : N < 4294967296 ^ k) : n ≤ k := by
  rw [← h.len]; exact Limb.canon_len_le N k hN

set_option maxHeartbeats 4000000 in
theorem adding_any (w : World) : Calls Try.prog 21 #[] w (YesPost w) := by
  go_enter Try.func21, Try.ntmps21
  go_wp2_with fail
  refine (of_any 7 _ (by omega)).mono ?_
  rintro e w1 ⟨A1, n1, rfl, o1, b1⟩
  have l1 : n1 ≤ 2 := short_canon o1.nums (by omega)
  go_wp2_with fail
  refine (of_any 5 _ (by omega)).mono ?_
  rintro e w2 ⟨A2, n2, rfl, o2, b2⟩
  have l2 : n2 ≤ 2 := short_canon o2.nums (by omega)
  go_wp2_with fail
  refine (sub_yes A1 A2 n1 n1 n2 n2 _ _ w2 (o1.nums.below b2) (by omega) (by omega) (by omega) o2.nums (by omega) (by omega) (by rw [Limb.val_canon, Limb.val_canon]; omega)).mono ?_
  rintro e w3 ⟨A3, n3, rfl, o3, b3⟩
  rw [Limb.val_canon, Limb.val_canon] at o3
  have l3 : n3 ≤ 2 := short_canon o3.nums (by omega)
  go_wp2_with fail
  refine (of_any 5 _ (by omega)).mono ?_
  rintro e w4 ⟨A4, n4, rfl, o4, b4⟩
  have l4 : n4 ≤ 2 := short_canon o4.nums (by omega)
  go_wp2_with fail
  refine (of_any 7 _ (by omega)).mono ?_
  rintro e w5 ⟨A5, n5, rfl, o5, b5⟩
  have l5 : n5 ≤ 2 := short_canon o5.nums (by omega)
  go_wp2_with fail
  refine (sub_no A4 A5 n4 n4 n5 n5 _ _ w5 (o4.nums.below b5) (by omega) (by omega) o5.nums (by omega) (by omega) (by rw [Limb.val_canon, Limb.val_canon]; omega)).mono ?_
  rintro e w6 ⟨rfl, k6, rfl⟩
  go_wp2_with fail
  have t6 := bl_drewN w5 k6
  have ta7 := bl_alloc (w5.drewN k6) (.cells #[.int .u32 3, .int .u32 0] 59)
  have x7 := Nums.new (w5.drewN k6) [3, 0] #[.int .u32 3, .int .u32 0] rfl (Limb.Ok.cons (by omega) (Limb.Ok.cons (by omega) Limb.Ok.nil)) 2 rfl
  refine (trim_any _ 2 2 [3, 0] _ x7 (by omega) (by omega) (by omega)).mono ?_
  rintro e w7 ⟨A7, n7, rfl, o7, b7⟩
  have e7 : Limb.val [3, 0] = 3 := by simp [Limb.val]
  rw [e7] at o7
  clear e7 x7
  have l7 : n7 ≤ 2 := short_canon o7.nums (by omega)
  go_wp2_with fail
  refine (lsame_yes A7 _ n7 1 n7 _ 3 _ (o7.nums.below (bl_alloc w7 _)) (lit1 w7 3 3 #[.int .u32 3] rfl (by omega) (by omega) rfl) (by omega)).mono ?_
  rintro e w8 ⟨rfl, b8⟩
  have t8 : Below w3.heap.size w3 w8 := (((((b4.next b5).next t6).next ta7).next b7).next (bl_alloc w7 _)).next b8
  clear ta7 b7 o7 b4 b5 t6 o4 o5
  go_wp2_with fail
  refine (of_any 4294967296 _ (by omega)).mono ?_
  rintro e w9 ⟨A9, n9, rfl, o9, b9⟩
  have l9 : n9 ≤ 2 := short_canon o9.nums (by omega)
  go_wp2_with fail
  refine (lsame_yes A9 _ n9 2 n9 _ 4294967296 _ (o9.nums.below (bl_alloc w9 _)) (lit2 w9 0 1 4294967296 #[.int .u32 0, .int .u32 1] rfl (by omega) (by omega) (by omega) rfl) (by omega)).mono ?_
  rintro e w10 ⟨rfl, b10⟩
  have t10 : Below w3.heap.size w3 w10 := ((t8.next b9).next (bl_alloc w9 _)).next b10
  clear t8 b9 o9 b10
  go_wp2_with fail
  refine (of_any 4294967295 _ (by omega)).mono ?_
  rintro e w11 ⟨A11, n11, rfl, o11, b11⟩
  have l11 : n11 ≤ 2 := short_canon o11.nums (by omega)
  go_wp2_with fail
  refine (of_any 1 _ (by omega)).mono ?_
  rintro e w12 ⟨A12, n12, rfl, o12, b12⟩
  have l12 : n12 ≤ 2 := short_canon o12.nums (by omega)
  go_wp2_with fail
  refine (add_any A11 A12 n11 n11 n12 n12 _ _ w12 (o11.nums.below b12) (by omega) (by omega) (by omega) o12.nums (by omega) (by omega) (by omega)).mono ?_
  rintro e w13 ⟨A13, n13, rfl, o13, b13⟩
  rw [Limb.val_canon, Limb.val_canon] at o13
  have l13 : n13 ≤ 2 := short_canon o13.nums (by omega)
  go_wp2_with fail
  refine (lsame_yes A13 _ n13 2 n13 _ 4294967296 _ (o13.nums.below (bl_alloc w13 _)) (lit2 w13 0 1 4294967296 #[.int .u32 0, .int .u32 1] rfl (by omega) (by omega) (by omega) rfl) (by omega)).mono ?_
  rintro e w14 ⟨rfl, b14⟩
  have t14 : Below w3.heap.size w3 w14 := ((((t10.next b11).next b12).next b13).next (bl_alloc w13 _)).next b14
  clear t10 b11 b12 b13 b14 o11 o12 o13
  go_wp2_with fail
  refine (lsame_yes A3 _ n3 1 n3 _ 2 _ (o3.nums.below (t14.next (bl_alloc w14 _))) (lit1 w14 2 2 #[.int .u32 2] rfl (by omega) (by omega) rfl) (by omega)).mono ?_
  rintro e w15 ⟨rfl, b15⟩
  have t15 : Below w3.heap.size w3 w15 := (t14.next (bl_alloc w14 _)).next b15
  clear t14 b15
  go_wp2_with fail
  refine (of_any 3 _ (by omega)).mono ?_
  rintro e w16 ⟨A16, n16, rfl, o16, b16⟩
  have l16 : n16 ≤ 2 := short_canon o16.nums (by omega)
  go_wp2_with fail
  have x17 := Nums.new w16 [3, 0] #[.int .u32 3, .int .u32 0] rfl (Limb.Ok.cons (by omega) (Limb.Ok.cons (by omega) Limb.Ok.nil)) 2 rfl
  refine (cmp_any A16 _ n16 n16 2 2 _ [3, 0] _ (o16.nums.below (bl_alloc w16 _)) (by omega) (by omega) x17 (by omega) (by omega)).mono ?_
  rintro e w17 ⟨rfl, k17, rfl⟩
  have e17 : cmpN (Limb.val (Limb.canon 3)) (Limb.val [3, 0]) = 0 := by rw [Limb.val_canon]; rfl
  rw [e17]
  clear e17 x17
  go_wp2_with fail
  refine (of_any 2 _ (by omega)).mono ?_
  rintro e w18 ⟨A18, n18, rfl, o18, b18⟩
  have l18 : n18 ≤ 2 := short_canon o18.nums (by omega)
  go_wp2_with fail
  refine (of_any 3 _ (by omega)).mono ?_
  rintro e w19 ⟨A19, n19, rfl, o19, b19⟩
  have l19 : n19 ≤ 2 := short_canon o19.nums (by omega)
  go_wp2_with fail
  refine (cmp_any A18 A19 n18 n18 n19 n19 _ _ _ (o18.nums.below b19) (by omega) (by omega) o19.nums (by omega) (by omega)).mono ?_
  rintro e w20 ⟨rfl, k20, rfl⟩
  have e20 : cmpN (Limb.val (Limb.canon 2)) (Limb.val (Limb.canon 3)) = -1 := by rw [Limb.val_canon, Limb.val_canon]; rfl
  rw [e20]
  clear e20
  go_wp2_with fail
  go_ret
  exact ⟨rfl, ((((((((b1.next b2).next b3).next t15).next b16).next (bl_alloc w16 _)).next (bl_drewN _ k17)).next b18).next b19).next (bl_drewN _ k20)⟩
end Go.Proofs.Ytlihnagfmfpdcaa
