/- Texts of one seat, put together: MulB. -/
import Derived.Test.YtlihnagfmfpdcaaB09
import Derived.Deep.RegionHeld3
import Derived.BigRegion
/- nat.product and its three ways. -/
namespace Go.Proofs.Ytlihnagfmfpdcaa
open Go.RowKit
open Limb (limb limb_lt upto upto_succ upto_all upto_zero)

theorem lt_L (a : Nat) : a < 4294967296 ^ L a := Limb.canon_lt a
theorem L_le {a k : Nat} (h : a < 4294967296 ^ k) : L a ≤ k := Limb.canon_len_le a k h
theorem L_mono {a b : Nat} (h : a ≤ b) : L a ≤ L b := Limb.canon_len_mono h
theorem L_zero : L 0 = 0 := rfl
theorem L_mul (a b : Nat) : L (a * b) ≤ L a + L b := L_le (mul_lt_pow a b _ _ (lt_L a) (lt_L b))
theorem canon_drop (a k : Nat) : (Limb.canon a).drop k = Limb.canon (a / 4294967296 ^ k) := by
  induction k generalizing a with
  | zero => simp
  | succ k ih =>
    by_cases h : a = 0
    · subst h; simp [Limb.canon_zero]
    · rw [Limb.canon_pos a h, List.drop_succ_cons, ih, Nat.pow_succ, Nat.mul_comm (4294967296 ^ k), Nat.div_div_eq_div_mul]
theorem val_canon_take (a k : Nat) : Limb.val ((Limb.canon a).take k) = a % 4294967296 ^ k := by
  by_cases h : k ≤ (Limb.canon a).length
  · have e := Limb.val_take_drop (Limb.canon a) k h
    rw [Limb.val_canon, canon_drop, Limb.val_canon] at e
    have e2 := Nat.mod_add_div a (4294967296 ^ k)
    omega
  · rw [List.take_of_length_le (by omega), Limb.val_canon, Nat.mod_eq_of_lt]
    exact Nat.lt_of_lt_of_le (Limb.canon_lt a) (Limb.pow_mono (by omega))
theorem L_div (a k : Nat) : L (a / 4294967296 ^ k) = L a - k := by
  unfold L
  rw [← canon_drop, List.length_drop]
theorem win_zero (zs : List Nat) (o n : Nat) (h : Limb.val zs < 4294967296 ^ o) : Limb.val (win zs o n) = 0 := by
  have e : ∀ i, limb (win zs o n) i = limb ([] : List Nat) i := by
    intro i
    have e0 : limb ([] : List Nat) i = 0 := Limb.limb_beyond (Nat.zero_le _)
    rw [e0]
    unfold win
    by_cases hi : i < n
    · have h1 : limb ((zs.drop o).take n) i = limb zs (o + i) := by
        unfold limb
        rw [List.getD_eq_getElem?_getD, List.getD_eq_getElem?_getD, List.getElem?_take_of_lt hi, List.getElem?_drop]
      rw [h1]
      exact Limb.limb_zero_of_lt zs (o + i) (Nat.lt_of_lt_of_le h (Limb.pow_mono (by omega)))
    · exact Limb.limb_beyond (by rw [List.length_take]; omega)
  rw [Limb.val_eq_of_limbs _ _ e]
  rfl
theorem put_zero_val (zs : List Nat) (o : Nat) (ws : List Nat) (h : o + ws.length ≤ zs.length) (hz : Limb.val zs < 4294967296 ^ o) : Limb.val (put zs o ws) = Limb.val zs + 4294967296 ^ o * Limb.val ws := by
  have e := val_put zs o ws h
  rw [win_zero zs o ws.length hz, Nat.mul_zero] at e
  omega
theorem inc_val (zs : List Nat) (o n x : Nat) (hl : o + n = zs.length) (hlt : Limb.val zs + 4294967296 ^ o * x < 4294967296 ^ zs.length) : Limb.val (put zs o (Limb.fixed n (Limb.val (win zs o n) + x))) = Limb.val zs + 4294967296 ^ o * x := by
  have hf : (Limb.fixed n (Limb.val (win zs o n) + x)).length = n := Limb.fixed_length _ _
  have e := val_put zs o (Limb.fixed n (Limb.val (win zs o n) + x)) (by omega)
  rw [hf, Limb.fixed_val] at e
  have hw : 4294967296 ^ o * Limb.val (win zs o n) ≤ Limb.val zs := by
    have e2 := Limb.val_take_drop zs o (by omega)
    have e3 : win zs o n = zs.drop o := by unfold win; rw [List.take_of_length_le (by rw [List.length_drop]; omega)]
    rw [e3]
    omega
  have hs : Limb.val (win zs o n) + x < 4294967296 ^ n := by
    have h1 : 4294967296 ^ o * (Limb.val (win zs o n) + x) < 4294967296 ^ o * 4294967296 ^ n := by
      rw [← Nat.pow_add, hl, Nat.mul_add]
      omega
    exact Nat.lt_of_mul_lt_mul_left h1
  rw [Nat.mod_eq_of_lt hs, Nat.mul_add] at e
  omega

theorem long_val (a b half n m : Nat) (hn : n = L a) (hm : m = L b) (h : half ≤ n) :
    (a % 4294967296 ^ half * b) + 4294967296 ^ half * (a / 4294967296 ^ half * b) = a * b ∧ a * b < 4294967296 ^ (n + m) ∧ L (a % 4294967296 ^ half * b) ≤ half + m ∧ L (a / 4294967296 ^ half * b) ≤ n - half + m := by
  refine ⟨?_, ?_, ?_, ?_⟩
  · rw [← Nat.mul_assoc, ← Nat.add_mul, Nat.mod_add_div]
  · subst hn hm; exact mul_lt_pow a b _ _ (lt_L a) (lt_L b)
  · have h1 := L_mul (a % 4294967296 ^ half) b
    have h2 : L (a % 4294967296 ^ half) ≤ half := L_le (Nat.mod_lt _ (Nat.pow_pos (by omega)))
    omega
  · have h1 := L_mul (a / 4294967296 ^ half) b
    rw [L_div] at h1
    omega

theorem lowest_canon (A : Option Addr) (n c k a : Nat) (w : World) (hx : Nums w A n (Limb.canon a)) (hk : k ≤ n) (hc : n ≤ c) (hm : c ≤ 9223372036854775807) :
    Calls Try.prog 103 #[.slice A n c, .int .i64 (k : Int)] w (TrimDetPost A (a % 4294967296 ^ k) w) := by
  have h := lowest_any A n c k _ w hx hk hc hm
  rw [val_canon_take] at h
  exact h
theorem cut_canon (A : Option Addr) (n k a : Nat) (w : World) (hx : Nums w A n (Limb.canon a)) (hk : k ≤ n) : Nums w (cutA A (a % 4294967296 ^ k)) (L (a % 4294967296 ^ k)) (Limb.canon (a % 4294967296 ^ k)) := by
  have h := (isCut_det w A _ k (hx.take (k := k) hk)).2.2.1
  rw [val_canon_take] at h
  exact h
theorem rest_canon (A : Option Addr) (n c k a : Nat) (w : World) (hx : Nums w A n (Limb.canon a)) (hk : k < n) (hc : n ≤ c) : Nums w (A.map (·.add k)) (n - k) (Limb.canon (a / 4294967296 ^ k)) := by
  have h := hx.cut (k := k) (cap := c) (by omega) hc
  rw [canon_drop, if_neg (by omega)] at h
  exact h
/-- What is known of nat.product for fewer limbs. -/
def ProductTo (K : Nat) : Prop := ∀ (A B : Option Addr) (n c m d a b : Nat) (w : World), n + m < K → Nums w A n (Limb.canon a) → n ≤ c → c ≤ 9223372036854775807 → Nums w B m (Limb.canon b) → m ≤ d → d ≤ 9223372036854775807 → n + m ≤ 549755813888 →
  Calls Try.prog 52 #[.slice A n c, .slice B m d] w (CutPost (a * b) w)

theorem long_put (n m n2 low : Nat) (h : n2 = (Limb.canon low).length) (hle : n2 ≤ n + m) :
    Limb.Ok (put (List.replicate (n + m) 0) 0 (Limb.canon low)) ∧ (put (List.replicate (n + m) 0) 0 (Limb.canon low)).length = n + m ∧ Limb.val (put (List.replicate (n + m) 0) 0 (Limb.canon low)) = low := by
  refine ⟨put_ok (Limb.Ok.replicate _) _ (Limb.ok_canon _), by rw [put_length _ _ _ (by simp; omega)]; simp, ?_⟩
  rw [put_zero_val _ _ _ (by simp; omega) (by rw [Limb.val_replicate]; exact Nat.pow_pos (by omega)), Limb.val_replicate, Limb.val_canon]
  simp
set_option maxHeartbeats 4000000 in
theorem productOfLong_any (A B : Option Addr) (n c m d a b half : Nat) (w : World) (IH : ProductTo (n + m)) (hx : Nums w A n (Limb.canon a)) (hc : n ≤ c) (hm : c ≤ 9223372036854775807) (hy : Nums w B m (Limb.canon b)) (hd : m ≤ d) (hmd : d ≤ 9223372036854775807) (h39 : n + m ≤ 549755813888)
    (hh : half < n) (hh0 : 0 < half) :
    Calls Try.prog 89 #[.slice A n c, .slice B m d, .int .i64 (half : Int)] w (CutPost (a * b) w) := by
  have HT := hide (long_val a b half n m hx.len.symm hy.len.symm (by omega))
  have IHH := hide IH
  clear IH
  have ll : L (a % 4294967296 ^ half) ≤ half := L_le (Nat.mod_lt _ (Nat.pow_pos (by omega)))
  go_enter Try.func89, Try.ntmps89
  go_wp2_with (at_make; refine wpList_make_u32 _ rfl _ _ rfl _ (n + m) rfl rfl (by omega) (by omega) ?_; intro w1 hr1 hb1 hs1)
  refine (lowest_any A n c half _ w1 (hx.below hb1) (by omega) hc hm).mono ?_
  rintro e w' ⟨rfl, rfl⟩
  rw [val_canon_take]
  go_wp2_with fail
  have hx1 := isCut_det w1 A _ half ((hx.below hb1).take (k := half) (by omega))
  rw [val_canon_take] at hx1
  refine (IHH.out (cutA A (a % 4294967296 ^ half)) B _ _ m d (a % 4294967296 ^ half) b w1 (by omega) hx1.2.2.1 (Nat.le_refl _) (by omega) (hy.below hb1) hd hmd (by omega)).mono ?_
  rintro e w2 ⟨A2, n2, rfl, o2, b2⟩
  have l2 : n2 ≤ half + m := by rw [o2.len]; exact HT.out.2.2.1
  clear hx1
  go_wp2_with (with_reducible refine wpList_copy_u32 rfl _ _ rfl w.heap.size 0 _ _ _ _ n2 n2 rfl (fun _ => rfl) rfl _ _ (hr1.below b2 hs1) o2.nums (by omega) (by simp; omega) ?_; intro w3 hr3 ho3)
  have b3 : Below w.heap.size w w3 := (hb1.next b2).trans (ho3.below (by have := b2.size; omega) (Nat.le_refl _))
  have hx3 := (hx.below b3).cut (k := half) (cap := c) (by omega) hc
  rw [canon_drop] at hx3
  have hsz3 : w.heap.size < w3.heap.size := by have := ho3.size; have := b2.size; omega
  have f1 : (half : Int) ≤ (n : Int) + (m : Int) := by omega
  have f2 : (half : Int) ≤ (n : Int) := by omega
  have f3 : (n + m = half) = False := by simp; omega
  have f4 : (c = half) = False := by simp; omega
  rw [if_neg (by omega)] at hx3
  have hr3 : Row w3 w.heap.size (put (List.replicate (n + m) 0) 0 (Limb.canon (a % 4294967296 ^ half * b))) := hr3
  have l3 : n2 ≤ n + m := by omega
  have HN2 := Lib.hid o2.len
  have HP := hide (long_put n m n2 (a % 4294967296 ^ half * b) HN2.out l3)
  generalize put (List.replicate (n + m) 0) 0 (Limb.canon (a % 4294967296 ^ half * b)) = zs at hr3 HP
  go_region_with (first
    | (go_at_call 52; refine (IHH.out _ B _ _ m d (a / 4294967296 ^ half) b _ (by omega) hx3.drew (by omega) (by omega) (hy.below b3).drew hd hmd (by omega)).mono ?_; rintro e w4 ⟨A4, n4, rfl, o4, b4⟩)
    | (go_at_call 94; (refine (increase_any w.heap.size half (n + m - half) _ zs A4 n4 n4 _ _ (hr3.drew.below b4 hsz3) HP.out.1 (by rw [HP.out.2.1]; omega) (by omega) o4.nums (by rw [o4.len]; exact Nat.le_trans HT.out.2.2.2 (by omega)) (fun h => o4.apart h hsz3)).mono ?_); rintro e w5 ⟨rfl, hr5, ho5⟩))
  go_wp2_with fail
  have hv : Limb.val (put zs half (Limb.fixed (n + m - half) (Limb.val (win zs half (n + m - half)) + Limb.val (Limb.canon (a / 4294967296 ^ half * b))))) = a * b := by
    rw [inc_val zs half _ _ (by rw [HP.out.2.1]; omega) (by rw [HP.out.2.1, HP.out.2.2, Limb.val_canon, HT.out.1]; exact HT.out.2.1), HP.out.2.2, Limb.val_canon, HT.out.1]
  have hlen : (put zs half (Limb.fixed (n + m - half) (Limb.val (win zs half (n + m - half)) + Limb.val (Limb.canon (a / 4294967296 ^ half * b))))).length = n + m := by
    rw [put_length _ _ _ (by rw [Limb.fixed_length, HP.out.2.1]; omega)]; exact HP.out.2.1
  have hok := put_ok HP.out.1 half (Limb.fixed_ok (n + m - half) (Limb.val (win zs half (n + m - half)) + Limb.val (Limb.canon (a / 4294967296 ^ half * b))))
  refine (trimmed_row w.heap.size (n + m) _ (a * b) w.heap.size _ _ hr5 hok (by rw [hlen]; exact Nat.le_refl _) (by omega) (by omega) (Nat.le_refl _) (by rw [List.take_of_length_le (by rw [hlen]; exact Nat.le_refl _)]; exact hv)).mono ?_
  rintro e w6 ⟨A', j, rfl, how, rfl⟩
  clear hv hlen hok
  go_wp2_with fail
  go_ret
  exact ⟨A', j, rfl, how, (b3.drew.next b4).trans (ho5.below (by have := b4.size; simp at this; omega) (Nat.le_refl _))⟩
end Go.Proofs.Ytlihnagfmfpdcaa
