/- nat.product, nat.Mul; plumblineref01.Mul. -/
import Derived.Test.YtlihnagfmfpdcaaMulC
namespace Go.Proofs.Ytlihnagfmfpdcaa
open Go.RowKit
open Limb (limb limb_lt upto upto_succ upto_all upto_zero)

set_option maxHeartbeats 2000000 in
theorem product_all (k : Nat) : ∀ (A B : Option Addr) (n c m d a b : Nat) (w : World), n + m = k → Nums w A n (Limb.canon a) → n ≤ c → c ≤ 9223372036854775807 → Nums w B m (Limb.canon b) → m ≤ d → d ≤ 9223372036854775807 → n + m ≤ 549755813888 →
    Calls Try.prog 52 #[.slice A n c, .slice B m d] w (CutPost (a * b) w) := by
  induction k using Nat.strongRecOn with
  | ind k ih0 =>
  intro A B n c m d a b w hk hx hc hm hy hd hmd h39
  have ih : ∀ j, j < n + m → _ := fun j hj => ih0 j (by omega)
  clear ih0
  clear hk
  by_cases hs : n < m
  · have hs2 := hs
    by_cases h48 : n < 48
    · go_enter Try.func52, Try.ntmps52
      go_wp2_with fail
      refine (productByLimbs_any B A m d n c _ _ w hy hd hmd (by omega) hx hc hm (by omega)).mono ?_
      rintro e w1 ⟨A1, n1, rfl, h3, h4⟩
      rw [Limb.val_canon, Limb.val_canon] at h3
      go_wp2_with fail
      go_ret
      exact ⟨A1, n1, rfl, by rw [Nat.mul_comm a b]; exact h3, h4⟩
    · have eh : ((m : Int) + 1) / 2 = (((m + 1) / 2 : Nat) : Int) := by omega
      have EH := Lib.hid eh
      clear eh
      by_cases hh : n ≤ (m + 1) / 2
      · have hh1 : (n : Int) ≤ ((m : Int) + 1) / 2 := by omega
        have IHT : ProductTo (m + n) := by
          intro A' B' n' c' m' d' a' b' w' hlt h1 h2 h3 h4 h5 h6 h7
          exact ih (n' + m') (by omega) A' B' n' c' m' d' a' b' w' rfl h1 h2 h3 h4 h5 h6 h7
        have IHH := hide IHT
        clear IHT
        go_enter Try.func52, Try.ntmps52
        go_wp2_with fail
        rw [EH.out]
        refine (productOfLong_any B A m d n c b a ((m + 1) / 2) w IHH.out hy hd hmd hx hc hm (by omega) (by omega) (by omega)).mono ?_
        rintro e w1 ⟨A1, n1, rfl, h3, h4⟩
        go_wp2_with fail
        go_ret
        exact ⟨A1, n1, rfl, by rw [Nat.mul_comm a b]; exact h3, h4⟩
      · have hh1 : ¬ (n : Int) ≤ ((m : Int) + 1) / 2 := by omega
        have IHT : ProductTo (m + n) := by
          intro A' B' n' c' m' d' a' b' w' hlt h1 h2 h3 h4 h5 h6 h7
          exact ih (n' + m') (by omega) A' B' n' c' m' d' a' b' w' rfl h1 h2 h3 h4 h5 h6 h7
        have IHH := hide IHT
        clear IHT
        go_enter Try.func52, Try.ntmps52
        go_wp2_with fail
        rw [EH.out]
        refine (productOfHalves_any B A m d n c b a ((m + 1) / 2) w IHH.out hy hd hmd hx hc hm (by omega) (by omega) (by omega) (by omega) (by omega) (by omega) (by omega)).mono ?_
        rintro e w1 ⟨A1, n1, rfl, h3, h4⟩
        go_wp2_with fail
        go_ret
        exact ⟨A1, n1, rfl, by rw [Nat.mul_comm a b]; exact h3, h4⟩
  · have hs2 : m ≤ n := by omega
    by_cases h48 : m < 48
    · go_enter Try.func52, Try.ntmps52
      go_wp2_with fail
      refine (productByLimbs_any A B n c m d _ _ w hx hc hm (by omega) hy hd hmd (by omega)).mono ?_
      rintro e w1 ⟨A1, n1, rfl, h3, h4⟩
      rw [Limb.val_canon, Limb.val_canon] at h3
      go_wp2_with fail
      go_ret
      exact ⟨A1, n1, rfl, h3, h4⟩
    · have eh : ((n : Int) + 1) / 2 = (((n + 1) / 2 : Nat) : Int) := by omega
      have EH := Lib.hid eh
      clear eh
      by_cases hh : m ≤ (n + 1) / 2
      · have hh1 : (m : Int) ≤ ((n : Int) + 1) / 2 := by omega
        have IHT : ProductTo (n + m) := by
          intro A' B' n' c' m' d' a' b' w' hlt h1 h2 h3 h4 h5 h6 h7
          exact ih (n' + m') (by omega) A' B' n' c' m' d' a' b' w' rfl h1 h2 h3 h4 h5 h6 h7
        have IHH := hide IHT
        clear IHT
        go_enter Try.func52, Try.ntmps52
        go_wp2_with fail
        rw [EH.out]
        refine (productOfLong_any A B n c m d a b ((n + 1) / 2) w IHH.out hx hc hm hy hd hmd (by omega) (by omega) (by omega)).mono ?_
        rintro e w1 ⟨A1, n1, rfl, h3, h4⟩
        go_wp2_with fail
        go_ret
        exact ⟨A1, n1, rfl, h3, h4⟩
      · have hh1 : ¬ (m : Int) ≤ ((n : Int) + 1) / 2 := by omega
        have IHT : ProductTo (n + m) := by
          intro A' B' n' c' m' d' a' b' w' hlt h1 h2 h3 h4 h5 h6 h7
          exact ih (n' + m') (by omega) A' B' n' c' m' d' a' b' w' rfl h1 h2 h3 h4 h5 h6 h7
        have IHH := hide IHT
        clear IHT
        go_enter Try.func52, Try.ntmps52
        go_wp2_with fail
        rw [EH.out]
        refine (productOfHalves_any A B n c m d a b ((n + 1) / 2) w IHH.out hx hc hm hy hd hmd (by omega) (by omega) (by omega) (by omega) (by omega) (by omega) (by omega)).mono ?_
        rintro e w1 ⟨A1, n1, rfl, h3, h4⟩
        go_wp2_with fail
        go_ret
        exact ⟨A1, n1, rfl, h3, h4⟩

theorem product_any (A B : Option Addr) (n c m d a b : Nat) (w : World) (hx : Nums w A n (Limb.canon a)) (hc : n ≤ c) (hm : c ≤ 9223372036854775807) (hy : Nums w B m (Limb.canon b)) (hd : m ≤ d) (hmd : d ≤ 9223372036854775807) (h39 : n + m ≤ 549755813888) :
    Calls Try.prog 52 #[.slice A n c, .slice B m d] w (CutPost (a * b) w) :=
  product_all (n + m) A B n c m d a b w rfl hx hc hm hy hd hmd h39

set_option maxHeartbeats 400000 in
theorem mul_any (A B : Option Addr) (n c m d : Nat) (xs ys : List Nat) (w : World) (hx : Nums w A n xs) (hc : n ≤ c) (hm : c ≤ 9223372036854775807) (hy : Nums w B m ys) (hd : m ≤ d) (hmd : d ≤ 9223372036854775807) (h39 : n + m ≤ 549755813888) :
    Calls Try.prog 13 #[.slice A n c, .slice B m d] w (CutPost (Limb.val xs * Limb.val ys) w) := by
  have hA := isCut_det w A xs n hx
  have hB := isCut_det w B ys m hy
  have h1 := hA.2.1
  have h2 := hB.2.1
  go_enter Try.func13, Try.ntmps13
  go_wp2_with fail
  refine (trimmed_det A n c xs w hx hc hm).mono ?_
  rintro e w' ⟨rfl, rfl⟩
  go_wp2_with fail
  refine (trimmed_det B m d ys w hy hd hmd).mono ?_
  rintro e w' ⟨rfl, rfl⟩
  go_wp2_with fail
  refine (product_any _ _ (L (Limb.val xs)) (L (Limb.val xs)) (L (Limb.val ys)) (L (Limb.val ys)) _ _ w hA.2.2.1 (Nat.le_refl _) (by omega) hB.2.2.1 (Nat.le_refl _) (by omega) (by omega)).mono ?_
  rintro e w1 ⟨A1, n1, rfl, h3, h4⟩
  go_wp2_with fail
  go_ret
  exact ⟨A1, n1, rfl, h3, h4⟩
end Go.Proofs.Ytlihnagfmfpdcaa
