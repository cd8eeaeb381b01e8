/- plumblinelaw02.ZintSmall: the walk. -/
import Derived.Test.YtpocaopiaggbmaaZKeep
namespace Go.Proofs.Ytpocaopiaggbmaa
open Go.RowKit

set_option maxHeartbeats 8000000 in
theorem zintSmall_walk (i : Int) (s : Bool) (A : Option Addr) (n c : Nat) (xs : List Nat) (w : World) (h1 : -9223372036854775808 ≤ i) (h2 : i ≤ 9223372036854775807) (hx : Nums w A n xs) (hc : n ≤ c) (hm : c ≤ 9223372036854775807) :
    Calls Try.prog 7 #[.int .i64 i, .agg #[.bool s, .slice A n c]] w (YesPost w) := by
  obtain ⟨x, z2, -⟩ := zstart1 w #[.bool s, .slice A n c]
  by_cases hs : n ≤ 60
  · have hv : ZIn w (.agg #[.bool s, .slice A n c]) (sg s (Limb.val xs)) 60 := ⟨s, A, n, c, xs, rfl, hx, hc, hm, hs, rfl⟩
    have hfrom := fun w' (hw : Nums w' A n xs) => from_any s A n c 60 xs w' hw hc hm hs (by omega)
    generalize sg s (Limb.val xs) = Z at *
    have HF := hide hfrom
    clear hfrom
    have sy := small_yes (Z := i) h1 h2
    have SY := hide sy
    have hst : ∀ u k W, ZIn W u i k → k ≤ 1099511627776 → Calls Try.prog 51 #[u] W (fun e w' => e = .returned (.tuple #[.int .i64 i, .bool true]) ∧ Below W.heap.size W w') := fun u k W hu hk => by
      have := small_z u i k W hu hk
      unfold SmallPost at this
      rw [SY.out.1, SY.out.2] at this
      exact this
    have HST := hide hst
    clear hst sy
    go_enter Try.func7, Try.ntmps7
    go_wp2_with fail
    refine (counting_any _).mono ?_
    rintro e w1 ⟨rfl, b1⟩
    have x1 := x.next b1
    have x1a := x1.c0
    have x1b := x1.c1
    have T1 := z2.next b1
    go_wp2_with fail
    refine (small_z _ Z 60 w1 (hv.below T1) (by omega)).mono ?_
    rintro e w2 ⟨rfl, b2⟩
    have x2 := x1.next b2
    have x2a := x2.c0
    have x2b := x2.c1
    have T2 := T1.next b2
    go_wp2_with fail
    refine (rsmall_z _ Z 60 w2 (hv.below T2) (by omega)).mono ?_
    rintro e w3 ⟨rfl, b3⟩
    have x3 := x2.next b3
    have T3 := T2.next b3
    generalize hsm : small Z = p at *
    generalize hsi : isSmall Z = q at *
    clear hsm hsi
    go_wp2_with fail
    refine (of_z i w3 h1 h2).mono ?_
    rintro e w4 ⟨v4, rfl, r4, b4⟩
    have x4 := x3.next b4
    have T4 := T3.next b4
    go_wp2_with fail
    refine (HST.out v4 2 w4 r4.in_ (by omega)).mono ?_
    rintro e w5 ⟨rfl, b5⟩
    have x5 := x4.next b5
    have T5 := T4.next b5
    have hS := S1.mk T5 x5
    have e1 : (p == p) = true := by simp
    have e2 : (q == q) = true := by simp
    have e3 : (i == i) = true := by simp
    clear x1 x1a x1b x2 x2a x2b x3 x4 r4
    go_wp2_with fail
    go_region_held3 (fun w' => Below w.heap.size w w' ∧ w'.cell? ⟨w.heap.size, 0, none⟩ = some (.bool s) ∧ w'.cell? ⟨w.heap.size, 1, none⟩ = some (.slice A n c))
      (first | exact hS.drew | exact S6 | exact S7 | exact S8 | exact S9 | exact S10 | exact S11)
      (first
        | (go_at_call 53; (with_reducible refine (of_z i _ h1 h2).mono ?_); rintro e w6 ⟨v6, rfl, r6, b6⟩; have S6 := hS.drew.call b6)
        | (go_at_call 54; (with_reducible refine (rof_z i _ h1 h2).mono ?_); rintro e w7 ⟨v7, rfl, r7, b7⟩; have S7 := S6.call b7)
        | (go_at_call_of 35 v6; (with_reducible refine (z2same_yes _ _ i 2 2 w7 (r6.below b7) r7 (by omega)).mono ?_); rintro e w8 ⟨rfl, b8⟩; have S8 := S7.call b8)
        | (go_at_call 55; (with_reducible refine (HF.out w8 (hx.below S8.1)).mono ?_); rintro e w9 ⟨v9, rfl, r9, b9⟩; have S9 := S8.call b9)
        | (go_at_call 33; (with_reducible refine (clean_z _ Z 60 w9 (hv.below S9.1) (by omega)).mono ?_); rintro e w10 ⟨v10, rfl, r10, b10⟩; have S10 := S9.call b10)
        | (go_at_call 35; (with_reducible refine (z2same_yes _ _ Z 60 60 w10 (r9.below b10) r10 (by omega)).mono ?_); rintro e w11 ⟨rfl, b11⟩; have S11 := S10.call b11))
    go_wp2_with fail
    go_ret
    exact ⟨rfl, S11.1⟩
  · go_enter Try.func7, Try.ntmps7
    go_wp2_with fail
    refine (counting_any _).mono ?_
    rintro e w1 ⟨rfl, b1⟩
    have x1 := x.next b1
    have x1a := x1.c0
    have x1b := x1.c1
    go_wp2_with fail
    go_ret
    exact ⟨rfl, z2.next b1⟩
end Go.Proofs.Ytpocaopiaggbmaa
