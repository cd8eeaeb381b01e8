/- zint: Ceil, Exact, Hat. -/
import Derived.Test.YtpocaopiaggbmaaDivZ
namespace Go.Proofs.Ytpocaopiaggbmaa
open Go.RowKit

def ZErr (k : Int) (w : World) (e : Ending) (w' : World) : Prop := e = .returned (.tuple #[.agg #[.bool false, .slice none 0 0], .int .i64 k]) ∧ Below w.heap.size w w'
def ZOk (Z : Int) (k : Nat) (w : World) (e : Ending) (w' : World) : Prop := ∃ v, e = .returned (.tuple #[v, .int .i64 0]) ∧ ZRes w' v Z k ∧ Below w.heap.size w w'

set_option maxHeartbeats 1000000 in
theorem ceil_no (v u : Value) (Z : Int) (k j : Nat) (w : World) (hv : ZIn w v Z k) (hu : ZIn w u 0 j) : Calls Try.prog 59 #[v, u] w (ZErr 10 w) := by
  have hv0 := hv
  have hu0 := hu
  obtain ⟨s, A, n, c, xs, rfl, -⟩ := hv
  obtain ⟨t, B, m, d, ys, rfl, -⟩ := hu
  obtain ⟨x0, y0, r0, z2, -⟩ := zstart3 w #[.bool s, .slice A n c] #[.bool t, .slice B m d] #[.bool false, .slice none 0 0]
  have hd := zdiv_no _ _ Z k j _ (hv0.below z2) (hu0.below z2)
  go_enter Try.func59, Try.ntmps59
  go_wp2_with fail
  refine hd.mono ?_
  rintro e w1 ⟨rfl, b1⟩
  have k1 := r0.next b1
  have k2 := hide ((k1.alloc (.cells #[.bool false, .slice none 0 0] 42)).alloc (.cells #[.bool false, .slice none 0 0] 42))
  have t2 := hide (((z2.next b1).next (bl_alloc w1 (.cells #[.bool false, .slice none 0 0] 42))).next (bl_alloc _ (.cells #[.bool false, .slice none 0 0] 42)))
  go_wp2_with (with_reducible refine wpList_store_z rfl _ _ rfl (w.heap.size + 1 + 1) _ _ _ _ rfl rfl _ _ k2.out ?_; intro w3 k3 ho3)
  exact bodyPost_ze rfl rfl rfl k3 rfl ⟨rfl, zback t2.out (by omega) ho3⟩

theorem sign_ne {Z : Int} (h : Z ≠ 0) : (Z.sign == 0) = false := by simpa using h
set_option maxHeartbeats 2000000 in
theorem ceil_yes (v u : Value) (Z Y : Int) (k j : Nat) (w : World) (hv : ZIn w v Z k) (hu : ZIn w u Y j) (hY : Y ≠ 0) (hk : k ≤ 68719476736) (hj : j ≤ 68719476736) : Calls Try.prog 59 #[v, u] w (ZOk (cdiv Z Y) (k + 3) w) := by
  have hv0 := hv
  have hu0 := hu
  obtain ⟨s, A, n, c, xs, rfl, -⟩ := hv
  obtain ⟨t, B, m, d, ys, rfl, -⟩ := hu
  obtain ⟨x0, y0, r0, z2, -⟩ := zstart3 w #[.bool s, .slice A n c] #[.bool t, .slice B m d] #[.bool false, .slice none 0 0]
  have hd := zdiv_yes _ _ Z Y k j _ (hv0.below z2) (hu0.below z2) hY hk hj
  have hce := hide (cdiv_eq Z Y hY)
  clear hY
  go_enter Try.func59, Try.ntmps59
  go_wp2_with fail
  refine hd.mono ?_
  rintro e w1 ⟨u1, v1, rfl, zq, zr, b1⟩
  obtain ⟨s1, A1, n1, c1, rfl⟩ := zq.form
  obtain ⟨s2, A2, n2, c2, rfl⟩ := zr.form
  have q2 := (Blk.new w1 #[.bool s1, .slice A1 n1 c1]).alloc (.cells #[.bool s2, .slice A2 n2 c2] 42)
  have k2 := ((r0.next b1).alloc (.cells #[.bool s1, .slice A1 n1 c1] 42)).alloc (.cells #[.bool s2, .slice A2 n2 c2] 42)
  have t2 := ((z2.next b1).next (bl_alloc w1 (.cells #[.bool s1, .slice A1 n1 c1] 42))).next (bl_alloc _ (.cells #[.bool s2, .slice A2 n2 c2] 42))
  have zq2 := (zq.alloc (.cells #[.bool s1, .slice A1 n1 c1] 42)).alloc (.cells #[.bool s2, .slice A2 n2 c2] 42)
  have zr2 := (zr.alloc (.cells #[.bool s1, .slice A1 n1 c1] 42)).alloc (.cells #[.bool s2, .slice A2 n2 c2] 42)
  have hne := r0.lt
  have hsz := b1.size
  have hs := sign_z _ _ j _ zr2.in_ (by omega)
  unfold SignPost at hs
  have H2 := hide (And.intro q2 (And.intro k2 (And.intro t2 zq2)))
  clear hd q2 k2 t2 zq2 zr2 zq zr
  by_cases h0 : Z.fmod Y = 0
  · rw [if_pos h0] at hce
    rw [h0, Int.sign_zero] at hs
    clear h0
    go_wp2_with fail
    refine hs.mono ?_
    rintro e w3 ⟨rfl, b3⟩
    have q3 := H2.out.1.next b3
    have q3a := q3.c0
    have q3b := q3.c1
    have k3 := hide (H2.out.2.1.next b3)
    have t3 := hide (H2.out.2.2.1.next b3)
    have z3 := hide (H2.out.2.2.2.below b3)
    clear hs H2
    go_wp2_with (with_reducible refine wpList_store_z rfl _ _ rfl (w.heap.size + 1 + 1) _ _ _ _ rfl rfl _ _ k3.out ?_; intro w4 k4 ho4)
    refine bodyPost_ze rfl rfl rfl k4 rfl ⟨_, rfl, ?_, zback t3.out (by omega) ho4⟩
    have z4 := (z3.out.only k3.out ho4).ofEq hce.out.symm
    obtain ⟨A5, n5, c5, e5, h51, h52, h53, h54⟩ := z4
    exact ⟨A5, n5, c5, e5, h51, h52, h53, by omega⟩
  · rw [if_neg h0] at hce
    have hsn := sign_ne h0
    generalize (Z.fmod Y).sign = sgn at *
    clear h0
    go_wp2_with fail
    refine hs.mono ?_
    rintro e w3 ⟨rfl, b3⟩
    have q3 := H2.out.1.next b3
    have q3d := q3.drew
    have q3a := q3d.c0
    have q3b := q3d.c1
    have k3 := hide (H2.out.2.1.next b3)
    have t3 := hide (H2.out.2.2.1.next b3)
    have z3 := hide (H2.out.2.2.2.below b3)
    clear hs H2
    go_wp2_with fail
    go_region_with (first
      | (go_at_call 53; (with_reducible refine (of_z 1 _ (by omega) (by omega)).mono ?_); rintro e w5 ⟨v5, rfl, z5, b5⟩; have q5 := q3d.next b5; have q5a := q5.c0; have q5b := q5.c1; have z5q := (z3.out.below (bl_drewN _ 1)).below b5)
      | (go_at_call 36; (with_reducible refine (add_z _ _ _ 1 (k + 2) _ (z5q.in_.mono (by omega)) (z5.in_.mono (by omega)) (by omega)).mono ?_); rintro e w6 ⟨v6, rfl, z6, b6⟩; replace z6 := z6.ofEq hce.out.symm; obtain ⟨s6, A6, n6, c6, rfl⟩ := z6.form; have q6 := q5.next b6; have q6a := q6.c0; have q6b := q6.c1; have q6c := q6.fr 0; have q6d := q6.fr 1))
    all_goals
      simp only [st2_def]
      have k6 := (((k3.out.drew).next b5).next b6).stOther (x := .bool s6) (y := .slice A6 n6 c6) (g := w1.heap.size) (by omega)
      have q7 := q6.set2 (.bool s6) (.slice A6 n6 c6)
      rw [st2_def] at q7
      have z7 := z6.st (x := .bool s6) (y := .slice A6 n6 c6) q6
      have t6 := zback ((t3.out.drew.next b5).next b6) (by omega) (only_set2 w6 w1.heap.size (.bool s6) (.slice A6 n6 c6))
      rw [st2_def] at t6
      generalize st2 w6 w1.heap.size (.bool s6) (.slice A6 n6 c6) = W7 at *
      clear q6a q6b q6c q6d q5a q5b q3a q3b
      have q7a := q7.c0
      have q7b := q7.c1
      go_wp2_with (with_reducible refine wpList_store_z rfl _ _ rfl (w.heap.size + 1 + 1) _ _ _ _ rfl rfl _ _ k6 ?_; intro w8 k8 ho8)
      exact bodyPost_ze rfl rfl rfl k8 rfl ⟨_, rfl, z7.only k6 ho8, zback t6 (by omega) ho8⟩
end Go.Proofs.Ytpocaopiaggbmaa
