/- Texts of one seat, put together: CeilZ ExactZ HatZ. -/
import Derived.Test.YtlihnagfmfpdcaaB25
/- zint: Ceil, Exact, Hat. -/
namespace Go.Proofs.Ytlihnagfmfpdcaa
open Go.RowKit

def ZErr (k : Int) (w : World) (e : Ending) (w' : World) : Prop := e = .returned (.tuple #[.agg #[.bool false, .slice none 0 0], .int .i64 k]) ∧ Below w.heap.size w w'
def ZOk (Z : Int) (k : Nat) (w : World) (e : Ending) (w' : World) : Prop := ∃ v, e = .returned (.tuple #[v, .int .i64 0]) ∧ ZRes w' v Z k ∧ Below w.heap.size w w'

set_option maxHeartbeats 1000000 in
theorem ceil_no (v u : Value) (Z : Int) (k j : Nat) (w : World) (hv : ZIn w v Z k) (hu : ZIn w u 0 j) : Calls Try.prog 83 #[v, u] w (ZErr 10 w) := by
  have hv0 := hv
  have hu0 := hu
  obtain ⟨s, A, n, c, xs, rfl, -⟩ := hv
  obtain ⟨t, B, m, d, ys, rfl, -⟩ := hu
  obtain ⟨x0, y0, r0, z2, -⟩ := zstart3 w #[.bool s, .slice A n c] #[.bool t, .slice B m d] #[.bool false, .slice none 0 0]
  have hd := zdiv_no _ _ Z k j _ (hv0.below z2) (hu0.below z2)
  go_enter Try.func83, Try.ntmps83
  go_wp2_with fail
  refine hd.mono ?_
  rintro e w1 ⟨rfl, b1⟩
  have k1 := r0.next b1
  have k2 := hide ((k1.alloc (.cells #[.bool false, .slice none 0 0] 38)).alloc (.cells #[.bool false, .slice none 0 0] 38))
  have t2 := hide (((z2.next b1).next (bl_alloc w1 (.cells #[.bool false, .slice none 0 0] 38))).next (bl_alloc _ (.cells #[.bool false, .slice none 0 0] 38)))
  go_wp2_with (with_reducible refine wpList_store_z rfl _ _ rfl (w.heap.size + 1 + 1) _ _ _ _ rfl rfl _ _ k2.out ?_; intro w3 k3 ho3)
  exact bodyPost_ze rfl rfl rfl k3 rfl ⟨rfl, zback t2.out (by omega) ho3⟩

theorem sign_ne {Z : Int} (h : Z ≠ 0) : (Z.sign == 0) = false := by simpa using h
set_option maxHeartbeats 2000000 in
theorem ceil_yes (v u : Value) (Z Y : Int) (k j : Nat) (w : World) (hv : ZIn w v Z k) (hu : ZIn w u Y j) (hY : Y ≠ 0) (hk : k ≤ 68719476736) (hj : j ≤ 68719476736) : Calls Try.prog 83 #[v, u] w (ZOk (cdiv Z Y) (k + 3) w) := by
  have hv0 := hv
  have hu0 := hu
  obtain ⟨s, A, n, c, xs, rfl, -⟩ := hv
  obtain ⟨t, B, m, d, ys, rfl, -⟩ := hu
  obtain ⟨x0, y0, r0, z2, -⟩ := zstart3 w #[.bool s, .slice A n c] #[.bool t, .slice B m d] #[.bool false, .slice none 0 0]
  have hd := zdiv_yes _ _ Z Y k j _ (hv0.below z2) (hu0.below z2) hY hk hj
  have hce := hide (cdiv_eq Z Y hY)
  clear hY
  go_enter Try.func83, Try.ntmps83
  go_wp2_with fail
  refine hd.mono ?_
  rintro e w1 ⟨u1, v1, rfl, zq, zr, b1⟩
  obtain ⟨s1, A1, n1, c1, rfl⟩ := zq.form
  obtain ⟨s2, A2, n2, c2, rfl⟩ := zr.form
  have q2 := (Blk.new w1 #[.bool s1, .slice A1 n1 c1]).alloc (.cells #[.bool s2, .slice A2 n2 c2] 38)
  have k2 := ((r0.next b1).alloc (.cells #[.bool s1, .slice A1 n1 c1] 38)).alloc (.cells #[.bool s2, .slice A2 n2 c2] 38)
  have t2 := ((z2.next b1).next (bl_alloc w1 (.cells #[.bool s1, .slice A1 n1 c1] 38))).next (bl_alloc _ (.cells #[.bool s2, .slice A2 n2 c2] 38))
  have zq2 := (zq.alloc (.cells #[.bool s1, .slice A1 n1 c1] 38)).alloc (.cells #[.bool s2, .slice A2 n2 c2] 38)
  have zr2 := (zr.alloc (.cells #[.bool s1, .slice A1 n1 c1] 38)).alloc (.cells #[.bool s2, .slice A2 n2 c2] 38)
  have hne := r0.lt
  have hsz := b1.size
  have hs := sign_z _ _ j _ zr2.in_ (by omega)
  unfold SignPost at hs
  have H2 := hide (And.intro q2 (And.intro k2 (And.intro t2 zq2)))
  clear hd q2 k2 t2 zq2 zr2 zq zr
  by_cases h0 : Z.fmod Y = 0
  · rw [if_pos h0] at hce
    rw [h0, Int.sign_zero] at hs
    clear h0
    go_wp2_with fail
    refine hs.mono ?_
    rintro e w3 ⟨rfl, b3⟩
    have q3 := H2.out.1.next b3
    have q3a := q3.c0
    have q3b := q3.c1
    have k3 := hide (H2.out.2.1.next b3)
    have t3 := hide (H2.out.2.2.1.next b3)
    have z3 := hide (H2.out.2.2.2.below b3)
    clear hs H2
    go_wp2_with (with_reducible refine wpList_store_z rfl _ _ rfl (w.heap.size + 1 + 1) _ _ _ _ rfl rfl _ _ k3.out ?_; intro w4 k4 ho4)
    refine bodyPost_ze rfl rfl rfl k4 rfl ⟨_, rfl, ?_, zback t3.out (by omega) ho4⟩
    have z4 := (z3.out.only k3.out ho4).ofEq hce.out.symm
    obtain ⟨A5, n5, c5, e5, h51, h52, h53, h54⟩ := z4
    exact ⟨A5, n5, c5, e5, h51, h52, h53, by omega⟩
  · rw [if_neg h0] at hce
    have hsn := sign_ne h0
    generalize (Z.fmod Y).sign = sgn at *
    clear h0
    go_wp2_with fail
    refine hs.mono ?_
    rintro e w3 ⟨rfl, b3⟩
    have q3 := H2.out.1.next b3
    have q3d := q3.drew
    have q3a := q3d.c0
    have q3b := q3d.c1
    have k3 := hide (H2.out.2.1.next b3)
    have t3 := hide (H2.out.2.2.1.next b3)
    have z3 := hide (H2.out.2.2.2.below b3)
    clear hs H2
    go_wp2_with fail
    go_region_with (first
      | (go_at_call 64; (with_reducible refine (of_z 1 _ (by omega) (by omega)).mono ?_); rintro e w5 ⟨v5, rfl, z5, b5⟩; have q5 := q3d.next b5; have q5a := q5.c0; have q5b := q5.c1; have z5q := (z3.out.below (bl_drewN _ 1)).below b5)
      | (go_at_call 40; (with_reducible refine (add_z _ _ _ 1 (k + 2) _ (z5q.in_.mono (by omega)) (z5.in_.mono (by omega)) (by omega)).mono ?_); rintro e w6 ⟨v6, rfl, z6, b6⟩; replace z6 := z6.ofEq hce.out.symm; obtain ⟨s6, A6, n6, c6, rfl⟩ := z6.form; have q6 := q5.next b6; have q6a := q6.c0; have q6b := q6.c1; have q6c := q6.fr 0; have q6d := q6.fr 1))
    all_goals
      simp only [st2_def]
      have k6 := (((k3.out.drew).next b5).next b6).stOther (x := .bool s6) (y := .slice A6 n6 c6) (g := w1.heap.size) (by omega)
      have q7 := q6.set2 (.bool s6) (.slice A6 n6 c6)
      rw [st2_def] at q7
      have z7 := z6.st (x := .bool s6) (y := .slice A6 n6 c6) q6
      have t6 := zback ((t3.out.drew.next b5).next b6) (by omega) (only_set2 w6 w1.heap.size (.bool s6) (.slice A6 n6 c6))
      rw [st2_def] at t6
      generalize st2 w6 w1.heap.size (.bool s6) (.slice A6 n6 c6) = W7 at *
      clear q6a q6b q6c q6d q5a q5b q3a q3b
      have q7a := q7.c0
      have q7b := q7.c1
      go_wp2_with (with_reducible refine wpList_store_z rfl _ _ rfl (w.heap.size + 1 + 1) _ _ _ _ rfl rfl _ _ k6 ?_; intro w8 k8 ho8)
      exact bodyPost_ze rfl rfl rfl k8 rfl ⟨_, rfl, z7.only k6 ho8, zback t6 (by omega) ho8⟩
end Go.Proofs.Ytlihnagfmfpdcaa
/- zint: Exact, Hat. -/
namespace Go.Proofs.Ytlihnagfmfpdcaa
open Go.RowKit

theorem two_made (w1 : World) (X Y : Array Value) : Blk ((w1.alloc (.cells X 38)).alloc (.cells Y 38)) w1.heap.size X ∧ Blk ((w1.alloc (.cells X 38)).alloc (.cells Y 38)) (w1.heap.size + 1) Y ∧ Below w1.heap.size w1 ((w1.alloc (.cells X 38)).alloc (.cells Y 38)) :=
  ⟨(Blk.new w1 X).alloc _, Blk.newAt _ _ (by simp only [size_alloc]), (bl_alloc w1 _).next (bl_alloc _ _)⟩
set_option maxHeartbeats 1000000 in
theorem exact_no (v u : Value) (Z : Int) (k j : Nat) (w : World) (hv : ZIn w v Z k) (hu : ZIn w u 0 j) : Calls Try.prog 44 #[v, u] w (ZErr 10 w) := by
  have hv0 := hv
  have hu0 := hu
  obtain ⟨s, A, n, c, xs, rfl, -⟩ := hv
  obtain ⟨t, B, m, d, ys, rfl, -⟩ := hu
  obtain ⟨x0, y0, r0, z2, -⟩ := zstart3 w #[.bool s, .slice A n c] #[.bool t, .slice B m d] #[.bool false, .slice none 0 0]
  have hd := zdiv_no _ _ Z k j _ (hv0.below z2) (hu0.below z2)
  go_enter Try.func44, Try.ntmps44
  go_wp2_with fail
  refine hd.mono ?_
  rintro e w1 ⟨rfl, b1⟩
  obtain ⟨q2, p2, t2⟩ := two_made w1 #[.bool false, .slice none 0 0] #[.bool false, .slice none 0 0]
  have k2 := hide ((r0.next b1).next t2)
  have t3 := hide ((z2.next b1).next t2)
  clear q2 p2 t2 hd
  go_wp2_with (with_reducible refine wpList_store_z rfl _ _ rfl (w.heap.size + 1 + 1) _ _ _ _ rfl rfl _ _ k2.out ?_; intro w3 k3 ho3)
  exact bodyPost_ze rfl rfl rfl k3 rfl ⟨rfl, zback t3.out (by omega) ho3⟩
set_option maxHeartbeats 2000000 in
theorem exact_odd (v u : Value) (Z Y : Int) (k j : Nat) (w : World) (hv : ZIn w v Z k) (hu : ZIn w u Y j) (hY : Y ≠ 0) (hk : k ≤ 68719476736) (hj : j ≤ 68719476736) (h0 : Z.fmod Y ≠ 0) : Calls Try.prog 44 #[v, u] w (ZErr 1 w) := by
  have hv0 := hv
  have hu0 := hu
  obtain ⟨s, A, n, c, xs, rfl, -⟩ := hv
  obtain ⟨t, B, m, d, ys, rfl, -⟩ := hu
  obtain ⟨x0, y0, r0, z2, -⟩ := zstart3 w #[.bool s, .slice A n c] #[.bool t, .slice B m d] #[.bool false, .slice none 0 0]
  have hd := zdiv_yes _ _ Z Y k j _ (hv0.below z2) (hu0.below z2) hY hk hj
  have hsn := sign_ne h0
  clear hY h0
  go_enter Try.func44, Try.ntmps44
  go_wp2_with fail
  refine hd.mono ?_
  rintro e w1 ⟨u1, v1, rfl, zq, zr, b1⟩
  obtain ⟨s1, A1, n1, c1, rfl⟩ := zq.form
  obtain ⟨s2, A2, n2, c2, rfl⟩ := zr.form
  obtain ⟨q2, p2, t2⟩ := two_made w1 #[.bool s1, .slice A1 n1 c1] #[.bool s2, .slice A2 n2 c2]
  have hs := sign_z _ _ j _ (zr.in_.below t2) (by omega)
  unfold SignPost at hs
  have k2 := hide ((r0.next b1).next t2)
  have t3 := hide ((z2.next b1).next t2)
  clear q2 p2 t2 hd zq zr
  generalize (Z.fmod Y).sign = sgn at *
  go_wp2_with fail
  refine hs.mono ?_
  rintro e w3 ⟨rfl, b3⟩
  have k3 := hide (k2.out.next b3)
  have t4 := hide (t3.out.next b3)
  clear hs k2 t3
  go_wp2_with (with_reducible refine wpList_store_z rfl _ _ rfl (w.heap.size + 1 + 1) _ _ _ _ rfl rfl _ _ k3.out ?_; intro w4 k4 ho4)
  exact bodyPost_ze rfl rfl rfl k4 rfl ⟨rfl, zback t4.out (by omega) ho4⟩
set_option maxHeartbeats 2000000 in
theorem exact_even (v u : Value) (Z Y : Int) (k j : Nat) (w : World) (hv : ZIn w v Z k) (hu : ZIn w u Y j) (hY : Y ≠ 0) (hk : k ≤ 68719476736) (hj : j ≤ 68719476736) (h0 : Z.fmod Y = 0) : Calls Try.prog 44 #[v, u] w (ZOk (Z.fdiv Y) k w) := by
  have hv0 := hv
  have hu0 := hu
  obtain ⟨s, A, n, c, xs, rfl, -⟩ := hv
  obtain ⟨t, B, m, d, ys, rfl, -⟩ := hu
  obtain ⟨x0, y0, r0, z2, -⟩ := zstart3 w #[.bool s, .slice A n c] #[.bool t, .slice B m d] #[.bool false, .slice none 0 0]
  have hd := zdiv_yes _ _ Z Y k j _ (hv0.below z2) (hu0.below z2) hY hk hj
  have H0 := hide h0
  clear hY h0
  go_enter Try.func44, Try.ntmps44
  go_wp2_with fail
  refine hd.mono ?_
  rintro e w1 ⟨u1, v1, rfl, zq, zr, b1⟩
  obtain ⟨s1, A1, n1, c1, rfl⟩ := zq.form
  obtain ⟨s2, A2, n2, c2, rfl⟩ := zr.form
  obtain ⟨q2, p2, t2⟩ := two_made w1 #[.bool s1, .slice A1 n1 c1] #[.bool s2, .slice A2 n2 c2]
  have hs := sign_z _ _ j _ (zr.in_.below t2) (by omega)
  unfold SignPost at hs
  rw [H0.out, Int.sign_zero] at hs
  have k2 := hide ((r0.next b1).next t2)
  have t3 := hide ((z2.next b1).next t2)
  have Q2 := hide q2
  have zq2 := hide (zq.below t2)
  clear q2 p2 t2 hd zq zr H0
  go_wp2_with fail
  refine hs.mono ?_
  rintro e w3 ⟨rfl, b3⟩
  have k3 := hide (k2.out.next b3)
  have t4 := hide (t3.out.next b3)
  have q3 := Q2.out.next b3
  have q3a := q3.c0
  have q3b := q3.c1
  have z3 := hide (zq2.out.below b3)
  clear hs k2 t3
  go_wp2_with (with_reducible refine wpList_store_z rfl _ _ rfl (w.heap.size + 1 + 1) _ _ _ _ rfl rfl _ _ k3.out ?_; intro w4 k4 ho4)
  exact bodyPost_ze rfl rfl rfl k4 rfl ⟨_, rfl, z3.out.only k3.out ho4, zback t4.out (by omega) ho4⟩
end Go.Proofs.Ytlihnagfmfpdcaa
/- zint: Hat. -/
namespace Go.Proofs.Ytlihnagfmfpdcaa
open Go.RowKit

theorem ZRes.drew {w : World} {v : Value} {Z : Int} {k : Nat} (h : ZRes w v Z k) : ZRes w.drew v Z k := h.below (bl_drewN w 1)
set_option maxHeartbeats 1000000 in
theorem hat_no (v u : Value) (Z Y : Int) (k j : Nat) (w : World) (hv : ZIn w v Z k) (hu : ZIn w u Y j) (hj : j ≤ 68719476736) (hY : Y ≤ 0) : Calls Try.prog 84 #[v, u] w (ZErr 1 w) := by
  have hv0 := hv
  have hu0 := hu
  obtain ⟨s, A, n, c, xs, rfl, -⟩ := hv
  obtain ⟨t, B, m, d, ys, rfl, -⟩ := hu
  obtain ⟨x0, y0, r0, z2, -⟩ := zstart3 w #[.bool s, .slice A n c] #[.bool t, .slice B m d] #[.bool false, .slice none 0 0]
  have hs := sign_z _ Y j _ (hu0.below z2) (by omega)
  unfold SignPost at hs
  have hle : Y.sign ≤ 0 := Int.sign_nonpos_iff.2 hY
  generalize Y.sign = sgn at *
  clear hY
  go_enter Try.func84, Try.ntmps84
  go_wp2_with fail
  refine hs.mono ?_
  rintro e w1 ⟨rfl, b1⟩
  have k2 := hide (r0.next b1)
  have t3 := hide (z2.next b1)
  clear hs
  go_wp2_with (with_reducible refine wpList_store_z rfl _ _ rfl (w.heap.size + 1 + 1) _ _ _ _ rfl rfl _ _ k2.out ?_; intro w3 k3 ho3)
  exact bodyPost_ze rfl rfl rfl k3 rfl ⟨rfl, zback t3.out (by omega) ho3⟩
set_option maxHeartbeats 4000000 in
theorem hat_yes (v u : Value) (Z Y : Int) (k j : Nat) (w : World) (hv : ZIn w v Z k) (hu : ZIn w u Y j) (hk : k ≤ 68719476736) (hj : j ≤ 68719476736) (hY : 0 < Y) : Calls Try.prog 84 #[v, u] w (ZOk (hatN Z Y) j w) := by
  have hsm := hide (hat_small Z Y j hY hu.lt)
  have hv0 := hv
  have hu0 := hu
  obtain ⟨s, A, n, c, xs, rfl, -⟩ := hv
  obtain ⟨t, B, m, d, ys, rfl, -⟩ := hu
  obtain ⟨x0, y0, r0, z2, -⟩ := zstart3 w #[.bool s, .slice A n c] #[.bool t, .slice B m d] #[.bool false, .slice none 0 0]
  have hs := sign_z _ Y j _ (hu0.below z2) (by omega)
  unfold SignPost at hs
  rw [Int.sign_eq_one_of_pos hY] at hs
  have HD := hide (fun W (hb : Below w.heap.size w W) => zdiv_yes _ _ Z Y k j W (hv0.below hb) (hu0.below hb) (by omega) hk hj)
  have HH := hide (show hatN Z Y = if Y ≤ 2 * Z.fmod Y then Z.fmod Y - Y else Z.fmod Y from rfl)
  clear hY
  go_enter Try.func84, Try.ntmps84
  go_wp2_with fail
  refine hs.mono ?_
  rintro e w1 ⟨rfl, b1⟩
  have x1 := x0.next b1
  have y1 := y0.next b1
  have r1 := r0.next b1
  have t1 := z2.next b1
  have x1a := x1.c0
  have x1b := x1.c1
  have y1a := y1.c0
  have y1b := y1.c1
  clear hs
  go_wp2_with fail
  refine (HD.out w1 t1).mono ?_
  rintro e w2 ⟨u2, v2, rfl, zq, zr, b2⟩
  obtain ⟨s1, A1, n1, c1, rfl⟩ := zq.form
  obtain ⟨s2, A2, n2, c2, rfl⟩ := zr.form
  obtain ⟨q3, p3, t3⟩ := two_made w2 #[.bool s1, .slice A1 n1 c1] #[.bool s2, .slice A2 n2 c2]
  have hsz := b2.size
  have hsz1 := b1.size
  have hl := r0.lt
  have T3 := (t1.next b2).next t3
  have K3 := ((Keeps.nil T3).add ((y1.next b2).next t3) (by omega)).add p3 (by have := z2.size; omega)
  have rr3 := hide ((r1.next b2).next t3)
  have zr3 := hide (zr.below t3)
  have SOF := hide (show ∀ W, Keeps w [(w2.heap.size + 1, .bool s2, .slice A2 n2 c2), (w.heap.size + 1, .bool t, .slice B m d)] W → (fun W => Keeps w [(w2.heap.size + 1, .bool s2, .slice A2 n2 c2), (w.heap.size + 1, .bool t, .slice B m d)] W ∧ W.cell? ⟨w2.heap.size + 1, 0, none⟩ = some (.bool s2) ∧ W.cell? ⟨w2.heap.size + 1, 1, none⟩ = some (.slice A2 n2 c2) ∧ W.cell? ⟨w.heap.size + 1, 0, none⟩ = some (.bool t) ∧ W.cell? ⟨w.heap.size + 1, 1, none⟩ = some (.slice B m d)) W from
    fun W k => ⟨k, (k.blk (List.Mem.head _)).c0, (k.blk (List.Mem.head _)).c1, (k.blk (List.Mem.tail _ (List.Mem.head _))).c0, (k.blk (List.Mem.tail _ (List.Mem.head _))).c1⟩)
  have HK := hide K3
  have hslot := hide (show w.heap.size + 1 + 1 < w2.heap.size by omega)
  clear q3 p3 zq zr K3 x1a x1b y1a y1b T3 t3
  go_wp2_with fail
  go_region_held3 (fun W => Keeps w [(w2.heap.size + 1, .bool s2, .slice A2 n2 c2), (w.heap.size + 1, .bool t, .slice B m d)] W ∧ W.cell? ⟨w2.heap.size + 1, 0, none⟩ = some (.bool s2) ∧ W.cell? ⟨w2.heap.size + 1, 1, none⟩ = some (.slice A2 n2 c2) ∧ W.cell? ⟨w.heap.size + 1, 0, none⟩ = some (.bool t) ∧ W.cell? ⟨w.heap.size + 1, 1, none⟩ = some (.slice B m d))
    (with_reducible first | exact SOF.out _ HK.out.drew | exact SOF.out _ (Keeps.call (And.left (a := Keeps w _ _) (by assumption)) (by assumption)))
    (first
      | (go_at_call 40; (with_reducible refine (add_z _ _ (Z.fmod Y) (Z.fmod Y) j _ zr3.out.drew.in_ zr3.out.drew.in_ (by omega)).mono ?_); rintro e w4 ⟨v4, rfl, z4, b4⟩; have t4 := (bl_drewN _ 1).next b4)
      | (go_at_call 39; (have kk := And.left (a := Keeps w _ _) (by assumption)); (with_reducible refine (cmp_z _ _ (Z.fmod Y + Z.fmod Y) Y (j + 1) _ z4.in_ ((hu0.below kk.old).mono (by omega)) (by omega)).mono ?_); rintro e w5 ⟨rfl, b5⟩; have t5 := t4.next b5))
  have K5 := HK.out.call t5
  have r5 := rr3.out.next t5
  have z5 := zr3.out.below t5
  clear HK SOF t4 b4 b5 z4 rr3 zr3
  have p5 := K5.blk (List.Mem.head _)
  have p5a := p5.c0
  have p5b := p5.c1
  by_cases hge : Y ≤ 2 * Z.fmod Y
  · have hq : 0 ≤ sgn3 (Z.fmod Y + Z.fmod Y) Y := by unfold sgn3; split <;> (try split) <;> omega
    generalize sgn3 (Z.fmod Y + Z.fmod Y) Y = q at *
    have HE := hide (show hatN Z Y = Z.fmod Y - Y by rw [HH.out, if_pos hge])
    have y5a := (K5.blk (List.Mem.tail _ (List.Mem.head _))).c0
    have y5b := (K5.blk (List.Mem.tail _ (List.Mem.head _))).c1
    clear hge HH
    go_wp2_with fail
    refine (sub_z _ _ (Z.fmod Y) Y j w5 z5.in_ (hu0.below K5.old) (by omega)).mono ?_
    rintro e w6 ⟨v6, rfl, z6, b6⟩
    replace z6 := (z6.ofEq HE.out.symm).short hsm.out
    obtain ⟨s6, A6, n6, c6, rfl⟩ := z6.form
    have T6 := hide (K5.old.next b6)
    have P6 := hide (p5.next b6)
    have R6 := hide (r5.next b6)
    have Z6 := hide z6
    clear p5a p5b y5a y5b K5 z6
    go_wp2_with (first | (with_reducible refine wpList_store_z rfl _ _ rfl (w2.heap.size + 1) _ _ _ _ rfl rfl _ _ P6.out ?_; intro w7 k7 ho7; have k7a := k7.c0; have k7b := k7.c1; have HO7 := hide ho7; clear ho7) | (with_reducible refine wpList_store_z rfl _ _ rfl (w.heap.size + 1 + 1) _ _ _ _ rfl rfl _ _ (R6.out.other HO7.out (by have := hslot.out; omega)) ?_; intro w8 k8 ho8))
    exact bodyPost_ze rfl rfl rfl k8 rfl ⟨_, rfl, (Z6.out.only P6.out HO7.out).only (R6.out.other HO7.out (by have := hslot.out; omega)) ho8, zback (zback T6.out (by have := hslot.out; omega) HO7.out) (by omega) ho8⟩
  · have hq : ¬ (0 ≤ sgn3 (Z.fmod Y + Z.fmod Y) Y) := by unfold sgn3; split <;> (try split) <;> omega
    generalize sgn3 (Z.fmod Y + Z.fmod Y) Y = q at *
    have HE := hide (show hatN Z Y = Z.fmod Y by rw [HH.out, if_neg hge])
    have T6 := hide K5.old
    have R6 := hide r5
    have Z6 := hide ((z5.ofEq HE.out.symm).short hsm.out)
    clear hge HH z5 r5
    go_wp2_with (with_reducible refine wpList_store_z rfl _ _ rfl (w.heap.size + 1 + 1) _ _ _ _ rfl rfl _ _ R6.out ?_; intro w8 k8 ho8)
    exact bodyPost_ze rfl rfl rfl k8 rfl ⟨_, rfl, Z6.out.only R6.out ho8, zback T6.out (by omega) ho8⟩
end Go.Proofs.Ytlihnagfmfpdcaa
