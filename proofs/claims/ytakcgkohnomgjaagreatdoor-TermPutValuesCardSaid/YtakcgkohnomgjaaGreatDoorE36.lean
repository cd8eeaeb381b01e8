/- Texts of one seat, put together: TShrink First TermsIn. -/
import Derived.Test.YtakcgkohnomgjaaGreatDoorE35
import Derived.Test.YtakcgkohnomgjaaGreatDoorE23
import Derived.Test.YtakcgkohnomgjaaGreatDoorE32
import Derived.Test.YtakcgkohnomgjaaGreatDoorE24
import Derived.Test.YtakcgkohnomgjaaGreatDoorE31
import Derived.Maps.OwnSet
import Derived.Test.YtakcgkohnomgjaaGreatDoorE18
set_option linter.unusedVariables false
set_option linter.unusedSimpArgs false
/- term.Shrink. -/
namespace Go.Proofs.YtakcgkohnomgjaaGreatDoor
open Go.RowKit
open Tm

set_option maxHeartbeats 1000000 in
theorem shrink1_any (v u : Value) (G Z : Int) (g j k : Nat) (w : World) (hb : ∃ s A n c, v = .agg #[.bool s, .slice A n c] ∧ Blk w g #[.bool s, .slice A n c]) (hv : ZIn w v G j) (hG : G ≠ 0) (hu : ZIn w u Z k) (hk : k ≤ 68719476736) (hj : j ≤ 68719476736) :
    Calls Tryz.prog 51 #[u, .pointer (some ⟨g, 0, none⟩)] w (ZPost (Z.fdiv G) k w) := by
  obtain ⟨s, A, n, c, rfl, hb⟩ := hb
  have hu0 := hu
  obtain ⟨t, B, m, d, ys, rfl, -⟩ := hu
  obtain ⟨z0, z1, z2, -⟩ := zstart2 w #[.bool t, .slice B m d] #[.bool false, .slice none 0 0]
  have hf := zdiv_yes _ _ Z G k j _ (hu0.below z2) (hv.below z2) hG hk hj
  have q := hb.next z2
  have c0 := z0.c0
  have c1 := z0.c1
  have d0 := q.c0
  have d1 := q.c1
  clear hG
  go_enter Tryz.func51, Tryz.ntmps51
  go_wp2_with fail
  refine hf.mono ?_
  rintro e w1 ⟨u1, v1, rfl, r1, r2, b1⟩
  obtain ⟨s1, A1, n1, c1', rfl⟩ := r1.form
  obtain ⟨s2, A2, n2, c2', rfl⟩ := r2.form
  have k1 := z1.next b1
  have y1 := bl_alloc w1 (.cells #[.bool s1, .slice A1 n1 c1'] 26)
  have y2 := bl_alloc (w1.alloc (.cells #[.bool s1, .slice A1 n1 c1'] 26)) (.cells #[.bool s2, .slice A2 n2 c2'] 26)
  have k2 := (k1.next y1).next y2
  have r3 := (r1.below y1).below y2
  have HT := hide (((z2.next b1).next y1).next y2)
  clear y1 y2 c0 c1 d0 d1 k1 r1 r2
  go_wp2_with (with_reducible refine wpList_store_z rfl _ _ rfl (w.heap.size + 1) _ _ _ _ rfl rfl _ _ k2 ?_; intro w3 k3 ho3)
  refine bodyPost_z rfl rfl k3 rfl ?_
  exact ⟨_, rfl, r3.only k2 ho3, zback HT.out (by omega) ho3⟩
theorem enters_shrink1 : ∀ args w, (callFunc 51 args).run Tryz.prog w = .ok (.enter 51 args) w := enters_of Tryz.func51 (by kernel_rfl) rfl
def shrK (L : List (Int × Int)) (K : Int) : Int := if content L = 0 then K else K.fdiv (content L)
def ShrPost (L : List (Int × Int)) (K : Int) (k : Nat) (w : World) (e : Ending) (w' : World) : Prop := ∃ v u, e = .returned (.tuple #[v, u]) ∧ TRes w' v (quot (content L) (norm L)) (shrK L K) k ∧ ZRes w' u (content L) k ∧ Below w.heap.size w w'
theorem results_tz {fn : Func} {p q : Tmp} (h : fn.results = #[.cell p 28, .cell q 26]) (tmps : Array Value) (w : World) (g k : Nat) (x y z x' y' : Value)
    (hp : tmps.getD p undef = .pointer (some ⟨g, 0, none⟩)) (hq : tmps.getD q undef = .pointer (some ⟨k, 0, none⟩)) (hg : Box 28 w g #[x, y, z]) (hk : Blk w k #[x', y']) :
    (results fn tmps).run Tryz.prog w = .ok (.tuple #[.agg #[x, y, z], .agg #[x', y']]) w := by
  have hp' : tmps[p]?.getD undef = .pointer (some ⟨g, 0, none⟩) := by simpa using hp
  have hq' : tmps[q]?.getD undef = .pointer (some ⟨k, 0, none⟩) := by simpa using hq
  simp [results, h, hp', hq', asAddr, run_loadVar_row w g 28 28 #[x, y, z] (0, 0) _ hg Tryz.underlying28 rfl (by kernel_rfl), run_loadVar_row w k 26 26 #[x', y'] (0, 0) _ hk Tryz.underlying26 rfl (by kernel_rfl)]
theorem bodyPost_tz {fn : Func} {R : Ending → World → Prop} {a : Act} {w : World} {g k p q : Nat} {x y z x' y' : Value} (hres : fn.results = #[.cell p 28, .cell q 26]) (hp : a.tmps.getD p undef = .pointer (some ⟨g, 0, none⟩)) (hq : a.tmps.getD q undef = .pointer (some ⟨k, 0, none⟩))
    (hb : Box 28 w g #[x, y, z]) (hk : Blk w k #[x', y']) (hd : a.defers = []) (hR : R (.returned (.tuple #[.agg #[x, y, z], .agg #[x', y']])) w) : bodyPost Tryz.prog fn R .ret a w :=
  bodyPost_ret (by rw [results_tz hres _ _ g k x y z x' y' hp hq hb hk]) hd hR
set_option maxRecDepth 100000 in
set_option maxHeartbeats 4000000 in
theorem tshrink_any (v : Value) (L : List (Int × Int)) (K : Int) (k : Nat) (w0 : World) (hv : TIn w0 v L K k) (hl : L.length ≤ 1099511) (hk : k ≤ 1099511627) : Calls Tryz.prog 11 #[v] w0 (ShrPost L K (k + L.length) w0) := by
  have hv0 := hv
  obtain ⟨A, n, c, s, B, m, d, rfl, -⟩ := hv
  obtain ⟨z0, z1, z2, z3, z4⟩ := bstart3 28 28 26 w0 #[.slice A n c, .bool s, .slice B m d] #[.slice none 0 0, .bool false, .slice none 0 0] #[.bool false, .slice none 0 0]
  have hct := tcontent_any _ L K k _ (hv0.below z3) hl hk
  have x0 := z0.c0
  have x1 := z0.c1
  have x2 := z0.c2
  go_enter Tryz.func11, Tryz.ntmps11
  go_wp2_with fail
  refine hct.mono ?_
  rintro e w1 ⟨v1, rfl, r1, b1⟩
  obtain ⟨s1, A1, n1, c1, rfl⟩ := r1.form
  obtain ⟨y0, y1, y2⟩ := bstart1 26 w1 #[.bool s1, .slice A1 n1 c1]
  have HT := hide ((z3.next b1).next y1)
  have q0 := (z0.next b1).next y1
  have q1 := (z1.next b1).next y1
  have q2 := (z2.next b1).next y1
  have r2 := r1.below y1
  have hs := sign_z _ (content L) _ _ r2.in_ (by omega)
  unfold SignPost at hs
  have hw1 : w0.heap.size + 1 + 1 + 1 ≤ w1.heap.size := by have := b1.size; omega
  have a0 := q0.c0
  have a1 := q0.c1
  have a2 := q0.c2
  have e0 := Blk.c0 y0
  have e1 := Blk.c1 y0
  clear x0 x1 x2 hct z0 z1 z2 z3 z4 b1 r1 y1 y2
  by_cases h0 : content L = 0
  · have HN := content_zero.1 h0
    have HK := hide (show shrK L K = K by unfold shrK; rw [if_pos h0])
    have HQ := hide (show quot (content L) (norm L) = norm L by rw [HN]; rfl)
    rw [h0] at hs
    rw [show Int.sign 0 = 0 from rfl] at hs
    clear h0 HN
    go_wp2_with fail
    refine hs.mono ?_
    rintro e W2 ⟨rfl, b2⟩
    have HT2 := hide (HT.out.next b2)
    have g0 := q0.next b2
    have g1 := q1.next b2
    have g2 := q2.next b2
    have g4 := Blk.next y0 b2
    have HZ := hide (r2.below b2)
    have HV0 := hide (hv0.below HT2.out)
    clear a0 a1 a2 e0 e1 q0 q1 q2 y0 r2 hs b2 hv0
    go_wp2_with fail
    have HPL := hide (fun W (h : KT (w0.heap.size + 1) (w0.heap.size + 1 + 1) W2 W) => (show Calls Tryz.prog 38 #[.agg #[.slice A n c, .bool s, .slice B m d]] W (TPost (quot (content L) (norm L)) (shrK L K) (k + L.length) W) from by rw [HQ.out, HK.out]; exact tplain_any _ L K k W (HV0.out.kt h) hl hk))
    unfold TPost at HPL
    have SOF := hide (show ∀ W, KT (w0.heap.size + 1) (w0.heap.size + 1 + 1) W2 W → (W.cell? ⟨w0.heap.size, 0, none⟩ = some (.slice A n c) ∧ W.cell? ⟨w0.heap.size, 1, none⟩ = some (.bool s) ∧ W.cell? ⟨w0.heap.size, 2, none⟩ = some (.slice B m d) ∧ W.cell? ⟨w1.heap.size, 0, none⟩ = some (.bool s1) ∧ W.cell? ⟨w1.heap.size, 1, none⟩ = some (.slice A1 n1 c1)) from fun W h => by
      have h1 := h.box g0 (by omega) (by omega)
      have h2 : Blk W w1.heap.size #[.bool s1, .slice A1 n1 c1] := h.box g4 (by omega) (by omega)
      exact ⟨h1.c0, h1.c1, h1.c2, Blk.c0 h2, Blk.c1 h2⟩)
    have HW2 := hide HT2.out.size
    have HM1 := hide (show ∀ v w w', KT (w0.heap.size + 1) (w0.heap.size + 1 + 1) w w' → (fun v w => TRes w v (quot (content L) (norm L)) (shrK L K) (k + L.length)) v w → (fun v w => TRes w v (quot (content L) (norm L)) (shrK L K) (k + L.length)) v w' from fun v w w' t h => TRes.kt h t)
    have HM2 := hide (show ∀ v w w', KT (w0.heap.size + 1) (w0.heap.size + 1 + 1) w w' → (fun v w => ZRes w v (content L) (k + L.length)) v w → (fun v w => ZRes w v (content L) (k + L.length)) v w' from fun v w w' t h => ZRes.kp h t.kp)
    refine wp_drawn (by kernel_rfl) (by kernel_rfl) (by kernel_rfl) (KT (w0.heap.size + 1) (w0.heap.size + 1 + 1)) (fun j v w => match j with | 0 => v = .agg #[.slice A n c, .bool s, .slice B m d] | 1 => TRes w v (quot (content L) (norm L)) (shrK L K) (k + L.length) | 2 => v = .agg #[.bool s1, .slice A1 n1 c1] | 3 => True | 4 => True | _ => True) (G2 W2 (w0.heap.size + 1) 3 (fun v w => TRes w v (quot (content L) (norm L)) (shrK L K) (k + L.length)) (w0.heap.size + 1 + 1) 4 (fun v w => ZRes w v (content L) (k + L.length))) ?_ (fun _ => G2.start ((g1).drew) ((g2).drew) (bl_drewN W2 1)) ?_ ?_
    · intro j v w w' hT h
      match j, h with
      | 0, h => exact h
      | 1, h => exact h.kt hT
      | 2, h => exact h
      | 3, h => trivial
      | 4, h => trivial
      | j + 5, h => trivial
    · refine ⟨?_, ?_, ?_, ?_, ?_, trivial⟩
      · intro listed σ w a hin hout hl hc hp hG hF
        refine Guarded.none rfl ?_
        have e1 : a.tmps.getD 1 undef = .pointer (some ⟨w0.heap.size, 0, none⟩) := hout 1 (outB_spec (by kernel_rfl))
        have CC := SOF.out w hG.1; obtain ⟨C0, C1, C2, D0, D1⟩ := CC
        refine Does.val (.agg #[.slice A n c, .bool s, .slice B m d]) (w' := w) ?_ ⟨KT.refl _ _ _, rfl, G2.next hG (Below.refl _ _) (by decide) (by decide) HM1.out HM2.out⟩
        go_simp
      · intro listed σ w a hin hout hl hc hp hG hF
        refine Guarded.none rfl ?_
        have e11 : a.tmps.getD 11 undef = .agg #[.slice A n c, .bool s, .slice B m d] := (hin 0 11 rfl (hp ⟨0, .data⟩ (by simp) rfl)).trans (hF 0 (hp ⟨0, .data⟩ (by simp) rfl))
        refine Does.call ?_ (HPL.out w hG.1) ?_
        · go_simp
        · rintro e w' ⟨v, rfl, z, hb⟩
          exact ⟨_, rfl, KT.of_below hb, z, G2.next hG (hb) (by decide) (by decide) HM1.out HM2.out⟩
      · intro listed σ w a hin hout hl hc hp hG hF
        refine Guarded.none rfl ?_
        have e4 : a.tmps.getD 4 undef = .pointer (some ⟨w1.heap.size, 0, none⟩) := hout 4 (outB_spec (by kernel_rfl))
        have CC := SOF.out w hG.1; obtain ⟨C0, C1, C2, D0, D1⟩ := CC
        refine Does.val (.agg #[.bool s1, .slice A1 n1 c1]) (w' := w) ?_ ⟨KT.refl _ _ _, rfl, G2.next hG (Below.refl _ _) (by decide) (by decide) HM1.out HM2.out⟩
        go_simp
      · intro listed σ w a hin hout hl hc hp hG hF
        refine Guarded.none rfl ?_
        have e2 : a.tmps.getD 2 undef = .pointer (some ⟨w0.heap.size + 1, 0, none⟩) := hout 2 (outB_spec (by kernel_rfl))
        have e12 := hin 1 12 rfl (hp ⟨1, .data⟩ (by simp) rfl)
        have z1 := hF 1 (hp ⟨1, .data⟩ (by simp) rfl)
        obtain ⟨A8, n8, c8, s8, B8, m8, d8, ev8⟩ := TRes.form z1
        rw [ev8] at e12 z1
        have hf := z1
        obtain ⟨h0, ⟨Ax, nx, cx, sx, Bx, mx, dx, xb, -⟩, -⟩ := id hG
        refine Does.store_box (T := 28) (cells := #[.slice A8 n8 c8, .bool s8, .slice B8 m8 d8]) rfl e2 e12 xb (by kernel_rfl) rfl (by simp [Value.oneCell']) (fun w2 x9 o9 => ?_)
        have q9 := G2.st1 (τ := upd σ 3 undef) hG (by omega) (by decide) x9 o9 hf HM1.out HM2.out
        exact ⟨q9.1, trivial, q9.2⟩
      · intro listed σ w a hin hout hl hc hp hG hF
        refine Guarded.none rfl ?_
        have e3 : a.tmps.getD 3 undef = .pointer (some ⟨w0.heap.size + 1 + 1, 0, none⟩) := hout 3 (outB_spec (by kernel_rfl))
        have e13 := hin 2 13 rfl (hp ⟨2, .data⟩ (by simp) rfl)
        have z2 := hF 2 (hp ⟨2, .data⟩ (by simp) rfl)
        rw [z2] at e13
        have hf := HZ.out.kp hG.1.kp
        obtain ⟨h0, -, ⟨sx, Bx, mx, dx, xb, -⟩⟩ := id hG
        refine Does.store_box (T := 26) (cells := #[.bool s1, .slice A1 n1 c1]) rfl e3 e13 (Blk.box xb) (by kernel_rfl) rfl (by simp [Value.oneCell']) (fun w2 x9 o9 => ?_)
        have q9 := G2.st2 (τ := upd σ 4 undef) hG (by omega) (by decide) x9 o9 hf HM1.out HM2.out
        exact ⟨q9.1, trivial, q9.2⟩
    · intro listed σ W9 hall hG hF
      rw [show mid _ σ listed _ = (Act.put (Act.put (Act.put (Act.put (Act.put _ (some 11) (σ 0)) (some 12) (σ 1)) (some 13) (σ 2)) none (σ 3)) none (σ 4)) from (mid_all hall).trans rfl]
      generalize σ 0 = tt0
      generalize σ 1 = tt1
      generalize σ 2 = tt2
      simp only [Act.put, List.setIfInBounds_toArray, List.set_cons_zero, List.set_cons_succ]
      obtain ⟨TK, ⟨A9, n9, c9, s9, B9, m9, d9, X9, Z9⟩, ⟨t9, C9, p9, q9, Y9, V9⟩⟩ := hG
      have Z9 := Z9 (hall 3 (by decide))
      have V9 := V9 (hall 4 (by decide))
      clear hF hall
      clear σ
      have TB := hide (HT2.out.trans (KT.below TK HW2.out (by omega) (by omega)))
      clear SOF HPL TK
      go_wp2_with fail
      exact bodyPost_tz rfl rfl rfl X9 Y9 rfl ⟨_, _, rfl, Z9, V9, TB.out⟩
  · have HK := hide (show shrK L K = K.fdiv (content L) by unfold shrK; rw [if_neg h0])
    have h1 : ((content L).sign == 0) = false := sgn_ne h0
    have H0 := hide h0
    generalize (content L).sign = sgn at *
    clear h0
    go_wp2_with fail
    refine hs.mono ?_
    rintro e W2 ⟨rfl, b2⟩
    have HT2 := hide (HT.out.next b2)
    have g0 := q0.next b2
    have p1 := q1.next b2
    have p2 := q2.next b2
    have p4 := Blk.next y0 b2
    have r3 := r2.below b2
    have x0 := g0.c0
    have x1 := g0.c1
    have x2 := g0.c2
    have hf := each_any _ L K k (k + L.length) 51 #[.pointer (some ⟨w1.heap.size, 0, none⟩)] (fun z => z.fdiv (content L)) W2 (hv0.below HT2.out) (fun W u Z hb hu => shrink1_any _ u (content L) Z w1.heap.size (k + L.length) (k + L.length) W ⟨s1, A1, n1, c1, rfl, Box.next p4 hb⟩ (r3.in_.below hb) H0.out hu (by omega) (by omega)) enters_shrink1 hl hk
    clear a0 a1 a2 e0 e1 q0 q1 q2 y0 r2 hs b2
    go_wp2_with fail
    refine hf.mono ?_
    rintro e w3 ⟨v3, rfl, r5, b3⟩
    obtain ⟨A3, n3, c3, s3, B3, m3, d3, rfl⟩ := r5.form
    obtain ⟨y3, b4, -⟩ := bstart1 28 w3 #[.slice A3 n3 c3, .bool s3, .slice B3 m3 d3]
    have HZ := hide ((r3.below b3).below b4)
    have HZ3 := hide (show TRes _ (.agg #[.slice A3 n3 c3, .bool s3, .slice B3 m3 d3]) (quot (content L) (norm L)) (shrK L K) (k + L.length) from by rw [HK.out]; exact r5.below b4)
    have HT4 := hide ((HT2.out.next b3).next b4)
    have g1 := (p1.next b3).next b4
    have g2 := (p2.next b3).next b4
    have g4 := (Blk.next p4 b3).next b4
    have hw3 : w1.heap.size + 1 ≤ w3.heap.size := by have := p4.lt; have := b3.size; omega
    clear x0 x1 x2 hf p1 p2 p4 r3 r5 b3 b4 g0 hv0
    go_wp2_with fail
    generalize hW4 : w3.alloc (.cells #[.slice A3 n3 c3, .bool s3, .slice B3 m3 d3] 28) = W4 at *
    clear hW4
    have SOF := hide (show ∀ W, KT (w0.heap.size + 1) (w0.heap.size + 1 + 1) W4 W → (W.cell? ⟨w3.heap.size, 0, none⟩ = some (.slice A3 n3 c3) ∧ W.cell? ⟨w3.heap.size, 1, none⟩ = some (.bool s3) ∧ W.cell? ⟨w3.heap.size, 2, none⟩ = some (.slice B3 m3 d3) ∧ W.cell? ⟨w1.heap.size, 0, none⟩ = some (.bool s1) ∧ W.cell? ⟨w1.heap.size, 1, none⟩ = some (.slice A1 n1 c1)) from fun W h => by
      have h1 := h.box y3 (by omega) (by omega)
      have h2 : Blk W w1.heap.size #[.bool s1, .slice A1 n1 c1] := h.box g4 (by omega) (by omega)
      exact ⟨h1.c0, h1.c1, h1.c2, Blk.c0 h2, Blk.c1 h2⟩)
    have HW2 := hide HT4.out.size
    have HM1 := hide (show ∀ v w w', KT (w0.heap.size + 1) (w0.heap.size + 1 + 1) w w' → (fun v w => TRes w v (quot (content L) (norm L)) (shrK L K) (k + L.length)) v w → (fun v w => TRes w v (quot (content L) (norm L)) (shrK L K) (k + L.length)) v w' from fun v w w' t h => TRes.kt h t)
    have HM2 := hide (show ∀ v w w', KT (w0.heap.size + 1) (w0.heap.size + 1 + 1) w w' → (fun v w => ZRes w v (content L) (k + L.length)) v w → (fun v w => ZRes w v (content L) (k + L.length)) v w' from fun v w w' t h => ZRes.kp h t.kp)
    refine wp_drawn (by kernel_rfl) (by kernel_rfl) (by kernel_rfl) (KT (w0.heap.size + 1) (w0.heap.size + 1 + 1)) (fun j v w => match j with | 0 => v = .agg #[.slice A3 n3 c3, .bool s3, .slice B3 m3 d3] | 1 => v = .agg #[.bool s1, .slice A1 n1 c1] | 2 => True | 3 => True | _ => True) (G2 W4 (w0.heap.size + 1) 2 (fun v w => TRes w v (quot (content L) (norm L)) (shrK L K) (k + L.length)) (w0.heap.size + 1 + 1) 3 (fun v w => ZRes w v (content L) (k + L.length))) ?_ (fun _ => G2.start ((g1).drew) ((g2).drew) (bl_drewN W4 1)) ?_ ?_
    · intro j v w w' hT h
      match j, h with
      | 0, h => exact h
      | 1, h => exact h
      | 2, h => trivial
      | 3, h => trivial
      | j + 4, h => trivial
    · refine ⟨?_, ?_, ?_, ?_, trivial⟩
      · intro listed σ w a hin hout hl hc hp hG hF
        refine Guarded.none rfl ?_
        have e5 : a.tmps.getD 5 undef = .pointer (some ⟨w3.heap.size, 0, none⟩) := hout 5 (outB_spec (by kernel_rfl))
        have CC := SOF.out w hG.1; obtain ⟨C0, C1, C2, D0, D1⟩ := CC
        refine Does.val (.agg #[.slice A3 n3 c3, .bool s3, .slice B3 m3 d3]) (w' := w) ?_ ⟨KT.refl _ _ _, rfl, G2.next hG (Below.refl _ _) (by decide) (by decide) HM1.out HM2.out⟩
        go_simp
      · intro listed σ w a hin hout hl hc hp hG hF
        refine Guarded.none rfl ?_
        have e4 : a.tmps.getD 4 undef = .pointer (some ⟨w1.heap.size, 0, none⟩) := hout 4 (outB_spec (by kernel_rfl))
        have CC := SOF.out w hG.1; obtain ⟨C0, C1, C2, D0, D1⟩ := CC
        refine Does.val (.agg #[.bool s1, .slice A1 n1 c1]) (w' := w) ?_ ⟨KT.refl _ _ _, rfl, G2.next hG (Below.refl _ _) (by decide) (by decide) HM1.out HM2.out⟩
        go_simp
      · intro listed σ w a hin hout hl hc hp hG hF
        refine Guarded.none rfl ?_
        have e2 : a.tmps.getD 2 undef = .pointer (some ⟨w0.heap.size + 1, 0, none⟩) := hout 2 (outB_spec (by kernel_rfl))
        have e17 := hin 0 17 rfl (hp ⟨0, .data⟩ (by simp) rfl)
        have z0 := hF 0 (hp ⟨0, .data⟩ (by simp) rfl)
        rw [z0] at e17
        have hf := HZ3.out.kt hG.1
        obtain ⟨h0, ⟨Ax, nx, cx, sx, Bx, mx, dx, xb, -⟩, -⟩ := id hG
        refine Does.store_box (T := 28) (cells := #[.slice A3 n3 c3, .bool s3, .slice B3 m3 d3]) rfl e2 e17 xb (by kernel_rfl) rfl (by simp [Value.oneCell']) (fun w2 x9 o9 => ?_)
        have q9 := G2.st1 (τ := upd σ 2 undef) hG (by omega) (by decide) x9 o9 hf HM1.out HM2.out
        exact ⟨q9.1, trivial, q9.2⟩
      · intro listed σ w a hin hout hl hc hp hG hF
        refine Guarded.none rfl ?_
        have e3 : a.tmps.getD 3 undef = .pointer (some ⟨w0.heap.size + 1 + 1, 0, none⟩) := hout 3 (outB_spec (by kernel_rfl))
        have e18 := hin 1 18 rfl (hp ⟨1, .data⟩ (by simp) rfl)
        have z1 := hF 1 (hp ⟨1, .data⟩ (by simp) rfl)
        rw [z1] at e18
        have hf := HZ.out.kp hG.1.kp
        obtain ⟨h0, -, ⟨sx, Bx, mx, dx, xb, -⟩⟩ := id hG
        refine Does.store_box (T := 26) (cells := #[.bool s1, .slice A1 n1 c1]) rfl e3 e18 (Blk.box xb) (by kernel_rfl) rfl (by simp [Value.oneCell']) (fun w2 x9 o9 => ?_)
        have q9 := G2.st2 (τ := upd σ 3 undef) hG (by omega) (by decide) x9 o9 hf HM1.out HM2.out
        exact ⟨q9.1, trivial, q9.2⟩
    · intro listed σ W9 hall hG hF
      rw [show mid _ σ listed _ = (Act.put (Act.put (Act.put (Act.put _ (some 17) (σ 0)) (some 18) (σ 1)) none (σ 2)) none (σ 3)) from (mid_all hall).trans rfl]
      generalize σ 0 = tt0
      generalize σ 1 = tt1
      simp only [Act.put, List.setIfInBounds_toArray, List.set_cons_zero, List.set_cons_succ]
      obtain ⟨TK, ⟨A9, n9, c9, s9, B9, m9, d9, X9, Z9⟩, ⟨t9, C9, p9, q9, Y9, V9⟩⟩ := hG
      have Z9 := Z9 (hall 2 (by decide))
      have V9 := V9 (hall 3 (by decide))
      clear hF hall
      clear σ
      have TB := hide (HT4.out.trans (KT.below TK HW2.out (by omega) (by omega)))
      clear SOF TK
      go_wp2_with fail
      exact bodyPost_tz rfl rfl rfl X9 Y9 rfl ⟨_, _, rfl, Z9, V9, TB.out⟩
end Go.Proofs.YtakcgkohnomgjaaGreatDoor
/- Maps from ints to ints; term.firstPlaces. -/
namespace Go.Proofs.YtakcgkohnomgjaaGreatDoor
open Go.RowKit Go.Maps
open Tm

theorem mapLaw : Keyed Tryz.prog 3 := int_keyed Tryz.underlying3
theorem mapZero (w : World) : (zeroValue 3).run Tryz.prog w = .ok (.int .i64 0) w := by kernel_rfl
theorem run_makeMap_hint (n : Int) (w : World) : (Instr.makeMap 83 (some (.int .i64 n))).run Tryz.prog w = .ok (.map (some w.heap.size)) (w.alloc (.map #[] 0)) := by
  simp [Instr.makeMap, run_underlying Tryz.underlying83, asInt, asIntOf, Result.andThen]
theorem wf_int {x : Int} (h1 : -9223372036854775808 ≤ x) (h2 : x ≤ 9223372036854775807) : (Lit.int .i64 x).wf = true := WalkArith.wf_i64 ⟨by omega, by omega⟩
/-- Block b is a map of at most n entries that says f. -/
def MapI (w : World) (b n : Nat) (f : Int → Option Nat) : Prop :=
  ∃ D : DataW Unit, w.ownsMap Tryz.prog 3 (plainElem Tryz.prog 3) b n D ∧ IsMap D ∧ ∀ x, Maps.has D (.int .i64 x) = (f x).isSome ∧ ∀ i z, f x = some i → D.atKey (.int .i64 x) z = .lit (.int .i64 i)
theorem MapI.lt {w : World} {b n : Nat} {f : Int → Option Nat} (h : MapI w b n f) : b < w.heap.size := by obtain ⟨D, h1, -⟩ := h; exact h1.lt
theorem MapI.below {w w' : World} {b n : Nat} {f : Int → Option Nat} (h : MapI w b n f) (hb : Below w.heap.size w w') : MapI w' b n f := by
  obtain ⟨D, ⟨es, clock, h1, h2⟩, h3⟩ := h
  exact ⟨D, ⟨es, clock, (hb.block b (by rcases Nat.lt_or_ge b w.heap.size with h' | h'; exact h'; simp [Array.getElem?_eq_none h'] at h1)).trans h1, h2⟩, h3⟩
theorem MapI.mono {w : World} {b n m : Nat} {f : Int → Option Nat} (h : MapI w b n f) (hm : n ≤ m) : MapI w b m f := by
  obtain ⟨D, h1, h2⟩ := h; exact ⟨D, h1.mono hm, h2⟩
theorem MapI.congr {w : World} {b n : Nat} {f g : Int → Option Nat} (h : MapI w b n f) (e : ∀ x, f x = g x) : MapI w b n g := by
  obtain rfl : f = g := funext e
  exact h
theorem MapI.start (w : World) : MapI (w.alloc (.map #[] 0)) w.heap.size 0 (fun _ => none) :=
  ⟨.map [], World.ownsMap_made _ _ _ _, isMap_empty, fun x => ⟨rfl, fun i z h => by cases h⟩⟩
theorem mapI_put {w w' : World} {b n i : Nat} {f : Int → Option Nat} {x : Int} {D : DataW Unit} (h0 : IsMap D) (h1 : ∀ x, Maps.has D (.int .i64 x) = (f x).isSome ∧ ∀ i z, f x = some i → D.atKey (.int .i64 x) z = .lit (.int .i64 i))
    (h : w'.ownsMap Tryz.prog 3 (plainElem Tryz.prog 3) b n (D.put (.int .i64 x) (.lit (.int .i64 i)))) : MapI w' b n (fun y => if y = x then some i else f y) := by
  have hk : WideAt.IsKeyLit (.int .i64 x) := trivial
  refine ⟨_, h, h0.put _ _, fun y => ?_⟩
  dsimp only
  by_cases hy : y = x
  · subst hy
    rw [has_put_same h0 hk, if_pos rfl]
    refine ⟨rfl, fun j z hj => ?_⟩
    injection hj with hj
    subst hj
    exact atKey_put_same h0 hk _ _
  · have hne : (Lit.int .i64 y) ≠ (Lit.int .i64 x) := fun e => hy (by injection e)
    rw [has_put_other hne, if_neg hy]
    refine ⟨(h1 y).1, fun j z hj => ?_⟩
    rw [atKey_put_other hne]
    exact (h1 y).2 j z hj
def FirstPost (vs : List Int) (w : World) (e : Ending) (w' : World) : Prop := ∃ b, e = .returned (.map (some b)) ∧ MapI w' b vs.length (fun x => firstAt x vs) ∧ Below w.heap.size w w'
def FirstRel (w0 : World) (vs : List Int) (q : Nat) (wr : World) : Prop := MapI wr w0.heap.size q (fun x => firstAt x (vs.take q)) ∧ Below w0.heap.size w0 wr
theorem first_take_succ {vs : List Int} {q : Nat} {v : Int} (h : vs[q]? = some v) (x : Int) : firstAt x (vs.take (q + 1)) = match firstAt x (vs.take q) with | some i => some i | none => if v = x then some q else none := by
  have hq : q < vs.length := (List.getElem?_eq_some_iff.1 h).1
  rw [List.take_add_one, h]
  show firstAt x (vs.take q ++ [v]) = _
  rw [firstAt_snoc, List.length_take, Nat.min_eq_left (Nat.le_of_lt hq)]
  cases firstAt x (vs.take q) <;> rfl
set_option maxRecDepth 100000 in
set_option maxHeartbeats 2000000 in
theorem firstPlaces_any (A : Option Addr) (n c : Nat) (vs : List Int) (w0 : World) (hx : IIn w0 A n vs) (hn : n ≤ 1099511627) (hwf : ∀ v ∈ vs, -9223372036854775808 ≤ v ∧ v ≤ 9223372036854775807) : Calls Tryz.prog 75 #[.slice A n c] w0 (FirstPost vs w0) := by
  have hmm := run_makeMap_hint
  have y1 := bl_alloc w0 (.map #[] 0)
  have HS := hide (show FirstRel w0 vs 0 (w0.alloc (.map #[] 0)) from ⟨(MapI.start w0).congr (fun x => by simp [firstAt]), y1⟩)
  have HX := hide hx
  have HWF := hide hwf
  clear y1 hx hwf
  go_enter Tryz.func75, Tryz.ntmps75
  go_wp2_with fail
  go_loopw [13] (fun i wr => ∃ q : Nat, q ≤ n ∧ i = .int .i64 q ∧ Hid (FirstRel w0 vs q wr)) (fun i _ => n - (intOf i).toNat)
  case atStart => exact ⟨0, Nat.zero_le _, rfl, HS⟩
  case round =>
    obtain ⟨q, hq, rfl, HR⟩ := hrel
    obtain ⟨hM, hB⟩ := HR.out
    by_cases hqn : q < n
    · obtain ⟨bb, o, v, rfl, hlt, hvq, c0⟩ := (HX.out.below hB).at_ hqn
      obtain ⟨hw1, hw2⟩ := HWF.out v (List.mem_of_getElem? hvq)
      have hkey := keyOf_int_mk Tryz.underlying3 (wf_int hw1 hw2)
      obtain ⟨D, hown, h0, h1⟩ := hM
      have HH := hide h1
      have H0 := hide h0
      have HS := hide (first_take_succ hvq)
      have HB := hide hB
      have hsz := hB.size
      cases hf : firstAt v (vs.take q) with
      | some i =>
        have hhas : Maps.has D (.int .i64 v) = true := by have := (h1 v).1; dsimp only at this; rw [this, hf]; rfl
        have HE := hide (show FirstRel w0 vs (q + 1) wr from ⟨(show MapI wr w0.heap.size q (fun x => firstAt x (vs.take q)) from ⟨D, hown, h0, h1⟩).mono (Nat.le_succ q) |>.congr (fun x => by
          rw [HS.out x]
          cases hx : firstAt x (vs.take q) with
          | some j => rfl
          | none =>
            by_cases hvx : v = x
            · subst hvx; rw [hf] at hx; cases hx
            · simp [hvx]), hB⟩)
        clear h1 h0 hf hvq HR hB hw1 hw2
        go_wp2_with (at_lookup; refine wpList_lookup_own_ok_int _ rfl _ _ 83 rfl 3 3 .i64 mapLaw Tryz.underlying83 Tryz.underlying3 (mapZero _) w0.heap.size q D rfl hown _ _ rfl hkey ?_; intro c hat hwc; clear hat hwc)
        go_roundw
        case rel => exact ⟨q + 1, by omega, by go_num, HE⟩
        case measure => simp [intOf] <;> omega
      | none =>
        have hhas : Maps.has D (.int .i64 v) = false := by have := (h1 v).1; dsimp only at this; rw [this, hf]; rfl
        have HE := hide (show ∀ w1, w1.ownsMap Tryz.prog 3 (plainElem Tryz.prog 3) w0.heap.size (q + 1) (D.put (.int .i64 v) (.lit (.int .i64 (q : Nat)))) → wr.grownBy w1 (some w0.heap.size) → FirstRel w0 vs (q + 1) w1 from fun w1 h2 g2 => ⟨(mapI_put (w := wr) h0 h1 h2).congr (fun x => by
          rw [HS.out x]
          by_cases hvx : x = v
          · subst hvx; rw [if_pos rfl, hf]; simp
          · rw [if_neg hvx]
            cases hx : firstAt x (vs.take q) with
            | some j => rfl
            | none => simp [Ne.symm hvx]), hB.trans (Only.below (g := w0.heap.size) g2 hsz (Nat.le_refl _))⟩)
        have hwq : (Lit.int .i64 (q : Int)).wf = true := wf_int (by omega) (by omega)
        clear h1 h0 hf hvq HR hB hw1 hw2
        go_wp2_with (first
          | (at_lookup; refine wpList_lookup_own_ok_int _ rfl _ _ 83 rfl 3 3 .i64 mapLaw Tryz.underlying83 Tryz.underlying3 (mapZero _) w0.heap.size q D rfl hown _ _ rfl hkey ?_; intro c hat hwc; clear hat hwc)
          | (at_mapUpdate; refine wpList_mapUpdate_own _ rfl _ _ _ 83 rfl 3 3 mapLaw Tryz.underlying83 _ w0.heap.size q D rfl hown (by unfold maxLen; omega) _ _ _ rfl rfl hkey _ [] (plainElem_int Tryz.underlying3 hwq) ?_; intro w1 hown1 hgrow1; have HE1 := hide (HE.out w1 hown1 hgrow1); clear hown1 hgrow1))
        go_roundw
        case rel => exact ⟨q + 1, by omega, by go_num, HE1⟩
        case measure => simp [intOf] <;> omega
    · obtain rfl : q = n := by omega
      have HE := hide (show FirstPost vs w0 (.returned (.map (some w0.heap.size))) wr from ⟨w0.heap.size, rfl, by rw [HX.out.1]; exact hM.congr (fun x => by rw [List.take_of_length_le (by rw [HX.out.1]; exact Nat.le_refl _)]), hB⟩)
      clear hM hB HR
      go_wp2_with fail
      go_ret
      exact HE.out
end Go.Proofs.YtakcgkohnomgjaaGreatDoor
/- Slices of terms: what they read as. -/
namespace Go.Proofs.YtakcgkohnomgjaaGreatDoor
open Go.RowKit

/-- A term as its cells hold it, and what it reads as. -/
structure TV where
  A : Option Addr
  n : Nat
  c : Nat
  s : Bool
  B : Option Addr
  m : Nat
  d : Nat
  L : List (Int × Int)
  K : Int
def TV.cells (t : TV) : List Value := [.slice t.A t.n t.c, .bool t.s, .slice t.B t.m t.d]
def TV.agg (t : TV) : Value := .agg #[.slice t.A t.n t.c, .bool t.s, .slice t.B t.m t.d]
def flatT (ts : List TV) : List Value := (ts.map TV.cells).flatten
theorem flatT_cons (t : TV) (ts : List TV) : flatT (t :: ts) = t.cells ++ flatT ts := rfl
theorem flatT_get (ts : List TV) (i : Nat) (t : TV) (h : ts[i]? = some t) : (flatT ts)[3 * i]? = some (.slice t.A t.n t.c) ∧ (flatT ts)[3 * i + 1]? = some (.bool t.s) ∧ (flatT ts)[3 * i + 2]? = some (.slice t.B t.m t.d) := by
  induction ts generalizing i with
  | nil => simp at h
  | cons q ts ih =>
    rw [flatT_cons]
    cases i with
    | zero =>
      simp at h; subst h
      exact ⟨rfl, rfl, rfl⟩
    | succ i =>
      have h2 := ih i (by simpa using h)
      have hl : q.cells.length = 3 := rfl
      rw [show 3 * (i + 1) = q.cells.length + 3 * i by rw [hl]; omega, show q.cells.length + 3 * i + 1 = q.cells.length + (3 * i + 1) by omega, show q.cells.length + 3 * i + 2 = q.cells.length + (3 * i + 2) by omega, List.getElem?_append_right (by omega), List.getElem?_append_right (by omega), List.getElem?_append_right (by omega)]
      simpa using h2
def TermsIn (w : World) (A : Option Addr) (n : Nat) (ts : List TV) (k : Nat) : Prop :=
  ts.length = n ∧ (0 < n → ∃ b o, A = some ⟨b, o, none⟩ ∧ ∀ j u, (flatT ts)[j]? = some u → w.cell? ⟨b, o + j, none⟩ = some u) ∧ ∀ t ∈ ts, TIn w t.agg t.L t.K k
theorem TermsIn.below {w w' : World} {A : Option Addr} {n k : Nat} {ts : List TV} (h : TermsIn w A n ts k) (hb : Below w.heap.size w w') : TermsIn w' A n ts k := by
  refine ⟨h.1, fun hn => ?_, fun p hp => (h.2.2 p hp).below hb⟩
  obtain ⟨b, o, e, hc⟩ := h.2.1 hn
  refine ⟨b, o, e, fun j u hu => ?_⟩
  have h1 := hc j u hu
  have hlt := World.block_lt_of_cell? w _ h1
  exact (World.cell?_of_block (w := w) (a := ⟨b, o + j, none⟩) (hb.block b hlt)).trans h1
theorem TermsIn.at_ {w : World} {A : Option Addr} {n k i : Nat} {ts : List TV} (h : TermsIn w A n ts k) (hi : i < n) : ∃ b o t, A = some ⟨b, o, none⟩ ∧ ts[i]? = some t ∧ w.cell? ⟨b, o + i * 3, none⟩ = some (.slice t.A t.n t.c) ∧ w.cell? ⟨b, o + i * 3 + 1, none⟩ = some (.bool t.s) ∧ w.cell? ⟨b, o + i * 3 + 2, none⟩ = some (.slice t.B t.m t.d) ∧ TIn w t.agg t.L t.K k := by
  obtain ⟨b, o, e, hc⟩ := h.2.1 (by omega)
  have hl : i < ts.length := by rw [h.1]; exact hi
  obtain ⟨g0, g1, g2⟩ := flatT_get ts i ts[i] (List.getElem?_eq_getElem hl)
  refine ⟨b, o, ts[i], e, List.getElem?_eq_getElem hl, ?_, ?_, ?_, h.2.2 _ (List.getElem_mem hl)⟩
  · rw [show o + i * 3 = o + 3 * i by omega]; exact hc _ _ g0
  · rw [show o + i * 3 + 1 = o + (3 * i + 1) by omega]; exact hc _ _ g1
  · rw [show o + i * 3 + 2 = o + (3 * i + 2) by omega]; exact hc _ _ g2
/-- The terms of a literal. -/
theorem TermsIn.box {T : TypeId} {w : World} {g k : Nat} {ts : List TV} (h : Box T w g (flatT ts).toArray) (hk : ∀ t ∈ ts, TIn w t.agg t.L t.K k) : TermsIn w (some ⟨g, 0, none⟩) ts.length ts k :=
  ⟨rfl, fun _ => ⟨g, 0, rfl, fun j u hu => by rw [Nat.zero_add]; exact h.cell j u (by simpa using hu)⟩, hk⟩
theorem ZIn.cut {w : World} {s : Bool} {A : Option Addr} {n c k j : Nat} {Z : Int} (h : ZIn w (.agg #[.bool s, .slice A n c]) Z k) (hn : n ≤ j) : ZIn w (.agg #[.bool s, .slice A n c]) Z j := by
  obtain ⟨s', A', n', c', xs, e, h1, h2, h3, h4, h5⟩ := h
  injection e with e
  have e1 : s' = s ∧ A' = A ∧ n' = n ∧ c' = c := by simpa [eq_comm] using e
  obtain ⟨rfl, rfl, rfl, rfl⟩ := e1
  exact ⟨_, _, _, _, xs, rfl, h1, h2, h3, hn, h5⟩
theorem ZIn.bounds {w : World} {s : Bool} {A : Option Addr} {n c k : Nat} {Z : Int} (h : ZIn w (.agg #[.bool s, .slice A n c]) Z k) : n ≤ 9223372036854775807 := by
  obtain ⟨s', A', n', c', xs, e, h1, h2, h3, h4, h5⟩ := h
  injection e with e
  have e1 : s' = s ∧ A' = A ∧ n' = n ∧ c' = c := by simpa [eq_comm] using e
  obtain ⟨rfl, rfl, rfl, rfl⟩ := e1
  omega
/-- A term of at most 30 parts, whose numbers have at most 20 limbs. -/
def FewT (w : World) (t : TV) : Prop := t.n ≤ 30 ∧ TIn w t.agg t.L t.K 20
def FewPost (ts : List TV) (w : World) (e : Ending) (w' : World) : Prop := ∃ r, e = .returned (.bool r) ∧ (r = true → ∀ t ∈ ts, FewT w t) ∧ Below w.heap.size w w'
end Go.Proofs.YtakcgkohnomgjaaGreatDoor
