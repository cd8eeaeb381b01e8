/- Texts of one seat, put together: Putting Open OpenZ. -/
import Derived.Test.YtdeakieenppmiaaGreatB27
import Derived.Test.YtdeakieenppmiaaGreatB23
import Derived.Test.YtdeakieenppmiaaGreatB26
import Derived.Test.YtdeakieenppmiaaGreatB30
import Derived.Test.YtdeakieenppmiaaGreatB02
import Derived.ProofKit
import Derived.OpenShut
import Derived.ShutString
import Derived.ChangeOld
import Derived.Below
import Derived.Lib.SmallJoins
set_option linter.unusedVariables false
/- plumblinelaw03.putting: the calls that put are alive. -/
namespace Go.Proofs.YtdeakieenppmiaaGreat
open Go.RowKit
open Tm

theorem TermsIn.two {w : World} {g n1 c1 m1 d1 n2 c2 m2 d2 k : Nat} {s1 s2 : Bool} {A1 B1 A2 B2 : Option Addr} {L M : List (Int × Int)} {K J : Int} (x : Box 28 w g #[.slice A1 n1 c1, .bool s1, .slice B1 m1 d1, .slice A2 n2 c2, .bool s2, .slice B2 m2 d2])
    (h1 : TRes w (.agg #[.slice A1 n1 c1, .bool s1, .slice B1 m1 d1]) L K k) (h2 : TRes w (.agg #[.slice A2 n2 c2, .bool s2, .slice B2 m2 d2]) M J k) :
    TermsIn w (some ⟨g, 0, none⟩) 2 [⟨A1, n1, c1, s1, B1, m1, d1, L, K⟩, ⟨A2, n2, c2, s2, B2, m2, d2, M, J⟩] k :=
  TermsIn.box (ts := [⟨A1, n1, c1, s1, B1, m1, d1, L, K⟩, ⟨A2, n2, c2, s2, B2, m2, d2, M, J⟩]) x (fun t ht => by
    simp only [List.mem_cons, List.not_mem_nil, or_false] at ht
    rcases ht with rfl | rfl
    · exact h1.in_
    · exact h2.in_)
set_option maxRecDepth 100000 in
set_option maxHeartbeats 16000000 in
theorem putting_yes (w0 : World) : Calls Tryz.prog 5 #[] w0 (YesPost w0) := by
  go_enter Tryz.func5, Tryz.ntmps5
  go_wp2_with fail
  refine (tvar_any 1 _).mono ?_
  rintro e w1 ⟨v1, rfl, r1, b1⟩
  go_wp2_with fail
  refine (rof_z 1 _ (by decide) (by decide)).mono ?_
  rintro e w2 ⟨v2, rfl, r2, b2⟩
  have hnm := number_t v2 1 2 w2 r2.in_ (by decide)
  have HR1 := hide (r1.below b2)
  have HB2 := hide (b1.next b2)
  clear r1 r2 b1 b2
  go_wp2_with fail
  refine hnm.mono ?_
  rintro e w3 ⟨v3, rfl, r3, b3⟩
  have hsb := tsub_any v1 v3 (norm [(1, 1)]) [] 0 1 3 w3 (HR1.out.below b3).in_ (r3.in_.mono (by decide)) (by decide +kernel) (by decide) (by decide)
  have HB3 := hide (HB2.out.next b3)
  clear hnm r3 b3
  go_wp2_with fail
  refine hsb.mono ?_
  rintro e w4 ⟨v4, rfl, r4, b4⟩
  obtain ⟨At, nt, ct, st, Bt, mt, dt, rfl⟩ := r4.form
  obtain ⟨q0, a1, -⟩ := bstart1 28 w4 #[.slice At nt ct, .bool st, .slice Bt mt dt]
  obtain ⟨ky, hky, HY0⟩ : ∃ ky, ky ≤ 100 ∧ TRes (w4.alloc (.cells #[.slice At nt ct, .bool st, .slice Bt mt dt] 28)) (.agg #[.slice At nt ct, .bool st, .slice Bt mt dt]) [(1, 1)] (-1) ky := ⟨_, by decide +kernel, TRes.ofEq (r4.below a1) (by decide +kernel) (by decide)⟩
  have HY := hide HY0
  have HB5 := hide ((HB3.out.next b4).next a1)
  have Q0 := hide q0
  clear hsb r4 b4 HY0 q0 a1
  go_wp2_with fail
  generalize hW5 : w4.alloc (.cells #[.slice At nt ct, .bool st, .slice Bt mt dt] 28) = W5 at *
  clear hW5
  have SOF := hide (show ∀ W, Below W5.heap.size W5 W → (W.cell? ⟨w4.heap.size, 0, none⟩ = some (.slice At nt ct) ∧ W.cell? ⟨w4.heap.size, 1, none⟩ = some (.bool st) ∧ W.cell? ⟨w4.heap.size, 2, none⟩ = some (.slice Bt mt dt)) from fun W h => ⟨(Q0.out.next h).c0, (Q0.out.next h).c1, (Q0.out.next h).c2⟩)
  refine wp_drawn (by kernel_rfl) (by kernel_rfl) (by kernel_rfl) (fun w w' => Below w.heap.size w w') (fun j v w => match j with | 0 => ∃ g, v = .slice (some ⟨g, 0, none⟩) 1 1 ∧ Box 2 w g (ints [2]).toArray | 1 => TRes w v (ofs [2]) 3 2 | 2 => v = .agg #[.slice At nt ct, .bool st, .slice Bt mt dt] | 3 => TRes w v [(1, 2)] 1 (2 + ky + 1010000) | 4 => ∃ g, v = .slice (some ⟨g, 0, none⟩) 2 2 ∧ Box 2 w g (ints [0, 2]).toArray | 5 => TRes w v (ofs [0, 2]) 1 2 | 6 => TRes w v [(1, 2)] 1 4 | 7 => v = .bool true | 8 => v = .bool true | 9 => ∃ g, v = .slice (some ⟨g, 0, none⟩) 2 2 ∧ Box 2 w g (ints [1, 1]).toArray | 10 => TRes w v (ofs [1, 1]) 0 2 | 11 => ∃ g, v = .slice (some ⟨g, 0, none⟩) 2 2 ∧ Box 3 w g (ints [0, 1]).toArray | 12 => TRes w v [(1, 1)] 0 3 | 13 => TRes w v [(0, 1)] 0 3 | 14 => ∃ g A1 n1 c1 s1 B1 m1 d1 A2 n2 c2 s2 B2 m2 d2, v = .slice (some ⟨g, 0, none⟩) 2 2 ∧ Box 28 w g #[.slice A1 n1 c1, .bool s1, .slice B1 m1 d1, .slice A2 n2 c2, .bool s2, .slice B2 m2 d2] ∧ TRes w (.agg #[.slice A1 n1 c1, .bool s1, .slice B1 m1 d1]) [(1, 1)] 0 3 ∧ TRes w (.agg #[.slice A2 n2 c2, .bool s2, .slice B2 m2 d2]) [(0, 1)] 0 3 | 15 => TRes w v [(0, 1), (1, 1)] 0 1010005 | 16 => ∃ g, v = .slice (some ⟨g, 0, none⟩) 2 2 ∧ Box 2 w g (ints [1, 1]).toArray | 17 => TRes w v [(0, 1), (1, 1)] 0 2 | 18 => v = .bool true | 19 => v = .bool true | 20 => v = .bool true | 21 => ∃ g, v = .slice (some ⟨g, 0, none⟩) 1 1 ∧ Box 2 w g (ints [1]).toArray | 22 => TRes w v (ofs [1]) 0 2 | 23 => TRes w v [(1, 1)] 0 1010002 | 24 => ∃ g, v = .slice (some ⟨g, 0, none⟩) 2 2 ∧ Box 2 w g (ints [0, 1]).toArray | 25 => TRes w v (ofs [0, 1]) 0 2 | 26 => TRes w v [(1, 1)] 0 4 | 27 => v = .bool true | 28 => v = .bool true | 29 => v = .bool true | _ => True) (fun _ _ w => Below W5.heap.size W5 w) ?_ (fun _ => bl_drewN W5 1) ?_ ?_
  · intro j v w w' hT h
    match j, h with
    | 0, h => exact (by obtain ⟨g, e, h1⟩ := h; exact ⟨g, e, h1.next hT⟩)
    | 1, h => exact h.below hT
    | 2, h => exact h
    | 3, h => exact h.below hT
    | 4, h => exact (by obtain ⟨g, e, h1⟩ := h; exact ⟨g, e, h1.next hT⟩)
    | 5, h => exact h.below hT
    | 6, h => exact h.below hT
    | 7, h => exact h
    | 8, h => exact h
    | 9, h => exact (by obtain ⟨g, e, h1⟩ := h; exact ⟨g, e, h1.next hT⟩)
    | 10, h => exact h.below hT
    | 11, h => exact (by obtain ⟨g, e, h1⟩ := h; exact ⟨g, e, h1.next hT⟩)
    | 12, h => exact h.below hT
    | 13, h => exact h.below hT
    | 14, h => exact (by obtain ⟨g, A1, n1, c1, s1, B1, m1, d1, A2, n2, c2, s2, B2, m2, d2, e, h1, h2, h3⟩ := h; exact ⟨g, A1, n1, c1, s1, B1, m1, d1, A2, n2, c2, s2, B2, m2, d2, e, h1.next hT, h2.below hT, h3.below hT⟩)
    | 15, h => exact h.below hT
    | 16, h => exact (by obtain ⟨g, e, h1⟩ := h; exact ⟨g, e, h1.next hT⟩)
    | 17, h => exact h.below hT
    | 18, h => exact h
    | 19, h => exact h
    | 20, h => exact h
    | 21, h => exact (by obtain ⟨g, e, h1⟩ := h; exact ⟨g, e, h1.next hT⟩)
    | 22, h => exact h.below hT
    | 23, h => exact h.below hT
    | 24, h => exact (by obtain ⟨g, e, h1⟩ := h; exact ⟨g, e, h1.next hT⟩)
    | 25, h => exact h.below hT
    | 26, h => exact h.below hT
    | 27, h => exact h
    | 28, h => exact h
    | 29, h => exact h
    | j + 30, h => trivial
  · refine ⟨?_, ?_, ?_, ?_, ?_, ?_, ?_, ?_, ?_, ?_, ?_, ?_, ?_, ?_, ?_, ?_, ?_, ?_, ?_, ?_, ?_, ?_, ?_, ?_, ?_, ?_, ?_, ?_, ?_, ?_, trivial⟩
    · intro listed σ w a hin hout hl hc hp hG hF
      refine Guarded.none rfl ?_
      refine Does.val (.slice (some ⟨w.heap.size, 0, none⟩) 1 1) (w' := w.alloc (.cells #[.int .i64 2] 2)) ?_ ⟨bl_alloc w _, ⟨w.heap.size, rfl, Box.new _ _ _⟩, hG.next (bl_alloc w _)⟩
      go_simp
    · intro listed σ w a hin hout hl hc hp hG hF
      refine Guarded.none rfl ?_
      have e6 := hin 0 6 rfl (hp ⟨0, .data⟩ (by simp) rfl)
      obtain ⟨g0, ev0, x0⟩ := hF 0 (hp ⟨0, .data⟩ (by simp) rfl)
      rw [ev0] at e6
      refine Does.call ?_ (lof_any 3 (some ⟨g0, 0, none⟩) 1 1 [2] w x0.ints (by decide) (by decide) (by decide) (by decide)) ?_
      · go_simp
      · rintro e w' ⟨v, rfl, z, hb⟩
        exact ⟨_, rfl, hb, z, hG.next hb⟩
    · intro listed σ w a hin hout hl hc hp hG hF
      refine Guarded.none rfl ?_
      have e1 : a.tmps.getD 1 undef = .pointer (some ⟨w4.heap.size, 0, none⟩) := hout 1 (outB_spec (by kernel_rfl))
      have CC := SOF.out w hG; obtain ⟨C0, C1, C2⟩ := CC
      refine Does.val (.agg #[.slice At nt ct, .bool st, .slice Bt mt dt]) (w' := w) ?_ ⟨Below.refl _ _, rfl, hG⟩
      go_simp
    · intro listed σ w a hin hout hl hc hp hG hF
      refine Guarded.none rfl ?_
      have e7 := hin 1 7 rfl (hp ⟨1, .data⟩ (by simp) rfl)
      have z1 := hF 1 (hp ⟨1, .data⟩ (by simp) rfl)
      have e8 : a.tmps.getD 8 undef = .agg #[.slice At nt ct, .bool st, .slice Bt mt dt] := (hin 2 8 rfl (hp ⟨2, .data⟩ (by simp) rfl)).trans (hF 2 (hp ⟨2, .data⟩ (by simp) rfl))
      refine Does.call ?_ (tput_any _ _ (ofs [2]) [(1, 1)] 3 (-1) 0 2 ky w z1.in_ (HY.out.below hG).in_ (by decide) (by decide) (by decide) (by decide) (by decide) (by decide) (by omega)) ?_
      · go_simp
      · rintro e w' ⟨v, rfl, z, hb⟩
        exact ⟨_, rfl, hb, (TRes.ofEq z (by decide +kernel) (by decide +kernel)), hG.next hb⟩
    · intro listed σ w a hin hout hl hc hp hG hF
      refine Guarded.none rfl ?_
      refine Does.val (.slice (some ⟨w.heap.size, 0, none⟩) 2 2) (w' := w.alloc (.cells #[.int .i64 0, .int .i64 2] 2)) ?_ ⟨bl_alloc w _, ⟨w.heap.size, rfl, Box.new _ _ _⟩, hG.next (bl_alloc w _)⟩
      go_simp
    · intro listed σ w a hin hout hl hc hp hG hF
      refine Guarded.none rfl ?_
      have e10 := hin 4 10 rfl (hp ⟨4, .data⟩ (by simp) rfl)
      obtain ⟨g4, ev4, x4⟩ := hF 4 (hp ⟨4, .data⟩ (by simp) rfl)
      rw [ev4] at e10
      refine Does.call ?_ (lof_any 1 (some ⟨g4, 0, none⟩) 2 2 [0, 2] w x4.ints (by decide) (by decide) (by decide) (by decide)) ?_
      · go_simp
      · rintro e w' ⟨v, rfl, z, hb⟩
        exact ⟨_, rfl, hb, z, hG.next hb⟩
    · intro listed σ w a hin hout hl hc hp hG hF
      refine Guarded.none rfl ?_
      have e11 := hin 5 11 rfl (hp ⟨5, .data⟩ (by simp) rfl)
      have z5 := hF 5 (hp ⟨5, .data⟩ (by simp) rfl)
      refine Does.call ?_ (rplain_any _ (ofs [0, 2]) 1 2 w z5.in_ (by decide) (by decide)) ?_
      · go_simp
      · rintro e w' ⟨v, rfl, z, hb⟩
        exact ⟨_, rfl, hb, (TRes.ofEq z (by decide +kernel) (rfl)), hG.next hb⟩
    · intro listed σ w a hin hout hl hc hp hG hF
      refine Guarded.none rfl ?_
      have e9 := hin 3 9 rfl (hp ⟨3, .data⟩ (by simp) rfl)
      have z3 := hF 3 (hp ⟨3, .data⟩ (by simp) rfl)
      have e12 := hin 6 12 rfl (hp ⟨6, .data⟩ (by simp) rfl)
      have z6 := hF 6 (hp ⟨6, .data⟩ (by simp) rfl)
      refine Does.call ?_ (rtsame_yes _ _ [(1, 2)] 1 (2 + ky + 1010000) 4 w z3 z6 (by decide)) ?_
      · go_simp
      · rintro e w' ⟨rfl, hb⟩
        exact ⟨_, rfl, hb, rfl, hG.next hb⟩
    · intro listed σ w a hin hout hl hc hp hG hF
      refine Guarded.none rfl ?_
      have e13 : a.tmps.getD 13 undef = .bool true := (hin 7 13 rfl (hp ⟨7, .data⟩ (by simp) rfl)).trans (hF 7 (hp ⟨7, .data⟩ (by simp) rfl))
      refine Does.val (.bool true) (w' := w) ?_ ⟨Below.refl _ _, rfl, hG⟩
      simp only [Array.getD_eq_getD_getElem?] at e13
      go_simp
    · intro listed σ w a hin hout hl hc hp hG hF
      refine Guarded.some (d := 14) (b := true) rfl rfl ((hin 8 14 rfl (hp ⟨8, .guard⟩ (by simp) rfl)).trans (hF 8 (hp ⟨8, .guard⟩ (by simp) rfl))) ?_
      refine Or.inl ⟨rfl, ?_⟩
      refine Does.val (.slice (some ⟨w.heap.size, 0, none⟩) 2 2) (w' := w.alloc (.cells #[.int .i64 1, .int .i64 1] 2)) ?_ ⟨bl_alloc w _, ⟨w.heap.size, rfl, Box.new _ _ _⟩, hG.next (bl_alloc w _)⟩
      go_simp
    · intro listed σ w a hin hout hl hc hp hG hF
      refine Guarded.some (d := 14) (b := true) rfl rfl ((hin 8 14 rfl (hp ⟨8, .guard⟩ (by simp) rfl)).trans (hF 8 (hp ⟨8, .guard⟩ (by simp) rfl))) ?_
      refine Or.inl ⟨rfl, ?_⟩
      have e15 := hin 9 15 rfl (hp ⟨9, .data⟩ (by simp) rfl)
      obtain ⟨g9, ev9, x9⟩ := hF 9 (hp ⟨9, .data⟩ (by simp) rfl)
      rw [ev9] at e15
      refine Does.call ?_ (lof_any 0 (some ⟨g9, 0, none⟩) 2 2 [1, 1] w x9.ints (by decide) (by decide) (by decide) (by decide)) ?_
      · go_simp
      · rintro e w' ⟨v, rfl, z, hb⟩
        exact ⟨_, rfl, hb, z, hG.next hb⟩
    · intro listed σ w a hin hout hl hc hp hG hF
      refine Guarded.some (d := 14) (b := true) rfl rfl ((hin 8 14 rfl (hp ⟨8, .guard⟩ (by simp) rfl)).trans (hF 8 (hp ⟨8, .guard⟩ (by simp) rfl))) ?_
      refine Or.inl ⟨rfl, ?_⟩
      refine Does.val (.slice (some ⟨w.heap.size, 0, none⟩) 2 2) (w' := w.alloc (.cells #[.int .i64 0, .int .i64 1] 3)) ?_ ⟨bl_alloc w _, ⟨w.heap.size, rfl, Box.new _ _ _⟩, hG.next (bl_alloc w _)⟩
      go_simp
    · intro listed σ w a hin hout hl hc hp hG hF
      refine Guarded.some (d := 14) (b := true) rfl rfl ((hin 8 14 rfl (hp ⟨8, .guard⟩ (by simp) rfl)).trans (hF 8 (hp ⟨8, .guard⟩ (by simp) rfl))) ?_
      refine Or.inl ⟨rfl, ?_⟩
      refine Does.call ?_ (tvar_any 1 w) ?_
      · go_simp
      · rintro e w' ⟨v, rfl, z, hb⟩
        exact ⟨_, rfl, hb, (TRes.ofEq z (by decide +kernel) (rfl)), hG.next hb⟩
    · intro listed σ w a hin hout hl hc hp hG hF
      refine Guarded.some (d := 14) (b := true) rfl rfl ((hin 8 14 rfl (hp ⟨8, .guard⟩ (by simp) rfl)).trans (hF 8 (hp ⟨8, .guard⟩ (by simp) rfl))) ?_
      refine Or.inl ⟨rfl, ?_⟩
      refine Does.call ?_ (tvar_any 0 w) ?_
      · go_simp
      · rintro e w' ⟨v, rfl, z, hb⟩
        exact ⟨_, rfl, hb, (TRes.ofEq z (by decide +kernel) (rfl)), hG.next hb⟩
    · intro listed σ w a hin hout hl hc hp hG hF
      refine Guarded.some (d := 14) (b := true) rfl rfl ((hin 8 14 rfl (hp ⟨8, .guard⟩ (by simp) rfl)).trans (hF 8 (hp ⟨8, .guard⟩ (by simp) rfl))) ?_
      refine Or.inl ⟨rfl, ?_⟩
      have e18 := hin 12 18 rfl (hp ⟨12, .data⟩ (by simp) rfl)
      have z12 := hF 12 (hp ⟨12, .data⟩ (by simp) rfl)
      have e19 := hin 13 19 rfl (hp ⟨13, .data⟩ (by simp) rfl)
      have z13 := hF 13 (hp ⟨13, .data⟩ (by simp) rfl)
      obtain ⟨A1, n1, c1, s1, B1, m1, d1, ev1⟩ := TRes.form z12
      obtain ⟨A2, n2, c2, s2, B2, m2, d2, ev2⟩ := TRes.form z13
      rw [ev1] at e18 z12
      rw [ev2] at e19 z13
      refine Does.val (.slice (some ⟨w.heap.size, 0, none⟩) 2 2) (w' := w.alloc (.cells #[.slice A1 n1 c1, .bool s1, .slice B1 m1 d1, .slice A2 n2 c2, .bool s2, .slice B2 m2 d2] 28)) ?_ ⟨bl_alloc w _, ⟨w.heap.size, A1, n1, c1, s1, B1, m1, d1, A2, n2, c2, s2, B2, m2, d2, rfl, Box.new _ _ _, z12.below (bl_alloc w _), z13.below (bl_alloc w _)⟩, hG.next (bl_alloc w _)⟩
      simp only [Array.getD_eq_getD_getElem?] at e18 e19
      go_simp
    · intro listed σ w a hin hout hl hc hp hG hF
      refine Guarded.some (d := 14) (b := true) rfl rfl ((hin 8 14 rfl (hp ⟨8, .guard⟩ (by simp) rfl)).trans (hF 8 (hp ⟨8, .guard⟩ (by simp) rfl))) ?_
      refine Or.inl ⟨rfl, ?_⟩
      have e16 := hin 10 16 rfl (hp ⟨10, .data⟩ (by simp) rfl)
      have z10 := hF 10 (hp ⟨10, .data⟩ (by simp) rfl)
      have e17 := hin 11 17 rfl (hp ⟨11, .data⟩ (by simp) rfl)
      obtain ⟨g11, ev11, x11⟩ := hF 11 (hp ⟨11, .data⟩ (by simp) rfl)
      rw [ev11] at e17
      have e20 := hin 14 20 rfl (hp ⟨14, .data⟩ (by simp) rfl)
      obtain ⟨g14, A1, n1, c1, s1, B1, m1, d1, A2, n2, c2, s2, B2, m2, d2, ev14, x14, za14, zb14⟩ := hF 14 (hp ⟨14, .data⟩ (by simp) rfl)
      rw [ev14] at e20
      refine Does.call ?_ (tputAll_any _ (ofs [1, 1]) 0 2 (some ⟨g11, 0, none⟩) 2 2 [0, 1] (some ⟨g14, 0, none⟩) 2 2 [⟨A1, n1, c1, s1, B1, m1, d1, [(1, 1)], 0⟩, ⟨A2, n2, c2, s2, B2, m2, d2, [(0, 1)], 0⟩] 3 w z10.in_ x11.ints (by decide) (by decide) (TermsIn.two x14 za14 zb14) (by decide) (fun t ht => by simp only [List.mem_cons, List.not_mem_nil, or_false] at ht; rcases ht with rfl | rfl <;> exact (by decide : (1 : Nat) ≤ 1000)) (by decide) (by decide) (by decide) (by decide)) ?_
      · go_simp
      · rintro e w' ⟨v, rfl, z, hb⟩
        exact ⟨_, rfl, hb, (TRes.ofEq (show TRes _ _ (norm (putL [0, 1] [([(1, 1)], 0), ([(0, 1)], 0)] (norm (ofs [1, 1])))) (0 + putK [0, 1] [([(1, 1)], 0), ([(0, 1)], 0)] (norm (ofs [1, 1]))) 1010005 from z) (by decide +kernel) (by decide +kernel)), hG.next hb⟩
    · intro listed σ w a hin hout hl hc hp hG hF
      refine Guarded.some (d := 14) (b := true) rfl rfl ((hin 8 14 rfl (hp ⟨8, .guard⟩ (by simp) rfl)).trans (hF 8 (hp ⟨8, .guard⟩ (by simp) rfl))) ?_
      refine Or.inl ⟨rfl, ?_⟩
      refine Does.val (.slice (some ⟨w.heap.size, 0, none⟩) 2 2) (w' := w.alloc (.cells #[.int .i64 1, .int .i64 1] 2)) ?_ ⟨bl_alloc w _, ⟨w.heap.size, rfl, Box.new _ _ _⟩, hG.next (bl_alloc w _)⟩
      go_simp
    · intro listed σ w a hin hout hl hc hp hG hF
      refine Guarded.some (d := 14) (b := true) rfl rfl ((hin 8 14 rfl (hp ⟨8, .guard⟩ (by simp) rfl)).trans (hF 8 (hp ⟨8, .guard⟩ (by simp) rfl))) ?_
      refine Or.inl ⟨rfl, ?_⟩
      have e22 := hin 16 22 rfl (hp ⟨16, .data⟩ (by simp) rfl)
      obtain ⟨g16, ev16, x16⟩ := hF 16 (hp ⟨16, .data⟩ (by simp) rfl)
      rw [ev16] at e22
      refine Does.call ?_ (lof_any 0 (some ⟨g16, 0, none⟩) 2 2 [1, 1] w x16.ints (by decide) (by decide) (by decide) (by decide)) ?_
      · go_simp
      · rintro e w' ⟨v, rfl, z, hb⟩
        exact ⟨_, rfl, hb, (TRes.ofEq z (by decide) rfl), hG.next hb⟩
    · intro listed σ w a hin hout hl hc hp hG hF
      refine Guarded.some (d := 14) (b := true) rfl rfl ((hin 8 14 rfl (hp ⟨8, .guard⟩ (by simp) rfl)).trans (hF 8 (hp ⟨8, .guard⟩ (by simp) rfl))) ?_
      refine Or.inl ⟨rfl, ?_⟩
      have e21 := hin 15 21 rfl (hp ⟨15, .data⟩ (by simp) rfl)
      have z15 := hF 15 (hp ⟨15, .data⟩ (by simp) rfl)
      have e23 := hin 17 23 rfl (hp ⟨17, .data⟩ (by simp) rfl)
      have z17 := hF 17 (hp ⟨17, .data⟩ (by simp) rfl)
      refine Does.call ?_ (rtsame_yes _ _ [(0, 1), (1, 1)] 0 1010005 2 w z15 z17 (by decide)) ?_
      · go_simp
      · rintro e w' ⟨rfl, hb⟩
        exact ⟨_, rfl, hb, rfl, hG.next hb⟩
    · intro listed σ w a hin hout hl hc hp hG hF
      refine Guarded.none rfl ?_
      have e14 : a.tmps.getD 14 undef = .bool true := (hin 8 14 rfl (hp ⟨8, .data⟩ (by simp) rfl)).trans (hF 8 (hp ⟨8, .data⟩ (by simp) rfl))
      have e24 : a.tmps.getD 24 undef = .bool true := (hin 18 24 rfl (hp ⟨18, .data⟩ (by simp) rfl)).trans (hF 18 (hp ⟨18, .data⟩ (by simp) rfl))
      refine Does.val (.bool true) (w' := w) ?_ ⟨Below.refl _ _, rfl, hG⟩
      simp only [Array.getD_eq_getD_getElem?] at e14 e24
      go_simp
    · intro listed σ w a hin hout hl hc hp hG hF
      refine Guarded.none rfl ?_
      have e25 : a.tmps.getD 25 undef = .bool true := (hin 19 25 rfl (hp ⟨19, .data⟩ (by simp) rfl)).trans (hF 19 (hp ⟨19, .data⟩ (by simp) rfl))
      refine Does.val (.bool true) (w' := w) ?_ ⟨Below.refl _ _, rfl, hG⟩
      simp only [Array.getD_eq_getD_getElem?] at e25
      go_simp
    · intro listed σ w a hin hout hl hc hp hG hF
      refine Guarded.some (d := 26) (b := true) rfl rfl ((hin 20 26 rfl (hp ⟨20, .guard⟩ (by simp) rfl)).trans (hF 20 (hp ⟨20, .guard⟩ (by simp) rfl))) ?_
      refine Or.inl ⟨rfl, ?_⟩
      refine Does.val (.slice (some ⟨w.heap.size, 0, none⟩) 1 1) (w' := w.alloc (.cells #[.int .i64 1] 2)) ?_ ⟨bl_alloc w _, ⟨w.heap.size, rfl, Box.new _ _ _⟩, hG.next (bl_alloc w _)⟩
      go_simp
    · intro listed σ w a hin hout hl hc hp hG hF
      refine Guarded.some (d := 26) (b := true) rfl rfl ((hin 20 26 rfl (hp ⟨20, .guard⟩ (by simp) rfl)).trans (hF 20 (hp ⟨20, .guard⟩ (by simp) rfl))) ?_
      refine Or.inl ⟨rfl, ?_⟩
      have e27 := hin 21 27 rfl (hp ⟨21, .data⟩ (by simp) rfl)
      obtain ⟨g21, ev21, x21⟩ := hF 21 (hp ⟨21, .data⟩ (by simp) rfl)
      rw [ev21] at e27
      refine Does.call ?_ (lof_any 0 (some ⟨g21, 0, none⟩) 1 1 [1] w x21.ints (by decide) (by decide) (by decide) (by decide)) ?_
      · go_simp
      · rintro e w' ⟨v, rfl, z, hb⟩
        exact ⟨_, rfl, hb, z, hG.next hb⟩
    · intro listed σ w a hin hout hl hc hp hG hF
      refine Guarded.some (d := 26) (b := true) rfl rfl ((hin 20 26 rfl (hp ⟨20, .guard⟩ (by simp) rfl)).trans (hF 20 (hp ⟨20, .guard⟩ (by simp) rfl))) ?_
      refine Or.inl ⟨rfl, ?_⟩
      have e28 := hin 22 28 rfl (hp ⟨22, .data⟩ (by simp) rfl)
      have z22 := hF 22 (hp ⟨22, .data⟩ (by simp) rfl)
      refine Does.call ?_ (tmove_any _ (ofs [1]) 0 1 2 w z22.in_ (by decide) (by decide) (by decide) (by decide) (by decide)) ?_
      · go_simp
      · rintro e w' ⟨v, rfl, z, hb⟩
        exact ⟨_, rfl, hb, (TRes.ofEq z (by decide +kernel) (rfl)), hG.next hb⟩
    · intro listed σ w a hin hout hl hc hp hG hF
      refine Guarded.some (d := 26) (b := true) rfl rfl ((hin 20 26 rfl (hp ⟨20, .guard⟩ (by simp) rfl)).trans (hF 20 (hp ⟨20, .guard⟩ (by simp) rfl))) ?_
      refine Or.inl ⟨rfl, ?_⟩
      refine Does.val (.slice (some ⟨w.heap.size, 0, none⟩) 2 2) (w' := w.alloc (.cells #[.int .i64 0, .int .i64 1] 2)) ?_ ⟨bl_alloc w _, ⟨w.heap.size, rfl, Box.new _ _ _⟩, hG.next (bl_alloc w _)⟩
      go_simp
    · intro listed σ w a hin hout hl hc hp hG hF
      refine Guarded.some (d := 26) (b := true) rfl rfl ((hin 20 26 rfl (hp ⟨20, .guard⟩ (by simp) rfl)).trans (hF 20 (hp ⟨20, .guard⟩ (by simp) rfl))) ?_
      refine Or.inl ⟨rfl, ?_⟩
      have e30 := hin 24 30 rfl (hp ⟨24, .data⟩ (by simp) rfl)
      obtain ⟨g24, ev24, x24⟩ := hF 24 (hp ⟨24, .data⟩ (by simp) rfl)
      rw [ev24] at e30
      refine Does.call ?_ (lof_any 0 (some ⟨g24, 0, none⟩) 2 2 [0, 1] w x24.ints (by decide) (by decide) (by decide) (by decide)) ?_
      · go_simp
      · rintro e w' ⟨v, rfl, z, hb⟩
        exact ⟨_, rfl, hb, z, hG.next hb⟩
    · intro listed σ w a hin hout hl hc hp hG hF
      refine Guarded.some (d := 26) (b := true) rfl rfl ((hin 20 26 rfl (hp ⟨20, .guard⟩ (by simp) rfl)).trans (hF 20 (hp ⟨20, .guard⟩ (by simp) rfl))) ?_
      refine Or.inl ⟨rfl, ?_⟩
      have e31 := hin 25 31 rfl (hp ⟨25, .data⟩ (by simp) rfl)
      have z25 := hF 25 (hp ⟨25, .data⟩ (by simp) rfl)
      refine Does.call ?_ (rplain_any _ (ofs [0, 1]) 0 2 w z25.in_ (by decide) (by decide)) ?_
      · go_simp
      · rintro e w' ⟨v, rfl, z, hb⟩
        exact ⟨_, rfl, hb, (TRes.ofEq z (by decide +kernel) (rfl)), hG.next hb⟩
    · intro listed σ w a hin hout hl hc hp hG hF
      refine Guarded.some (d := 26) (b := true) rfl rfl ((hin 20 26 rfl (hp ⟨20, .guard⟩ (by simp) rfl)).trans (hF 20 (hp ⟨20, .guard⟩ (by simp) rfl))) ?_
      refine Or.inl ⟨rfl, ?_⟩
      have e29 := hin 23 29 rfl (hp ⟨23, .data⟩ (by simp) rfl)
      have z23 := hF 23 (hp ⟨23, .data⟩ (by simp) rfl)
      have e32 := hin 26 32 rfl (hp ⟨26, .data⟩ (by simp) rfl)
      have z26 := hF 26 (hp ⟨26, .data⟩ (by simp) rfl)
      refine Does.call ?_ (rtsame_yes _ _ [(1, 1)] 0 1010002 4 w z23 z26 (by decide)) ?_
      · go_simp
      · rintro e w' ⟨rfl, hb⟩
        exact ⟨_, rfl, hb, rfl, hG.next hb⟩
    · intro listed σ w a hin hout hl hc hp hG hF
      refine Guarded.none rfl ?_
      have e26 : a.tmps.getD 26 undef = .bool true := (hin 20 26 rfl (hp ⟨20, .data⟩ (by simp) rfl)).trans (hF 20 (hp ⟨20, .data⟩ (by simp) rfl))
      have e33 : a.tmps.getD 33 undef = .bool true := (hin 27 33 rfl (hp ⟨27, .data⟩ (by simp) rfl)).trans (hF 27 (hp ⟨27, .data⟩ (by simp) rfl))
      refine Does.val (.bool true) (w' := w) ?_ ⟨Below.refl _ _, rfl, hG⟩
      simp only [Array.getD_eq_getD_getElem?] at e26 e33
      go_simp
    · intro listed σ w a hin hout hl hc hp hG hF
      refine Guarded.none rfl ?_
      have e34 : a.tmps.getD 34 undef = .bool true := (hin 28 34 rfl (hp ⟨28, .data⟩ (by simp) rfl)).trans (hF 28 (hp ⟨28, .data⟩ (by simp) rfl))
      refine Does.val (.bool true) (w' := w) ?_ ⟨Below.refl _ _, rfl, hG⟩
      simp only [Array.getD_eq_getD_getElem?] at e34
      go_simp
  · intro listed σ W9 hall hG hF
    rw [show mid _ σ listed _ = (Act.put (Act.put (Act.put (Act.put (Act.put (Act.put (Act.put (Act.put (Act.put (Act.put (Act.put (Act.put (Act.put (Act.put (Act.put (Act.put (Act.put (Act.put (Act.put (Act.put (Act.put (Act.put (Act.put (Act.put (Act.put (Act.put (Act.put (Act.put (Act.put (Act.put _ (some 6) (σ 0)) (some 7) (σ 1)) (some 8) (σ 2)) (some 9) (σ 3)) (some 10) (σ 4)) (some 11) (σ 5)) (some 12) (σ 6)) (some 13) (σ 7)) (some 14) (σ 8)) (some 15) (σ 9)) (some 16) (σ 10)) (some 17) (σ 11)) (some 18) (σ 12)) (some 19) (σ 13)) (some 20) (σ 14)) (some 21) (σ 15)) (some 22) (σ 16)) (some 23) (σ 17)) (some 24) (σ 18)) (some 25) (σ 19)) (some 26) (σ 20)) (some 27) (σ 21)) (some 28) (σ 22)) (some 29) (σ 23)) (some 30) (σ 24)) (some 31) (σ 25)) (some 32) (σ 26)) (some 33) (σ 27)) (some 34) (σ 28)) (some 0) (σ 29)) from (mid_all hall).trans rfl]
    generalize σ 0 = tt0
    generalize σ 1 = tt1
    generalize σ 2 = tt2
    generalize σ 3 = tt3
    generalize σ 4 = tt4
    generalize σ 5 = tt5
    generalize σ 6 = tt6
    generalize σ 7 = tt7
    generalize σ 8 = tt8
    generalize σ 9 = tt9
    generalize σ 10 = tt10
    generalize σ 11 = tt11
    generalize σ 12 = tt12
    generalize σ 13 = tt13
    generalize σ 14 = tt14
    generalize σ 15 = tt15
    generalize σ 16 = tt16
    generalize σ 17 = tt17
    generalize σ 18 = tt18
    generalize σ 19 = tt19
    generalize σ 20 = tt20
    generalize σ 21 = tt21
    generalize σ 22 = tt22
    generalize σ 23 = tt23
    generalize σ 24 = tt24
    generalize σ 25 = tt25
    generalize σ 26 = tt26
    generalize σ 27 = tt27
    generalize σ 28 = tt28
    rw [show σ 29 = .bool true from hF 29 (by decide)]
    simp only [Act.put, List.setIfInBounds_toArray, List.set_cons_zero, List.set_cons_succ]
    have TG := hG
    clear hF hG hall
    clear σ
    have HE := hide (HB5.out.next TG)
    clear TG SOF HY
    go_wp2_with fail
    go_ret
    exact ⟨rfl, HE.out⟩
end Go.Proofs.YtdeakieenppmiaaGreat
/- What the row's arguments are opened to. -/
namespace Go.Proofs.YtdeakieenppmiaaGreat
open Go.ChangeShapes Go.WideShapes Go.ChangeAt Go.RowKit
open Go.ChangeMaps (open_string shut_string)

theorem own : ownKnob Tryz.prog.godebug = none := by kernel_rfl
theorem laidOut : laidOutB Tryz.prog = true := by kernel_rfl

theorem wf_u32 {z : Int} (h : (Lit.int .u32 z).wf = true) : 0 ≤ z ∧ z < 4294967296 := by
  have h1 : IntKind.u32.min = 0 := rfl
  have h2 : IntKind.u32.max = 4294967295 := rfl
  simp only [Lit.wf, Bool.and_eq_true, decide_eq_true_eq] at h
  omega

theorem open_nums {H : Type} {enc : TypeId × Value → H} {W : World} {a0 : Option Addr} {len0 cap0 : Nat} {d : DataW H} {p : List MemPlace}
    (h0 : DataW.Trod enc Tryz.prog W 0 (fun _ => true) true 24 (.slice a0 len0 cap0) d p) : ∃ xs, Nums W a0 len0 xs ∧ len0 ≤ cap0 ∧ cap0 ≤ 9223372036854775807 := by
  obtain ⟨fuel, hf⟩ := h0
  rcases open_ints Tryz.underlying24 Tryz.underlying81 (by kernel_rfl) hf with ⟨hcs, _⟩ | ⟨x, l, c, zs, hcs, _, hl, hm, hz, _, hcell, hwz⟩
  · simp [Value.cells] at hcs
    obtain ⟨rfl, rfl, rfl⟩ := hcs
    exact ⟨[], Nums.nil _ _, by omega, by omega⟩
  · simp [Value.cells] at hcs
    obtain ⟨rfl, rfl, rfl⟩ := hcs
    have hz2 : zs.length = cap0 := by simpa using hz
    unfold maxLen at hm
    refine ⟨(zs.take len0).map Int.toNat, ⟨by simp; omega, ?_, ?_⟩, hl, hm⟩
    · intro y hy
      obtain ⟨z, hz1, rfl⟩ := List.mem_map.1 hy
      have := wf_u32 (hwz z (List.mem_of_mem_take hz1))
      omega
    · intro hn
      have h1 := hcell 0 (by omega)
      obtain ⟨b, o, spot⟩ := x
      have hspot : spot = none := by simpa [Addr.add] using World.cell?_spot h1
      subst hspot
      refine ⟨b, o, rfl, fun i hi => ?_⟩
      have h2 := hcell i (by omega)
      have e : (⟨b, o, none⟩ : Addr).add i = ⟨b, o + i, none⟩ := by
        by_cases hi0 : i = 0
        · subst hi0; rfl
        · simp [Addr.add, hi0]
      rw [e] at h2
      rw [h2]
      have hlt : i < zs.length := by omega
      have hw := wf_u32 (hwz zs[i] (List.getElem_mem hlt))
      have e1 : zs.getD i 0 = zs[i] := by rw [List.getD_eq_getElem?_getD, List.getElem?_eq_getElem hlt]; rfl
      have e2 : ((zs.take len0).map Int.toNat).getD i 0 = zs[i].toNat := by
        rw [List.getD_eq_getElem?_getD, List.getElem?_map, List.getElem?_take_of_lt hi, List.getElem?_eq_getElem hlt]; rfl
      rw [e1, e2]
      congr 2
      omega
end Go.Proofs.YtdeakieenppmiaaGreat
/- What a row's argument of type api.Int is opened to. -/
namespace Go.Proofs.YtdeakieenppmiaaGreat
open Go.ChangeShapes Go.WideShapes Go.ChangeAt Go.RowKit
open Go.ChangeMaps (open_string shut_string)

theorem open_nums1 {H : Type} {enc : TypeId × Value → H} {W : World} {v : Value} {x : DataW H × List MemPlace} {f : Nat}
    (hf : DataW.trod enc Tryz.prog W 0 (fun _ => true) true f 24 [v] = some x) : ∃ a len cap xs, v = .slice a len cap ∧ Nums W a len xs ∧ len ≤ cap ∧ cap ≤ 9223372036854775807 := by
  rcases open_ints Tryz.underlying24 Tryz.underlying81 (by kernel_rfl) hf with ⟨hcs, _⟩ | ⟨y, l, c, zs, hcs, _⟩
  · injection hcs with hcs
    subst hcs
    exact ⟨none, 0, 0, [], rfl, Nums.nil _ _, by omega, by omega⟩
  · injection hcs with hcs
    subst hcs
    obtain ⟨xs, h1, h2, h3⟩ := open_nums (a0 := some y) (len0 := l) (cap0 := c) (d := x.1) (p := x.2) (W := W) (enc := enc) ⟨f, hf⟩
    exact ⟨some y, l, c, xs, rfl, h1, h2, h3⟩
set_option maxRecDepth 100000 in
theorem open_zint {H : Type} {enc : TypeId × Value → H} {W : World} {b : Nat} {v : Value} {d : DataW H} {p : List MemPlace} (hv : Value.okWide Tryz.prog W .any b 26 v)
    (h0 : DataW.Trod enc Tryz.prog W 0 (fun _ => true) true 26 v d p) : ∃ s a len cap xs, v = .agg #[.bool s, .slice a len cap] ∧ Nums W a len xs ∧ len ≤ cap ∧ cap ≤ 9223372036854775807 := by
  obtain ⟨v0, v1, y0, y1, n, rfl, -, -, t0, t1⟩ := Go.Joins.open_agg2 Tryz.underlying26 (by kernel_rfl) (by kernel_rfl) hv h0
  obtain ⟨s, e0, -⟩ := DataW.trod_bool Tryz.underlying4 t0
  injection e0 with e0
  subst e0
  obtain ⟨a, len, cap, xs, rfl, h1, h2, h3⟩ := open_nums1 t1
  exact ⟨s, a, len, cap, xs, rfl, h1, h2, h3⟩
end Go.Proofs.YtdeakieenppmiaaGreat
