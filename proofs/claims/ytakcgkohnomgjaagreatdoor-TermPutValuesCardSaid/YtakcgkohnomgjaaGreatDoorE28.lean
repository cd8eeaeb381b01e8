/- Texts of one seat, put together: Summing. -/
import Derived.Test.YtakcgkohnomgjaaGreatDoorE27
import Derived.Test.YtakcgkohnomgjaaGreatDoorE23
set_option linter.unusedVariables false
set_option linter.unusedSimpArgs false
/- plumblinelaw03.summing: the calls that add are alive. -/
namespace Go.Proofs.YtakcgkohnomgjaaGreatDoor
open Go.RowKit
open Tm

theorem field_parts (A : Option Addr) (n c : Nat) (s : Bool) (B : Option Addr) (m d : Nat) (w : World) : (Instr.field 28 (.agg #[.slice A n c, .bool s, .slice B m d]) 0).run Tryz.prog w = .ok (.slice A n c) w := by kernel_rfl
theorem TRes.ofEq {w : World} {v : Value} {L M : List (Int × Int)} {K J : Int} {k : Nat} (h : TRes w v L K k) (e : L = M) (f : K = J) : TRes w v M J k := e ▸ f ▸ h
set_option maxRecDepth 100000 in
set_option maxHeartbeats 8000000 in
theorem summing_yes (w0 : World) : Calls Tryz.prog 9 #[] w0 (YesPost w0) := by
  have hv := tvar_any 0 w0
  go_enter Tryz.func9, Tryz.ntmps9
  go_wp2_with fail
  refine hv.mono ?_
  rintro e w1 ⟨v1, rfl, r1, b1⟩
  obtain ⟨Ax, nx, cx, sx, Bx, mx, dx, rfl⟩ := r1.form
  obtain ⟨y0, y1, y2⟩ := bstart1 28 w1 #[.slice Ax nx cx, .bool sx, .slice Bx mx dx]
  have HX := hide (r1.below y1)
  have HT := hide (b1.next y1)
  have SOF0 := hide y0
  clear r1 b1 y0 y1 y2 hv
  go_wp2_with fail
  generalize hW0 : w1.alloc (.cells #[.slice Ax nx cx, .bool sx, .slice Bx mx dx] 28) = W0 at *
  clear hW0
  have SOF := hide (show ∀ W, Below W0.heap.size W0 W → (W.cell? ⟨w1.heap.size, 0, none⟩ = some (.slice Ax nx cx) ∧ W.cell? ⟨w1.heap.size, 1, none⟩ = some (.bool sx) ∧ W.cell? ⟨w1.heap.size, 2, none⟩ = some (.slice Bx mx dx)) from fun W h => ⟨(SOF0.out.next h).c0, (SOF0.out.next h).c1, (SOF0.out.next h).c2⟩)
  clear SOF0
  have HMM := hide (show ∀ (j : Nat) (v : Value) (w w' : World), Below w.heap.size w w' → (fun (j : Nat) (v : Value) (w : World) => match j with | 1 => ∃ A c s B m d, v = .agg #[.slice A 2 c, .bool s, .slice B m d] ∧ OwnParts w W0.heap.size (.slice A 2 c) 2 (ofs [1, 2]) 2 | 2 => ∃ A c, v = .slice A 2 c ∧ OwnParts w W0.heap.size (.slice A 2 c) 2 (ofs [1, 2]) 2 | 4 => ∃ A c s B m d, v = .agg #[.slice A 1 c, .bool s, .slice B m d] ∧ OwnParts w W0.heap.size (.slice A 1 c) 1 (ofs [1]) 2 | 5 => ∃ A c, v = .slice A 1 c ∧ OwnParts w W0.heap.size (.slice A 1 c) 1 (ofs [1]) 2 | _ => True) j v w → (fun (j : Nat) (v : Value) (w : World) => match j with | 1 => ∃ A c s B m d, v = .agg #[.slice A 2 c, .bool s, .slice B m d] ∧ OwnParts w W0.heap.size (.slice A 2 c) 2 (ofs [1, 2]) 2 | 2 => ∃ A c, v = .slice A 2 c ∧ OwnParts w W0.heap.size (.slice A 2 c) 2 (ofs [1, 2]) 2 | 4 => ∃ A c s B m d, v = .agg #[.slice A 1 c, .bool s, .slice B m d] ∧ OwnParts w W0.heap.size (.slice A 1 c) 1 (ofs [1]) 2 | 5 => ∃ A c, v = .slice A 1 c ∧ OwnParts w W0.heap.size (.slice A 1 c) 1 (ofs [1]) 2 | _ => True) j v w' from by
    intro j v w w' hT h
    match j, h with
    | 1, h => exact (by obtain ⟨A, c, s, B, m, d, e, h1⟩ := h; exact ⟨A, c, s, B, m, d, e, h1.below hT⟩)
    | 2, h => exact (by obtain ⟨A, c, e, h1⟩ := h; exact ⟨A, c, e, h1.below hT⟩)
    | 4, h => exact (by obtain ⟨A, c, s, B, m, d, e, h1⟩ := h; exact ⟨A, c, s, B, m, d, e, h1.below hT⟩)
    | 5, h => exact (by obtain ⟨A, c, e, h1⟩ := h; exact ⟨A, c, e, h1.below hT⟩)
    | 0, h => exact trivial
    | 3, h => exact trivial
    | j + 6, h => trivial)
  refine wp_drawnX 6 (by kernel_rfl) (by kernel_rfl) (by kernel_rfl) (fun w w' => Below w.heap.size w w') (fun j v w => match j with | 0 => ∃ g, v = .slice (some ⟨g, 0, none⟩) 2 2 ∧ Box 2 w g (ints [1, 2]).toArray | 1 => True | 2 => True | 3 => ∃ g, v = .slice (some ⟨g, 0, none⟩) 1 1 ∧ Box 2 w g (ints [1]).toArray | 4 => True | 5 => True | 6 => ∃ A c, v = .slice A 3 c ∧ PRes w A 3 (ofs [1, 2] ++ ofs [1]) 2 ∧ 3 ≤ c ∧ c ≤ 9223372036854775807 | 7 => TIn w v (ofs [1, 2] ++ ofs [1]) 0 2 | 8 => TRes w v (norm (ofs [1, 2] ++ ofs [1])) 0 5 | 9 => ∃ g, v = .slice (some ⟨g, 0, none⟩) 2 2 ∧ Box 2 w g (ints [2, 2]).toArray | 10 => TRes w v (ofs [2, 2]) 0 2 | 11 => v = .bool true | 12 => v = .bool true | 13 => v = .agg #[.slice Ax nx cx, .bool sx, .slice Bx mx dx] | 14 => ∃ g, v = .slice (some ⟨g, 0, none⟩) 1 1 ∧ Box 2 w g (ints [1]).toArray | 15 => TRes w v (ofs [1]) 0 2 | 16 => v = .bool true | 17 => v = .bool true | 18 => v = .bool true | 19 => ZRes w v 4 2 | 20 => TRes w v [] 4 2 | 21 => TRes w v (ofs []) 4 2 | 22 => v = .bool true | 23 => v = .bool true | 24 => v = .bool true | 25 => v = .agg #[.slice Ax nx cx, .bool sx, .slice Bx mx dx] | 26 => ∃ g, v = .slice (some ⟨g, 0, none⟩) 1 1 ∧ Box 2 w g (ints [1]).toArray | 27 => TRes w v (ofs [1]) 3 2 | 28 => TRes w v (norm (norm [(0, 1)] ++ ofs [1])) (0 + 3) (3 + 1 + (1 + 1)) | 29 => ∃ g, v = .slice (some ⟨g, 0, none⟩) 1 1 ∧ Box 2 w g (ints [2]).toArray | 30 => TRes w v (ofs [2]) 3 2 | 31 => v = .bool true | 32 => v = .bool true | 33 => v = .bool true | 34 => v = .agg #[.slice Ax nx cx, .bool sx, .slice Bx mx dx] | 35 => ∃ g, v = .slice (some ⟨g, 0, none⟩) 1 1 ∧ Box 2 w g (ints [1]).toArray | 36 => TRes w v (ofs [1]) 3 2 | 37 => TRes w v (norm (norm [(0, 1)] ++ (ofs [1]).map fun p => (p.1, -1 * p.2))) (0 - 3) (3 + 1 + 1 + (1 + 1)) | 38 => TRes w v (ofs []) (-3) 2 | 39 => v = .bool true | 40 => v = .bool true | 41 => v = .bool true | 42 => ∃ g, v = .slice (some ⟨g, 0, none⟩) 1 1 ∧ Box 2 w g (ints [1]).toArray | 43 => TRes w v (ofs [1]) 3 2 | 44 => ZRes w v 2 2 | 45 => TRes w v (norm ((ofs [1]).map fun p => (p.1, 2 * p.2))) (2 * 3) (2 + (2 + 1)) | 46 => ∃ g, v = .slice (some ⟨g, 0, none⟩) 1 1 ∧ Box 2 w g (ints [2]).toArray | 47 => TRes w v (ofs [2]) 6 2 | 48 => v = .bool true | 49 => v = .bool true | 50 => v = .bool true | 51 => v = .agg #[.slice Ax nx cx, .bool sx, .slice Bx mx dx] | 52 => TRes w v (norm ((norm [(0, 1)]).map fun p => (p.1, -1 * p.2))) (-0) (3 + 1) | 53 => ∃ g, v = .slice (some ⟨g, 0, none⟩) 1 1 ∧ Box 2 w g (ints [(-1)]).toArray | 54 => TRes w v (ofs [(-1)]) 0 2 | 55 => v = .bool true | 56 => v = .bool true | 57 => v = .bool true | _ => True) (GM 6 (fun (j : Nat) (v : Value) (w : World) => match j with | 1 => ∃ A c s B m d, v = .agg #[.slice A 2 c, .bool s, .slice B m d] ∧ OwnParts w W0.heap.size (.slice A 2 c) 2 (ofs [1, 2]) 2 | 2 => ∃ A c, v = .slice A 2 c ∧ OwnParts w W0.heap.size (.slice A 2 c) 2 (ofs [1, 2]) 2 | 4 => ∃ A c s B m d, v = .agg #[.slice A 1 c, .bool s, .slice B m d] ∧ OwnParts w W0.heap.size (.slice A 1 c) 1 (ofs [1]) 2 | 5 => ∃ A c, v = .slice A 1 c ∧ OwnParts w W0.heap.size (.slice A 1 c) 1 (ofs [1]) 2 | _ => True) W0) ?_ (fun _ => GM.start (bl_drewN W0 1)) ?_ ?_
  · intro j v w w' hT h
    match j, h with
    | 0, h => exact (by obtain ⟨g, e, h1⟩ := h; exact ⟨g, e, h1.next hT⟩)
    | 1, h => exact trivial
    | 2, h => exact trivial
    | 3, h => exact (by obtain ⟨g, e, h1⟩ := h; exact ⟨g, e, h1.next hT⟩)
    | 4, h => exact trivial
    | 5, h => exact trivial
    | 6, h => exact (by obtain ⟨A, c, e, h1, h2, h3⟩ := h; exact ⟨A, c, e, h1.below hT, h2, h3⟩)
    | 7, h => exact h.below hT
    | 8, h => exact h.below hT
    | 9, h => exact (by obtain ⟨g, e, h1⟩ := h; exact ⟨g, e, h1.next hT⟩)
    | 10, h => exact h.below hT
    | 11, h => exact h
    | 12, h => exact h
    | 13, h => exact h
    | 14, h => exact (by obtain ⟨g, e, h1⟩ := h; exact ⟨g, e, h1.next hT⟩)
    | 15, h => exact h.below hT
    | 16, h => exact h
    | 17, h => exact h
    | 18, h => exact h
    | 19, h => exact h.below hT
    | 20, h => exact h.below hT
    | 21, h => exact h.below hT
    | 22, h => exact h
    | 23, h => exact h
    | 24, h => exact h
    | 25, h => exact h
    | 26, h => exact (by obtain ⟨g, e, h1⟩ := h; exact ⟨g, e, h1.next hT⟩)
    | 27, h => exact h.below hT
    | 28, h => exact h.below hT
    | 29, h => exact (by obtain ⟨g, e, h1⟩ := h; exact ⟨g, e, h1.next hT⟩)
    | 30, h => exact h.below hT
    | 31, h => exact h
    | 32, h => exact h
    | 33, h => exact h
    | 34, h => exact h
    | 35, h => exact (by obtain ⟨g, e, h1⟩ := h; exact ⟨g, e, h1.next hT⟩)
    | 36, h => exact h.below hT
    | 37, h => exact h.below hT
    | 38, h => exact h.below hT
    | 39, h => exact h
    | 40, h => exact h
    | 41, h => exact h
    | 42, h => exact (by obtain ⟨g, e, h1⟩ := h; exact ⟨g, e, h1.next hT⟩)
    | 43, h => exact h.below hT
    | 44, h => exact h.below hT
    | 45, h => exact h.below hT
    | 46, h => exact (by obtain ⟨g, e, h1⟩ := h; exact ⟨g, e, h1.next hT⟩)
    | 47, h => exact h.below hT
    | 48, h => exact h
    | 49, h => exact h
    | 50, h => exact h
    | 51, h => exact h
    | 52, h => exact h.below hT
    | 53, h => exact (by obtain ⟨g, e, h1⟩ := h; exact ⟨g, e, h1.next hT⟩)
    | 54, h => exact h.below hT
    | 55, h => exact h
    | 56, h => exact h
    | 57, h => exact h
    | j + 58, h => trivial
  · refine ⟨?_, ?_, ?_, ?_, ?_, ?_, ?_, ?_, ?_, ?_, ?_, ?_, ?_, ?_, ?_, ?_, ?_, ?_, ?_, ?_, ?_, ?_, ?_, ?_, ?_, ?_, ?_, ?_, ?_, ?_, ?_, ?_, ?_, ?_, ?_, ?_, ?_, ?_, ?_, ?_, ?_, ?_, ?_, ?_, ?_, ?_, ?_, ?_, ?_, ?_, ?_, ?_, ?_, ?_, ?_, ?_, ?_, ?_, trivial⟩
    · refine ⟨fun _ => ?_, fun h => absurd h (by decide)⟩
      intro listed σ w a hin hout hl hc hp hG hF
      refine Guarded.none rfl ?_
      refine Does.val (.slice (some ⟨w.heap.size, 0, none⟩) 2 2) (w' := w.alloc (.cells #[.int .i64 1, .int .i64 2] 2)) ?_ ⟨bl_alloc w _, ⟨w.heap.size, rfl, Box.new _ _ _⟩, hG.next HMM.out (by decide) (bl_alloc w _) (fun _ => trivial)⟩
      go_simp
    · refine ⟨fun _ => ?_, fun h => absurd h (by decide)⟩
      intro listed σ w a hin hout hl hc hp hG hF
      refine Guarded.none rfl ?_
      have e3 := hin 0 3 rfl (hp ⟨0, .data⟩ (by simp) rfl)
      obtain ⟨g0, ev0, x0⟩ := hF 0 (hp ⟨0, .data⟩ (by simp) rfl)
      rw [ev0] at e3
      refine Does.call ?_ (lof_own 0 (some ⟨g0, 0, none⟩) 2 2 [1, 2] w x0.ints (by decide) (by decide) (by decide) (by decide)) ?_
      · go_simp
      · rintro e w' ⟨A, c, s, B, m, d, rfl, own, hc1, hc2, zk, hb⟩
        exact ⟨_, rfl, hb, trivial, hG.next HMM.out (by decide) (hb) (fun _ => ⟨A, c, s, B, m, d, rfl, own.rebase hG.1.size⟩)⟩
    · refine ⟨fun _ => ?_, fun h => absurd h (by decide)⟩
      intro listed σ w a hin hout hl hc hp hG hF
      refine Guarded.none rfl ?_
      have e4 := hin 1 4 rfl (hp ⟨1, .data⟩ (by simp) rfl)
      have z1 := hF 1 (hp ⟨1, .data⟩ (by simp) rfl)
      obtain ⟨A1, c1, s1, B1, m1, d1, ev1, own1⟩ := hG.2 (un_next (k := 6) hc hl (by kernel_rfl)) 1 (hp ⟨1, .data⟩ (by simp) rfl)
      rw [ev1] at e4
      refine Does.val (.slice A1 2 c1) (w' := w) ?_ ⟨Below.refl _ _, trivial, hG.next HMM.out (by decide) (Below.refl _ _) (fun _ => ⟨A1, c1, rfl, own1⟩)⟩
      simp only [Array.getD_eq_getD_getElem?] at e4
      have hfd := field_parts A1 2 c1 s1 B1 m1 d1 w
      go_simp
    · refine ⟨fun _ => ?_, fun h => absurd h (by decide)⟩
      intro listed σ w a hin hout hl hc hp hG hF
      refine Guarded.none rfl ?_
      refine Does.val (.slice (some ⟨w.heap.size, 0, none⟩) 1 1) (w' := w.alloc (.cells #[.int .i64 1] 2)) ?_ ⟨bl_alloc w _, ⟨w.heap.size, rfl, Box.new _ _ _⟩, hG.next HMM.out (by decide) (bl_alloc w _) (fun _ => trivial)⟩
      go_simp
    · refine ⟨fun _ => ?_, fun h => absurd h (by decide)⟩
      intro listed σ w a hin hout hl hc hp hG hF
      refine Guarded.none rfl ?_
      have e6 := hin 3 6 rfl (hp ⟨3, .data⟩ (by simp) rfl)
      obtain ⟨g3, ev3, x3⟩ := hF 3 (hp ⟨3, .data⟩ (by simp) rfl)
      rw [ev3] at e6
      refine Does.call ?_ (lof_own 0 (some ⟨g3, 0, none⟩) 1 1 [1] w x3.ints (by decide) (by decide) (by decide) (by decide)) ?_
      · go_simp
      · rintro e w' ⟨A, c, s, B, m, d, rfl, own, hc1, hc2, zk, hb⟩
        exact ⟨_, rfl, hb, trivial, hG.next HMM.out (by decide) (hb) (fun _ => ⟨A, c, s, B, m, d, rfl, own.rebase hG.1.size⟩)⟩
    · refine ⟨fun _ => ?_, fun h => absurd h (by decide)⟩
      intro listed σ w a hin hout hl hc hp hG hF
      refine Guarded.none rfl ?_
      have e7 := hin 4 7 rfl (hp ⟨4, .data⟩ (by simp) rfl)
      have z4 := hF 4 (hp ⟨4, .data⟩ (by simp) rfl)
      obtain ⟨A4, c4, s4, B4, m4, d4, ev4, own4⟩ := hG.2 (un_next (k := 6) hc hl (by kernel_rfl)) 4 (hp ⟨4, .data⟩ (by simp) rfl)
      rw [ev4] at e7
      refine Does.val (.slice A4 1 c4) (w' := w) ?_ ⟨Below.refl _ _, trivial, hG.next HMM.out (by decide) (Below.refl _ _) (fun _ => ⟨A4, c4, rfl, own4⟩)⟩
      simp only [Array.getD_eq_getD_getElem?] at e7
      have hfd := field_parts A4 1 c4 s4 B4 m4 d4 w
      go_simp
    · refine ⟨fun h => absurd rfl h, fun _ => ?_⟩
      intro listed σ w a hin hout hl hc hp hG hF
      refine Guarded.none rfl ?_
      have hun : listed.getD 6 false = false := unlisted hl
      obtain ⟨A2, c2, ev2, rs2, l2, n2, q2, z2⟩ := hG.2 hun 2 (hp ⟨2, .data⟩ (by simp) rfl)
      obtain ⟨A5, c5, ev5, rs5, l5, n5, q5, z5⟩ := hG.2 hun 5 (hp ⟨5, .data⟩ (by simp) rfl)
      have e5 : a.tmps.getD 5 undef = .slice A2 2 c2 := (hin 2 5 rfl (hp ⟨2, .data⟩ (by simp) rfl)).trans ev2
      have e8 : a.tmps.getD 8 undef = .slice A5 1 c5 := (hin 5 8 rfl (hp ⟨5, .data⟩ (by simp) rfl)).trans ev5
      obtain ⟨g5, rfl, -, hg5, hc5⟩ := l5.cell (by decide)
      obtain ⟨i0, hi0, hz0, hz1, hz2⟩ := info_parts part_info
      obtain ⟨v', w', hr, h2, h3⟩ := run_append_lrow (P := Tryz.prog) w W0.heap.size 22 22 55 i0 _ 3 40 Tryz.underlying22 hi0 hz0 hz1 hz2 rfl (by decide) part_zero_nls (.slice A2 2 c2) 2 (flat rs2) l2 ⟨g5, 0, none⟩ 1 c5 (flat rs5) (by rw [flat_length, n5]) (fun jj u hu => by rw [addr_add, Nat.zero_add]; exact (hc5 jj u hu).1) (flat_one _) (flat_nls _) (by decide) (by decide) hG.1.size
      have hk := l2.kp h3
      obtain ⟨A9, c9, hv9, hc91, hc92, -⟩ := h2.len
      subst hv9
      rw [← flat_append] at h2
      have hz9 : ∀ p ∈ rs2 ++ rs5, ZRes w' p.num p.Z 2 := fun p hp => by
        rcases List.mem_append.1 hp with hp | hp
        · exact (z2 p hp).kp hk
        · exact (z5 p hp).kp hk
      refine Does.val (.slice A9 3 c9) (w' := w') (exec_append rfl e5 e8 hr) ⟨?_, ⟨A9, c9, rfl, ⟨rs2 ++ rs5, LRow.parts h2 (by rw [List.length_append, n2, n5]) (fun p hp => (hz9 p hp).in_), by rw [lin_append, q2, q5], hz9⟩, hc91, hc92⟩, GM.on_ hl (l2.old hG.1 h3 (Nat.le_refl _) (Nat.le_refl _))⟩
      · have u6 : listed.getD 6 false = false := unlisted hl
        have u7 : listed.getD 7 false = false := un_next (i := 6) (k := 7) hc u6 (by kernel_rfl)
        have u8 : listed.getD 8 false = false := un_next (i := 6) (k := 8) hc u6 (by kernel_rfl)
        have u10 : listed.getD 10 false = false := un_next (i := 8) (k := 10) hc u8 (by kernel_rfl)
        have u11 : listed.getD 11 false = false := un_next (i := 10) (k := 11) hc u10 (by kernel_rfl)
        have u12 : listed.getD 12 false = false := un_next (i := 11) (k := 12) hc u11 (by kernel_rfl)
        have u13 : listed.getD 13 false = false := un_next (i := 12) (k := 13) hc u12 (by kernel_rfl)
        have u14 : listed.getD 14 false = false := un_next (i := 12) (k := 14) hc u12 (by kernel_rfl)
        have u15 : listed.getD 15 false = false := un_next (i := 12) (k := 15) hc u12 (by kernel_rfl)
        have u16 : listed.getD 16 false = false := un_next (i := 12) (k := 16) hc u12 (by kernel_rfl)
        have u17 : listed.getD 17 false = false := un_next (i := 16) (k := 17) hc u16 (by kernel_rfl)
        have u18 : listed.getD 18 false = false := un_next (i := 16) (k := 18) hc u16 (by kernel_rfl)
        have u19 : listed.getD 19 false = false := un_next (i := 18) (k := 19) hc u18 (by kernel_rfl)
        have u20 : listed.getD 20 false = false := un_next (i := 18) (k := 20) hc u18 (by kernel_rfl)
        have u21 : listed.getD 21 false = false := un_next (i := 18) (k := 21) hc u18 (by kernel_rfl)
        have u22 : listed.getD 22 false = false := un_next (i := 18) (k := 22) hc u18 (by kernel_rfl)
        have u23 : listed.getD 23 false = false := un_next (i := 22) (k := 23) hc u22 (by kernel_rfl)
        have u24 : listed.getD 24 false = false := un_next (i := 22) (k := 24) hc u22 (by kernel_rfl)
        have u25 : listed.getD 25 false = false := un_next (i := 24) (k := 25) hc u24 (by kernel_rfl)
        have u26 : listed.getD 26 false = false := un_next (i := 24) (k := 26) hc u24 (by kernel_rfl)
        have u27 : listed.getD 27 false = false := un_next (i := 24) (k := 27) hc u24 (by kernel_rfl)
        have u28 : listed.getD 28 false = false := un_next (i := 24) (k := 28) hc u24 (by kernel_rfl)
        have u29 : listed.getD 29 false = false := un_next (i := 24) (k := 29) hc u24 (by kernel_rfl)
        have u30 : listed.getD 30 false = false := un_next (i := 24) (k := 30) hc u24 (by kernel_rfl)
        have u31 : listed.getD 31 false = false := un_next (i := 24) (k := 31) hc u24 (by kernel_rfl)
        have u32 : listed.getD 32 false = false := un_next (i := 31) (k := 32) hc u31 (by kernel_rfl)
        have u33 : listed.getD 33 false = false := un_next (i := 31) (k := 33) hc u31 (by kernel_rfl)
        have u34 : listed.getD 34 false = false := un_next (i := 33) (k := 34) hc u33 (by kernel_rfl)
        have u35 : listed.getD 35 false = false := un_next (i := 33) (k := 35) hc u33 (by kernel_rfl)
        have u36 : listed.getD 36 false = false := un_next (i := 33) (k := 36) hc u33 (by kernel_rfl)
        have u37 : listed.getD 37 false = false := un_next (i := 33) (k := 37) hc u33 (by kernel_rfl)
        have u38 : listed.getD 38 false = false := un_next (i := 33) (k := 38) hc u33 (by kernel_rfl)
        have u39 : listed.getD 39 false = false := un_next (i := 33) (k := 39) hc u33 (by kernel_rfl)
        have u40 : listed.getD 40 false = false := un_next (i := 39) (k := 40) hc u39 (by kernel_rfl)
        have u41 : listed.getD 41 false = false := un_next (i := 39) (k := 41) hc u39 (by kernel_rfl)
        have u42 : listed.getD 42 false = false := un_next (i := 41) (k := 42) hc u41 (by kernel_rfl)
        have u43 : listed.getD 43 false = false := un_next (i := 41) (k := 43) hc u41 (by kernel_rfl)
        have u44 : listed.getD 44 false = false := un_next (i := 41) (k := 44) hc u41 (by kernel_rfl)
        have u45 : listed.getD 45 false = false := un_next (i := 41) (k := 45) hc u41 (by kernel_rfl)
        have u46 : listed.getD 46 false = false := un_next (i := 41) (k := 46) hc u41 (by kernel_rfl)
        have u47 : listed.getD 47 false = false := un_next (i := 41) (k := 47) hc u41 (by kernel_rfl)
        have u48 : listed.getD 48 false = false := un_next (i := 41) (k := 48) hc u41 (by kernel_rfl)
        have u49 : listed.getD 49 false = false := un_next (i := 48) (k := 49) hc u48 (by kernel_rfl)
        have u50 : listed.getD 50 false = false := un_next (i := 48) (k := 50) hc u48 (by kernel_rfl)
        have u51 : listed.getD 51 false = false := un_next (i := 50) (k := 51) hc u50 (by kernel_rfl)
        have u52 : listed.getD 52 false = false := un_next (i := 50) (k := 52) hc u50 (by kernel_rfl)
        have u53 : listed.getD 53 false = false := un_next (i := 50) (k := 53) hc u50 (by kernel_rfl)
        have u54 : listed.getD 54 false = false := un_next (i := 50) (k := 54) hc u50 (by kernel_rfl)
        have u55 : listed.getD 55 false = false := un_next (i := 50) (k := 55) hc u50 (by kernel_rfl)
        have u56 : listed.getD 56 false = false := un_next (i := 55) (k := 56) hc u55 (by kernel_rfl)
        have u57 : listed.getD 57 false = false := un_next (i := 56) (k := 57) hc u56 (by kernel_rfl)
        intro j hj
        match j, hj with
        | 0, hj => obtain ⟨g, e, x⟩ := hF 0 hj; exact ⟨g, e, x.grown h3 (l2.offT x (by decide))⟩
        | 1, hj => exact trivial
        | 2, hj => exact trivial
        | 3, hj => obtain ⟨g, e, x⟩ := hF 3 hj; exact ⟨g, e, x.grown h3 (l2.offT x (by decide))⟩
        | 4, hj => exact trivial
        | 5, hj => exact trivial
        | 6, hj => rw [u6] at hj; cases hj
        | 7, hj => rw [u7] at hj; cases hj
        | 8, hj => rw [u8] at hj; cases hj
        | 9, hj => obtain ⟨g, e, x⟩ := hF 9 hj; exact ⟨g, e, x.grown h3 (l2.offT x (by decide))⟩
        | 10, hj => rw [u10] at hj; cases hj
        | 11, hj => rw [u11] at hj; cases hj
        | 12, hj => rw [u12] at hj; cases hj
        | 13, hj => rw [u13] at hj; cases hj
        | 14, hj => rw [u14] at hj; cases hj
        | 15, hj => rw [u15] at hj; cases hj
        | 16, hj => rw [u16] at hj; cases hj
        | 17, hj => rw [u17] at hj; cases hj
        | 18, hj => rw [u18] at hj; cases hj
        | 19, hj => rw [u19] at hj; cases hj
        | 20, hj => rw [u20] at hj; cases hj
        | 21, hj => rw [u21] at hj; cases hj
        | 22, hj => rw [u22] at hj; cases hj
        | 23, hj => rw [u23] at hj; cases hj
        | 24, hj => rw [u24] at hj; cases hj
        | 25, hj => rw [u25] at hj; cases hj
        | 26, hj => rw [u26] at hj; cases hj
        | 27, hj => rw [u27] at hj; cases hj
        | 28, hj => rw [u28] at hj; cases hj
        | 29, hj => rw [u29] at hj; cases hj
        | 30, hj => rw [u30] at hj; cases hj
        | 31, hj => rw [u31] at hj; cases hj
        | 32, hj => rw [u32] at hj; cases hj
        | 33, hj => rw [u33] at hj; cases hj
        | 34, hj => rw [u34] at hj; cases hj
        | 35, hj => rw [u35] at hj; cases hj
        | 36, hj => rw [u36] at hj; cases hj
        | 37, hj => rw [u37] at hj; cases hj
        | 38, hj => rw [u38] at hj; cases hj
        | 39, hj => rw [u39] at hj; cases hj
        | 40, hj => rw [u40] at hj; cases hj
        | 41, hj => rw [u41] at hj; cases hj
        | 42, hj => rw [u42] at hj; cases hj
        | 43, hj => rw [u43] at hj; cases hj
        | 44, hj => rw [u44] at hj; cases hj
        | 45, hj => rw [u45] at hj; cases hj
        | 46, hj => rw [u46] at hj; cases hj
        | 47, hj => rw [u47] at hj; cases hj
        | 48, hj => rw [u48] at hj; cases hj
        | 49, hj => rw [u49] at hj; cases hj
        | 50, hj => rw [u50] at hj; cases hj
        | 51, hj => rw [u51] at hj; cases hj
        | 52, hj => rw [u52] at hj; cases hj
        | 53, hj => rw [u53] at hj; cases hj
        | 54, hj => rw [u54] at hj; cases hj
        | 55, hj => rw [u55] at hj; cases hj
        | 56, hj => rw [u56] at hj; cases hj
        | 57, hj => rw [u57] at hj; cases hj
        | j + 58, hj => trivial
    · refine ⟨fun _ => ?_, fun h => absurd h (by decide)⟩
      intro listed σ w a hin hout hl hc hp hG hF
      refine Guarded.none rfl ?_
      have e9 := hin 6 9 rfl (hp ⟨6, .data⟩ (by simp) rfl)
      obtain ⟨A6, c6, ev6, p6, h61, h62⟩ := hF 6 (hp ⟨6, .data⟩ (by simp) rfl)
      rw [ev6] at e9
      refine Does.val (.agg #[.slice A6 3 c6, .bool false, .slice none 0 0]) (w' := w) ?_ ⟨Below.refl _ _, ⟨A6, 3, c6, false, none, 0, 0, rfl, p6.in_, h61, h62, (ZRes.zero _ _).in_⟩, hG.next HMM.out (by decide) (Below.refl _ _) (fun _ => trivial)⟩
      simp only [Array.getD_eq_getD_getElem?] at e9
      go_simp
    · refine ⟨fun _ => ?_, fun h => absurd h (by decide)⟩
      intro listed σ w a hin hout hl hc hp hG hF
      refine Guarded.none rfl ?_
      have e10 := hin 7 10 rfl (hp ⟨7, .data⟩ (by simp) rfl)
      have z7 := hF 7 (hp ⟨7, .data⟩ (by simp) rfl)
      refine Does.call ?_ (tplain_any _ _ 0 2 w z7 (by decide) (by decide)) ?_
      · go_simp
      · rintro e w' ⟨v, rfl, z, hb⟩
        exact ⟨_, rfl, hb, z, hG.next HMM.out (by decide) (hb) (fun _ => trivial)⟩
    · refine ⟨fun _ => ?_, fun h => absurd h (by decide)⟩
      intro listed σ w a hin hout hl hc hp hG hF
      refine Guarded.none rfl ?_
      refine Does.val (.slice (some ⟨w.heap.size, 0, none⟩) 2 2) (w' := w.alloc (.cells #[.int .i64 2, .int .i64 2] 2)) ?_ ⟨bl_alloc w _, ⟨w.heap.size, rfl, Box.new _ _ _⟩, hG.next HMM.out (by decide) (bl_alloc w _) (fun _ => trivial)⟩
      go_simp
    · refine ⟨fun _ => ?_, fun h => absurd h (by decide)⟩
      intro listed σ w a hin hout hl hc hp hG hF
      refine Guarded.none rfl ?_
      have e12 := hin 9 12 rfl (hp ⟨9, .data⟩ (by simp) rfl)
      obtain ⟨g9, ev9, x9⟩ := hF 9 (hp ⟨9, .data⟩ (by simp) rfl)
      rw [ev9] at e12
      refine Does.call ?_ (lof_any 0 (some ⟨g9, 0, none⟩) 2 2 [2, 2] w x9.ints (by decide) (by decide) (by decide) (by decide)) ?_
      · go_simp
      · rintro e w' ⟨v, rfl, z, hb⟩
        exact ⟨_, rfl, hb, z, hG.next HMM.out (by decide) (hb) (fun _ => trivial)⟩
    · refine ⟨fun _ => ?_, fun h => absurd h (by decide)⟩
      intro listed σ w a hin hout hl hc hp hG hF
      refine Guarded.none rfl ?_
      have e11 := hin 8 11 rfl (hp ⟨8, .data⟩ (by simp) rfl)
      have z8 := hF 8 (hp ⟨8, .data⟩ (by simp) rfl)
      have e13 := hin 10 13 rfl (hp ⟨10, .data⟩ (by simp) rfl)
      have z10 := hF 10 (hp ⟨10, .data⟩ (by simp) rfl)
      refine Does.call ?_ (lsame_yes _ _ (ofs [2, 2]) (0) 5 2 w (TRes.ofEq z8 (show _ = ofs [2, 2] by decide) (show _ = 0 by decide)) (z10) (by decide) (by decide) (by decide)) ?_
      · go_simp
      · rintro e w' ⟨rfl, hb⟩
        exact ⟨_, rfl, hb, rfl, hG.next HMM.out (by decide) (hb) (fun _ => trivial)⟩
    · refine ⟨fun _ => ?_, fun h => absurd h (by decide)⟩
      intro listed σ w a hin hout hl hc hp hG hF
      refine Guarded.none rfl ?_
      have e14 : a.tmps.getD 14 undef = .bool true := (hin 11 14 rfl (hp ⟨11, .data⟩ (by simp) rfl)).trans (hF 11 (hp ⟨11, .data⟩ (by simp) rfl))
      refine Does.val (.bool true) (w' := w) ?_ ⟨Below.refl _ _, rfl, hG.next HMM.out (by decide) (Below.refl _ _) (fun _ => trivial)⟩
      simp only [Array.getD_eq_getD_getElem?] at e14
      go_simp
    · refine ⟨fun _ => ?_, fun h => absurd h (by decide)⟩
      intro listed σ w a hin hout hl hc hp hG hF
      refine Guarded.some (d := 15) (b := true) rfl rfl ((hin 12 15 rfl (hp ⟨12, .guard⟩ (by simp) rfl)).trans (hF 12 (hp ⟨12, .guard⟩ (by simp) rfl))) ?_
      refine Or.inl ⟨rfl, ?_⟩
      have e1 : a.tmps.getD 1 undef = .pointer (some ⟨w1.heap.size, 0, none⟩) := hout 1 (outB_spec (by kernel_rfl))
      have CC := SOF.out w hG.1; obtain ⟨C0, C1, C2⟩ := CC
      refine Does.val (.agg #[.slice Ax nx cx, .bool sx, .slice Bx mx dx]) (w' := w) ?_ ⟨Below.refl _ _, rfl, hG.next HMM.out (by decide) (Below.refl _ _) (fun _ => trivial)⟩
      go_simp
    · refine ⟨fun _ => ?_, fun h => absurd h (by decide)⟩
      intro listed σ w a hin hout hl hc hp hG hF
      refine Guarded.some (d := 15) (b := true) rfl rfl ((hin 12 15 rfl (hp ⟨12, .guard⟩ (by simp) rfl)).trans (hF 12 (hp ⟨12, .guard⟩ (by simp) rfl))) ?_
      refine Or.inl ⟨rfl, ?_⟩
      refine Does.val (.slice (some ⟨w.heap.size, 0, none⟩) 1 1) (w' := w.alloc (.cells #[.int .i64 1] 2)) ?_ ⟨bl_alloc w _, ⟨w.heap.size, rfl, Box.new _ _ _⟩, hG.next HMM.out (by decide) (bl_alloc w _) (fun _ => trivial)⟩
      go_simp
    · refine ⟨fun _ => ?_, fun h => absurd h (by decide)⟩
      intro listed σ w a hin hout hl hc hp hG hF
      refine Guarded.some (d := 15) (b := true) rfl rfl ((hin 12 15 rfl (hp ⟨12, .guard⟩ (by simp) rfl)).trans (hF 12 (hp ⟨12, .guard⟩ (by simp) rfl))) ?_
      refine Or.inl ⟨rfl, ?_⟩
      have e17 := hin 14 17 rfl (hp ⟨14, .data⟩ (by simp) rfl)
      obtain ⟨g14, ev14, x14⟩ := hF 14 (hp ⟨14, .data⟩ (by simp) rfl)
      rw [ev14] at e17
      refine Does.call ?_ (lof_any 0 (some ⟨g14, 0, none⟩) 1 1 [1] w x14.ints (by decide) (by decide) (by decide) (by decide)) ?_
      · go_simp
      · rintro e w' ⟨v, rfl, z, hb⟩
        exact ⟨_, rfl, hb, z, hG.next HMM.out (by decide) (hb) (fun _ => trivial)⟩
    · refine ⟨fun _ => ?_, fun h => absurd h (by decide)⟩
      intro listed σ w a hin hout hl hc hp hG hF
      refine Guarded.some (d := 15) (b := true) rfl rfl ((hin 12 15 rfl (hp ⟨12, .guard⟩ (by simp) rfl)).trans (hF 12 (hp ⟨12, .guard⟩ (by simp) rfl))) ?_
      refine Or.inl ⟨rfl, ?_⟩
      have e16 : a.tmps.getD 16 undef = .agg #[.slice Ax nx cx, .bool sx, .slice Bx mx dx] := (hin 13 16 rfl (hp ⟨13, .data⟩ (by simp) rfl)).trans (hF 13 (hp ⟨13, .data⟩ (by simp) rfl))
      have e18 := hin 15 18 rfl (hp ⟨15, .data⟩ (by simp) rfl)
      have z15 := hF 15 (hp ⟨15, .data⟩ (by simp) rfl)
      refine Does.call ?_ (lsame_yes _ _ (ofs [1]) (0) 3 2 w (TRes.ofEq (HX.out.below hG.1) (show _ = ofs [1] by decide) (show _ = 0 by decide)) (z15) (by decide) (by decide) (by decide)) ?_
      · go_simp
      · rintro e w' ⟨rfl, hb⟩
        exact ⟨_, rfl, hb, rfl, hG.next HMM.out (by decide) (hb) (fun _ => trivial)⟩
    · refine ⟨fun _ => ?_, fun h => absurd h (by decide)⟩
      intro listed σ w a hin hout hl hc hp hG hF
      refine Guarded.none rfl ?_
      have e15 : a.tmps.getD 15 undef = .bool true := (hin 12 15 rfl (hp ⟨12, .data⟩ (by simp) rfl)).trans (hF 12 (hp ⟨12, .data⟩ (by simp) rfl))
      have e19 : a.tmps.getD 19 undef = .bool true := (hin 16 19 rfl (hp ⟨16, .data⟩ (by simp) rfl)).trans (hF 16 (hp ⟨16, .data⟩ (by simp) rfl))
      refine Does.val (.bool true) (w' := w) ?_ ⟨Below.refl _ _, rfl, hG.next HMM.out (by decide) (Below.refl _ _) (fun _ => trivial)⟩
      simp only [Array.getD_eq_getD_getElem?] at e15 e19
      go_simp
    · refine ⟨fun _ => ?_, fun h => absurd h (by decide)⟩
      intro listed σ w a hin hout hl hc hp hG hF
      refine Guarded.none rfl ?_
      have e20 : a.tmps.getD 20 undef = .bool true := (hin 17 20 rfl (hp ⟨17, .data⟩ (by simp) rfl)).trans (hF 17 (hp ⟨17, .data⟩ (by simp) rfl))
      refine Does.val (.bool true) (w' := w) ?_ ⟨Below.refl _ _, rfl, hG.next HMM.out (by decide) (Below.refl _ _) (fun _ => trivial)⟩
      simp only [Array.getD_eq_getD_getElem?] at e20
      go_simp
    · refine ⟨fun _ => ?_, fun h => absurd h (by decide)⟩
      intro listed σ w a hin hout hl hc hp hG hF
      refine Guarded.some (d := 21) (b := true) rfl rfl ((hin 18 21 rfl (hp ⟨18, .guard⟩ (by simp) rfl)).trans (hF 18 (hp ⟨18, .guard⟩ (by simp) rfl))) ?_
      refine Or.inl ⟨rfl, ?_⟩
      refine Does.call ?_ (rof_z 4 w (by decide) (by decide)) ?_
      · go_simp
      · rintro e w' ⟨v, rfl, z, hb⟩
        exact ⟨_, rfl, hb, z, hG.next HMM.out (by decide) (hb) (fun _ => trivial)⟩
    · refine ⟨fun _ => ?_, fun h => absurd h (by decide)⟩
      intro listed σ w a hin hout hl hc hp hG hF
      refine Guarded.some (d := 21) (b := true) rfl rfl ((hin 18 21 rfl (hp ⟨18, .guard⟩ (by simp) rfl)).trans (hF 18 (hp ⟨18, .guard⟩ (by simp) rfl))) ?_
      refine Or.inl ⟨rfl, ?_⟩
      have e22 := hin 19 22 rfl (hp ⟨19, .data⟩ (by simp) rfl)
      have z19 := hF 19 (hp ⟨19, .data⟩ (by simp) rfl)
      refine Does.call ?_ (number_t _ 4 2 w z19.in_ (by decide)) ?_
      · go_simp
      · rintro e w' ⟨v, rfl, z, hb⟩
        exact ⟨_, rfl, hb, z, hG.next HMM.out (by decide) (hb) (fun _ => trivial)⟩
    · refine ⟨fun _ => ?_, fun h => absurd h (by decide)⟩
      intro listed σ w a hin hout hl hc hp hG hF
      refine Guarded.some (d := 21) (b := true) rfl rfl ((hin 18 21 rfl (hp ⟨18, .guard⟩ (by simp) rfl)).trans (hF 18 (hp ⟨18, .guard⟩ (by simp) rfl))) ?_
      refine Or.inl ⟨rfl, ?_⟩
      refine Does.call ?_ (lof_any 4 none 0 0 [] w (IIn.none w) (by decide) (by decide) (by decide) (by decide)) ?_
      · go_simp
      · rintro e w' ⟨v, rfl, z, hb⟩
        exact ⟨_, rfl, hb, z, hG.next HMM.out (by decide) (hb) (fun _ => trivial)⟩
    · refine ⟨fun _ => ?_, fun h => absurd h (by decide)⟩
      intro listed σ w a hin hout hl hc hp hG hF
      refine Guarded.some (d := 21) (b := true) rfl rfl ((hin 18 21 rfl (hp ⟨18, .guard⟩ (by simp) rfl)).trans (hF 18 (hp ⟨18, .guard⟩ (by simp) rfl))) ?_
      refine Or.inl ⟨rfl, ?_⟩
      have e23 := hin 20 23 rfl (hp ⟨20, .data⟩ (by simp) rfl)
      have z20 := hF 20 (hp ⟨20, .data⟩ (by simp) rfl)
      have e24 := hin 21 24 rfl (hp ⟨21, .data⟩ (by simp) rfl)
      have z21 := hF 21 (hp ⟨21, .data⟩ (by simp) rfl)
      refine Does.call ?_ (lsame_yes _ _ (ofs []) (4) 2 2 w (TRes.ofEq z20 (show _ = ofs [] by decide) (show _ = 4 by decide)) (z21) (by decide) (by decide) (by decide)) ?_
      · go_simp
      · rintro e w' ⟨rfl, hb⟩
        exact ⟨_, rfl, hb, rfl, hG.next HMM.out (by decide) (hb) (fun _ => trivial)⟩
    · refine ⟨fun _ => ?_, fun h => absurd h (by decide)⟩
      intro listed σ w a hin hout hl hc hp hG hF
      refine Guarded.none rfl ?_
      have e21 : a.tmps.getD 21 undef = .bool true := (hin 18 21 rfl (hp ⟨18, .data⟩ (by simp) rfl)).trans (hF 18 (hp ⟨18, .data⟩ (by simp) rfl))
      have e25 : a.tmps.getD 25 undef = .bool true := (hin 22 25 rfl (hp ⟨22, .data⟩ (by simp) rfl)).trans (hF 22 (hp ⟨22, .data⟩ (by simp) rfl))
      refine Does.val (.bool true) (w' := w) ?_ ⟨Below.refl _ _, rfl, hG.next HMM.out (by decide) (Below.refl _ _) (fun _ => trivial)⟩
      simp only [Array.getD_eq_getD_getElem?] at e21 e25
      go_simp
    · refine ⟨fun _ => ?_, fun h => absurd h (by decide)⟩
      intro listed σ w a hin hout hl hc hp hG hF
      refine Guarded.none rfl ?_
      have e26 : a.tmps.getD 26 undef = .bool true := (hin 23 26 rfl (hp ⟨23, .data⟩ (by simp) rfl)).trans (hF 23 (hp ⟨23, .data⟩ (by simp) rfl))
      refine Does.val (.bool true) (w' := w) ?_ ⟨Below.refl _ _, rfl, hG.next HMM.out (by decide) (Below.refl _ _) (fun _ => trivial)⟩
      simp only [Array.getD_eq_getD_getElem?] at e26
      go_simp
    · refine ⟨fun _ => ?_, fun h => absurd h (by decide)⟩
      intro listed σ w a hin hout hl hc hp hG hF
      refine Guarded.some (d := 27) (b := true) rfl rfl ((hin 24 27 rfl (hp ⟨24, .guard⟩ (by simp) rfl)).trans (hF 24 (hp ⟨24, .guard⟩ (by simp) rfl))) ?_
      refine Or.inl ⟨rfl, ?_⟩
      have e1 : a.tmps.getD 1 undef = .pointer (some ⟨w1.heap.size, 0, none⟩) := hout 1 (outB_spec (by kernel_rfl))
      have CC := SOF.out w hG.1; obtain ⟨C0, C1, C2⟩ := CC
      refine Does.val (.agg #[.slice Ax nx cx, .bool sx, .slice Bx mx dx]) (w' := w) ?_ ⟨Below.refl _ _, rfl, hG.next HMM.out (by decide) (Below.refl _ _) (fun _ => trivial)⟩
      go_simp
    · refine ⟨fun _ => ?_, fun h => absurd h (by decide)⟩
      intro listed σ w a hin hout hl hc hp hG hF
      refine Guarded.some (d := 27) (b := true) rfl rfl ((hin 24 27 rfl (hp ⟨24, .guard⟩ (by simp) rfl)).trans (hF 24 (hp ⟨24, .guard⟩ (by simp) rfl))) ?_
      refine Or.inl ⟨rfl, ?_⟩
      refine Does.val (.slice (some ⟨w.heap.size, 0, none⟩) 1 1) (w' := w.alloc (.cells #[.int .i64 1] 2)) ?_ ⟨bl_alloc w _, ⟨w.heap.size, rfl, Box.new _ _ _⟩, hG.next HMM.out (by decide) (bl_alloc w _) (fun _ => trivial)⟩
      go_simp
    · refine ⟨fun _ => ?_, fun h => absurd h (by decide)⟩
      intro listed σ w a hin hout hl hc hp hG hF
      refine Guarded.some (d := 27) (b := true) rfl rfl ((hin 24 27 rfl (hp ⟨24, .guard⟩ (by simp) rfl)).trans (hF 24 (hp ⟨24, .guard⟩ (by simp) rfl))) ?_
      refine Or.inl ⟨rfl, ?_⟩
      have e29 := hin 26 29 rfl (hp ⟨26, .data⟩ (by simp) rfl)
      obtain ⟨g26, ev26, x26⟩ := hF 26 (hp ⟨26, .data⟩ (by simp) rfl)
      rw [ev26] at e29
      refine Does.call ?_ (lof_any 3 (some ⟨g26, 0, none⟩) 1 1 [1] w x26.ints (by decide) (by decide) (by decide) (by decide)) ?_
      · go_simp
      · rintro e w' ⟨v, rfl, z, hb⟩
        exact ⟨_, rfl, hb, z, hG.next HMM.out (by decide) (hb) (fun _ => trivial)⟩
    · refine ⟨fun _ => ?_, fun h => absurd h (by decide)⟩
      intro listed σ w a hin hout hl hc hp hG hF
      refine Guarded.some (d := 27) (b := true) rfl rfl ((hin 24 27 rfl (hp ⟨24, .guard⟩ (by simp) rfl)).trans (hF 24 (hp ⟨24, .guard⟩ (by simp) rfl))) ?_
      refine Or.inl ⟨rfl, ?_⟩
      have e28 : a.tmps.getD 28 undef = .agg #[.slice Ax nx cx, .bool sx, .slice Bx mx dx] := (hin 25 28 rfl (hp ⟨25, .data⟩ (by simp) rfl)).trans (hF 25 (hp ⟨25, .data⟩ (by simp) rfl))
      have e30 := hin 27 30 rfl (hp ⟨27, .data⟩ (by simp) rfl)
      have z27 := hF 27 (hp ⟨27, .data⟩ (by simp) rfl)
      refine Does.call ?_ (tadd_any _ _ (norm [(0, 1)]) (ofs [1]) 0 3 3 w (HX.out.below hG.1).in_ (z27.in_.mono (by decide)) (by decide) (by decide) (by decide)) ?_
      · go_simp
      · rintro e w' ⟨v, rfl, z, hb⟩
        exact ⟨_, rfl, hb, z, hG.next HMM.out (by decide) (hb) (fun _ => trivial)⟩
    · refine ⟨fun _ => ?_, fun h => absurd h (by decide)⟩
      intro listed σ w a hin hout hl hc hp hG hF
      refine Guarded.some (d := 27) (b := true) rfl rfl ((hin 24 27 rfl (hp ⟨24, .guard⟩ (by simp) rfl)).trans (hF 24 (hp ⟨24, .guard⟩ (by simp) rfl))) ?_
      refine Or.inl ⟨rfl, ?_⟩
      refine Does.val (.slice (some ⟨w.heap.size, 0, none⟩) 1 1) (w' := w.alloc (.cells #[.int .i64 2] 2)) ?_ ⟨bl_alloc w _, ⟨w.heap.size, rfl, Box.new _ _ _⟩, hG.next HMM.out (by decide) (bl_alloc w _) (fun _ => trivial)⟩
      go_simp
    · refine ⟨fun _ => ?_, fun h => absurd h (by decide)⟩
      intro listed σ w a hin hout hl hc hp hG hF
      refine Guarded.some (d := 27) (b := true) rfl rfl ((hin 24 27 rfl (hp ⟨24, .guard⟩ (by simp) rfl)).trans (hF 24 (hp ⟨24, .guard⟩ (by simp) rfl))) ?_
      refine Or.inl ⟨rfl, ?_⟩
      have e32 := hin 29 32 rfl (hp ⟨29, .data⟩ (by simp) rfl)
      obtain ⟨g29, ev29, x29⟩ := hF 29 (hp ⟨29, .data⟩ (by simp) rfl)
      rw [ev29] at e32
      refine Does.call ?_ (lof_any 3 (some ⟨g29, 0, none⟩) 1 1 [2] w x29.ints (by decide) (by decide) (by decide) (by decide)) ?_
      · go_simp
      · rintro e w' ⟨v, rfl, z, hb⟩
        exact ⟨_, rfl, hb, z, hG.next HMM.out (by decide) (hb) (fun _ => trivial)⟩
    · refine ⟨fun _ => ?_, fun h => absurd h (by decide)⟩
      intro listed σ w a hin hout hl hc hp hG hF
      refine Guarded.some (d := 27) (b := true) rfl rfl ((hin 24 27 rfl (hp ⟨24, .guard⟩ (by simp) rfl)).trans (hF 24 (hp ⟨24, .guard⟩ (by simp) rfl))) ?_
      refine Or.inl ⟨rfl, ?_⟩
      have e31 := hin 28 31 rfl (hp ⟨28, .data⟩ (by simp) rfl)
      have z28 := hF 28 (hp ⟨28, .data⟩ (by simp) rfl)
      have e33 := hin 30 33 rfl (hp ⟨30, .data⟩ (by simp) rfl)
      have z30 := hF 30 (hp ⟨30, .data⟩ (by simp) rfl)
      refine Does.call ?_ (lsame_yes _ _ (ofs [2]) (3) (3 + 1 + (1 + 1)) 2 w (TRes.ofEq z28 (show _ = ofs [2] by decide) (show _ = 3 by decide)) (z30) (by decide) (by decide) (by decide)) ?_
      · go_simp
      · rintro e w' ⟨rfl, hb⟩
        exact ⟨_, rfl, hb, rfl, hG.next HMM.out (by decide) (hb) (fun _ => trivial)⟩
    · refine ⟨fun _ => ?_, fun h => absurd h (by decide)⟩
      intro listed σ w a hin hout hl hc hp hG hF
      refine Guarded.none rfl ?_
      have e27 : a.tmps.getD 27 undef = .bool true := (hin 24 27 rfl (hp ⟨24, .data⟩ (by simp) rfl)).trans (hF 24 (hp ⟨24, .data⟩ (by simp) rfl))
      have e34 : a.tmps.getD 34 undef = .bool true := (hin 31 34 rfl (hp ⟨31, .data⟩ (by simp) rfl)).trans (hF 31 (hp ⟨31, .data⟩ (by simp) rfl))
      refine Does.val (.bool true) (w' := w) ?_ ⟨Below.refl _ _, rfl, hG.next HMM.out (by decide) (Below.refl _ _) (fun _ => trivial)⟩
      simp only [Array.getD_eq_getD_getElem?] at e27 e34
      go_simp
    · refine ⟨fun _ => ?_, fun h => absurd h (by decide)⟩
      intro listed σ w a hin hout hl hc hp hG hF
      refine Guarded.none rfl ?_
      have e35 : a.tmps.getD 35 undef = .bool true := (hin 32 35 rfl (hp ⟨32, .data⟩ (by simp) rfl)).trans (hF 32 (hp ⟨32, .data⟩ (by simp) rfl))
      refine Does.val (.bool true) (w' := w) ?_ ⟨Below.refl _ _, rfl, hG.next HMM.out (by decide) (Below.refl _ _) (fun _ => trivial)⟩
      simp only [Array.getD_eq_getD_getElem?] at e35
      go_simp
    · refine ⟨fun _ => ?_, fun h => absurd h (by decide)⟩
      intro listed σ w a hin hout hl hc hp hG hF
      refine Guarded.some (d := 36) (b := true) rfl rfl ((hin 33 36 rfl (hp ⟨33, .guard⟩ (by simp) rfl)).trans (hF 33 (hp ⟨33, .guard⟩ (by simp) rfl))) ?_
      refine Or.inl ⟨rfl, ?_⟩
      have e1 : a.tmps.getD 1 undef = .pointer (some ⟨w1.heap.size, 0, none⟩) := hout 1 (outB_spec (by kernel_rfl))
      have CC := SOF.out w hG.1; obtain ⟨C0, C1, C2⟩ := CC
      refine Does.val (.agg #[.slice Ax nx cx, .bool sx, .slice Bx mx dx]) (w' := w) ?_ ⟨Below.refl _ _, rfl, hG.next HMM.out (by decide) (Below.refl _ _) (fun _ => trivial)⟩
      go_simp
    · refine ⟨fun _ => ?_, fun h => absurd h (by decide)⟩
      intro listed σ w a hin hout hl hc hp hG hF
      refine Guarded.some (d := 36) (b := true) rfl rfl ((hin 33 36 rfl (hp ⟨33, .guard⟩ (by simp) rfl)).trans (hF 33 (hp ⟨33, .guard⟩ (by simp) rfl))) ?_
      refine Or.inl ⟨rfl, ?_⟩
      refine Does.val (.slice (some ⟨w.heap.size, 0, none⟩) 1 1) (w' := w.alloc (.cells #[.int .i64 1] 2)) ?_ ⟨bl_alloc w _, ⟨w.heap.size, rfl, Box.new _ _ _⟩, hG.next HMM.out (by decide) (bl_alloc w _) (fun _ => trivial)⟩
      go_simp
    · refine ⟨fun _ => ?_, fun h => absurd h (by decide)⟩
      intro listed σ w a hin hout hl hc hp hG hF
      refine Guarded.some (d := 36) (b := true) rfl rfl ((hin 33 36 rfl (hp ⟨33, .guard⟩ (by simp) rfl)).trans (hF 33 (hp ⟨33, .guard⟩ (by simp) rfl))) ?_
      refine Or.inl ⟨rfl, ?_⟩
      have e38 := hin 35 38 rfl (hp ⟨35, .data⟩ (by simp) rfl)
      obtain ⟨g35, ev35, x35⟩ := hF 35 (hp ⟨35, .data⟩ (by simp) rfl)
      rw [ev35] at e38
      refine Does.call ?_ (lof_any 3 (some ⟨g35, 0, none⟩) 1 1 [1] w x35.ints (by decide) (by decide) (by decide) (by decide)) ?_
      · go_simp
      · rintro e w' ⟨v, rfl, z, hb⟩
        exact ⟨_, rfl, hb, z, hG.next HMM.out (by decide) (hb) (fun _ => trivial)⟩
    · refine ⟨fun _ => ?_, fun h => absurd h (by decide)⟩
      intro listed σ w a hin hout hl hc hp hG hF
      refine Guarded.some (d := 36) (b := true) rfl rfl ((hin 33 36 rfl (hp ⟨33, .guard⟩ (by simp) rfl)).trans (hF 33 (hp ⟨33, .guard⟩ (by simp) rfl))) ?_
      refine Or.inl ⟨rfl, ?_⟩
      have e37 : a.tmps.getD 37 undef = .agg #[.slice Ax nx cx, .bool sx, .slice Bx mx dx] := (hin 34 37 rfl (hp ⟨34, .data⟩ (by simp) rfl)).trans (hF 34 (hp ⟨34, .data⟩ (by simp) rfl))
      have e39 := hin 36 39 rfl (hp ⟨36, .data⟩ (by simp) rfl)
      have z36 := hF 36 (hp ⟨36, .data⟩ (by simp) rfl)
      refine Does.call ?_ (tsub_any _ _ (norm [(0, 1)]) (ofs [1]) 0 3 3 w (HX.out.below hG.1).in_ (z36.in_.mono (by decide)) (by decide) (by decide) (by decide)) ?_
      · go_simp
      · rintro e w' ⟨v, rfl, z, hb⟩
        exact ⟨_, rfl, hb, z, hG.next HMM.out (by decide) (hb) (fun _ => trivial)⟩
    · refine ⟨fun _ => ?_, fun h => absurd h (by decide)⟩
      intro listed σ w a hin hout hl hc hp hG hF
      refine Guarded.some (d := 36) (b := true) rfl rfl ((hin 33 36 rfl (hp ⟨33, .guard⟩ (by simp) rfl)).trans (hF 33 (hp ⟨33, .guard⟩ (by simp) rfl))) ?_
      refine Or.inl ⟨rfl, ?_⟩
      refine Does.call ?_ (lof_any (-3) none 0 0 [] w (IIn.none w) (by decide) (by decide) (by decide) (by decide)) ?_
      · go_simp
      · rintro e w' ⟨v, rfl, z, hb⟩
        exact ⟨_, rfl, hb, z, hG.next HMM.out (by decide) (hb) (fun _ => trivial)⟩
    · refine ⟨fun _ => ?_, fun h => absurd h (by decide)⟩
      intro listed σ w a hin hout hl hc hp hG hF
      refine Guarded.some (d := 36) (b := true) rfl rfl ((hin 33 36 rfl (hp ⟨33, .guard⟩ (by simp) rfl)).trans (hF 33 (hp ⟨33, .guard⟩ (by simp) rfl))) ?_
      refine Or.inl ⟨rfl, ?_⟩
      have e40 := hin 37 40 rfl (hp ⟨37, .data⟩ (by simp) rfl)
      have z37 := hF 37 (hp ⟨37, .data⟩ (by simp) rfl)
      have e41 := hin 38 41 rfl (hp ⟨38, .data⟩ (by simp) rfl)
      have z38 := hF 38 (hp ⟨38, .data⟩ (by simp) rfl)
      refine Does.call ?_ (lsame_yes _ _ (ofs []) ((-3)) (3 + 1 + 1 + (1 + 1)) 2 w (TRes.ofEq z37 (show _ = ofs [] by decide) (show _ = (-3) by decide)) (z38) (by decide) (by decide) (by decide)) ?_
      · go_simp
      · rintro e w' ⟨rfl, hb⟩
        exact ⟨_, rfl, hb, rfl, hG.next HMM.out (by decide) (hb) (fun _ => trivial)⟩
    · refine ⟨fun _ => ?_, fun h => absurd h (by decide)⟩
      intro listed σ w a hin hout hl hc hp hG hF
      refine Guarded.none rfl ?_
      have e36 : a.tmps.getD 36 undef = .bool true := (hin 33 36 rfl (hp ⟨33, .data⟩ (by simp) rfl)).trans (hF 33 (hp ⟨33, .data⟩ (by simp) rfl))
      have e42 : a.tmps.getD 42 undef = .bool true := (hin 39 42 rfl (hp ⟨39, .data⟩ (by simp) rfl)).trans (hF 39 (hp ⟨39, .data⟩ (by simp) rfl))
      refine Does.val (.bool true) (w' := w) ?_ ⟨Below.refl _ _, rfl, hG.next HMM.out (by decide) (Below.refl _ _) (fun _ => trivial)⟩
      simp only [Array.getD_eq_getD_getElem?] at e36 e42
      go_simp
    · refine ⟨fun _ => ?_, fun h => absurd h (by decide)⟩
      intro listed σ w a hin hout hl hc hp hG hF
      refine Guarded.none rfl ?_
      have e43 : a.tmps.getD 43 undef = .bool true := (hin 40 43 rfl (hp ⟨40, .data⟩ (by simp) rfl)).trans (hF 40 (hp ⟨40, .data⟩ (by simp) rfl))
      refine Does.val (.bool true) (w' := w) ?_ ⟨Below.refl _ _, rfl, hG.next HMM.out (by decide) (Below.refl _ _) (fun _ => trivial)⟩
      simp only [Array.getD_eq_getD_getElem?] at e43
      go_simp
    · refine ⟨fun _ => ?_, fun h => absurd h (by decide)⟩
      intro listed σ w a hin hout hl hc hp hG hF
      refine Guarded.some (d := 44) (b := true) rfl rfl ((hin 41 44 rfl (hp ⟨41, .guard⟩ (by simp) rfl)).trans (hF 41 (hp ⟨41, .guard⟩ (by simp) rfl))) ?_
      refine Or.inl ⟨rfl, ?_⟩
      refine Does.val (.slice (some ⟨w.heap.size, 0, none⟩) 1 1) (w' := w.alloc (.cells #[.int .i64 1] 2)) ?_ ⟨bl_alloc w _, ⟨w.heap.size, rfl, Box.new _ _ _⟩, hG.next HMM.out (by decide) (bl_alloc w _) (fun _ => trivial)⟩
      go_simp
    · refine ⟨fun _ => ?_, fun h => absurd h (by decide)⟩
      intro listed σ w a hin hout hl hc hp hG hF
      refine Guarded.some (d := 44) (b := true) rfl rfl ((hin 41 44 rfl (hp ⟨41, .guard⟩ (by simp) rfl)).trans (hF 41 (hp ⟨41, .guard⟩ (by simp) rfl))) ?_
      refine Or.inl ⟨rfl, ?_⟩
      have e45 := hin 42 45 rfl (hp ⟨42, .data⟩ (by simp) rfl)
      obtain ⟨g42, ev42, x42⟩ := hF 42 (hp ⟨42, .data⟩ (by simp) rfl)
      rw [ev42] at e45
      refine Does.call ?_ (lof_any 3 (some ⟨g42, 0, none⟩) 1 1 [1] w x42.ints (by decide) (by decide) (by decide) (by decide)) ?_
      · go_simp
      · rintro e w' ⟨v, rfl, z, hb⟩
        exact ⟨_, rfl, hb, z, hG.next HMM.out (by decide) (hb) (fun _ => trivial)⟩
    · refine ⟨fun _ => ?_, fun h => absurd h (by decide)⟩
      intro listed σ w a hin hout hl hc hp hG hF
      refine Guarded.some (d := 44) (b := true) rfl rfl ((hin 41 44 rfl (hp ⟨41, .guard⟩ (by simp) rfl)).trans (hF 41 (hp ⟨41, .guard⟩ (by simp) rfl))) ?_
      refine Or.inl ⟨rfl, ?_⟩
      refine Does.call ?_ (rof_z 2 w (by decide) (by decide)) ?_
      · go_simp
      · rintro e w' ⟨v, rfl, z, hb⟩
        exact ⟨_, rfl, hb, z, hG.next HMM.out (by decide) (hb) (fun _ => trivial)⟩
    · refine ⟨fun _ => ?_, fun h => absurd h (by decide)⟩
      intro listed σ w a hin hout hl hc hp hG hF
      refine Guarded.some (d := 44) (b := true) rfl rfl ((hin 41 44 rfl (hp ⟨41, .guard⟩ (by simp) rfl)).trans (hF 41 (hp ⟨41, .guard⟩ (by simp) rfl))) ?_
      refine Or.inl ⟨rfl, ?_⟩
      have e46 := hin 43 46 rfl (hp ⟨43, .data⟩ (by simp) rfl)
      have z43 := hF 43 (hp ⟨43, .data⟩ (by simp) rfl)
      have e47 := hin 44 47 rfl (hp ⟨44, .data⟩ (by simp) rfl)
      have z44 := hF 44 (hp ⟨44, .data⟩ (by simp) rfl)
      refine Does.call ?_ (tscale_any _ _ (ofs [1]) 3 2 2 2 w z43.in_ z44.in_ (by decide) (by decide) (by decide)) ?_
      · go_simp
      · rintro e w' ⟨v, rfl, z, hb⟩
        exact ⟨_, rfl, hb, z, hG.next HMM.out (by decide) (hb) (fun _ => trivial)⟩
    · refine ⟨fun _ => ?_, fun h => absurd h (by decide)⟩
      intro listed σ w a hin hout hl hc hp hG hF
      refine Guarded.some (d := 44) (b := true) rfl rfl ((hin 41 44 rfl (hp ⟨41, .guard⟩ (by simp) rfl)).trans (hF 41 (hp ⟨41, .guard⟩ (by simp) rfl))) ?_
      refine Or.inl ⟨rfl, ?_⟩
      refine Does.val (.slice (some ⟨w.heap.size, 0, none⟩) 1 1) (w' := w.alloc (.cells #[.int .i64 2] 2)) ?_ ⟨bl_alloc w _, ⟨w.heap.size, rfl, Box.new _ _ _⟩, hG.next HMM.out (by decide) (bl_alloc w _) (fun _ => trivial)⟩
      go_simp
    · refine ⟨fun _ => ?_, fun h => absurd h (by decide)⟩
      intro listed σ w a hin hout hl hc hp hG hF
      refine Guarded.some (d := 44) (b := true) rfl rfl ((hin 41 44 rfl (hp ⟨41, .guard⟩ (by simp) rfl)).trans (hF 41 (hp ⟨41, .guard⟩ (by simp) rfl))) ?_
      refine Or.inl ⟨rfl, ?_⟩
      have e49 := hin 46 49 rfl (hp ⟨46, .data⟩ (by simp) rfl)
      obtain ⟨g46, ev46, x46⟩ := hF 46 (hp ⟨46, .data⟩ (by simp) rfl)
      rw [ev46] at e49
      refine Does.call ?_ (lof_any 6 (some ⟨g46, 0, none⟩) 1 1 [2] w x46.ints (by decide) (by decide) (by decide) (by decide)) ?_
      · go_simp
      · rintro e w' ⟨v, rfl, z, hb⟩
        exact ⟨_, rfl, hb, z, hG.next HMM.out (by decide) (hb) (fun _ => trivial)⟩
    · refine ⟨fun _ => ?_, fun h => absurd h (by decide)⟩
      intro listed σ w a hin hout hl hc hp hG hF
      refine Guarded.some (d := 44) (b := true) rfl rfl ((hin 41 44 rfl (hp ⟨41, .guard⟩ (by simp) rfl)).trans (hF 41 (hp ⟨41, .guard⟩ (by simp) rfl))) ?_
      refine Or.inl ⟨rfl, ?_⟩
      have e48 := hin 45 48 rfl (hp ⟨45, .data⟩ (by simp) rfl)
      have z45 := hF 45 (hp ⟨45, .data⟩ (by simp) rfl)
      have e50 := hin 47 50 rfl (hp ⟨47, .data⟩ (by simp) rfl)
      have z47 := hF 47 (hp ⟨47, .data⟩ (by simp) rfl)
      refine Does.call ?_ (lsame_yes _ _ (ofs [2]) (6) (2 + (2 + 1)) 2 w (TRes.ofEq z45 (show _ = ofs [2] by decide) (show _ = 6 by decide)) (z47) (by decide) (by decide) (by decide)) ?_
      · go_simp
      · rintro e w' ⟨rfl, hb⟩
        exact ⟨_, rfl, hb, rfl, hG.next HMM.out (by decide) (hb) (fun _ => trivial)⟩
    · refine ⟨fun _ => ?_, fun h => absurd h (by decide)⟩
      intro listed σ w a hin hout hl hc hp hG hF
      refine Guarded.none rfl ?_
      have e44 : a.tmps.getD 44 undef = .bool true := (hin 41 44 rfl (hp ⟨41, .data⟩ (by simp) rfl)).trans (hF 41 (hp ⟨41, .data⟩ (by simp) rfl))
      have e51 : a.tmps.getD 51 undef = .bool true := (hin 48 51 rfl (hp ⟨48, .data⟩ (by simp) rfl)).trans (hF 48 (hp ⟨48, .data⟩ (by simp) rfl))
      refine Does.val (.bool true) (w' := w) ?_ ⟨Below.refl _ _, rfl, hG.next HMM.out (by decide) (Below.refl _ _) (fun _ => trivial)⟩
      simp only [Array.getD_eq_getD_getElem?] at e44 e51
      go_simp
    · refine ⟨fun _ => ?_, fun h => absurd h (by decide)⟩
      intro listed σ w a hin hout hl hc hp hG hF
      refine Guarded.none rfl ?_
      have e52 : a.tmps.getD 52 undef = .bool true := (hin 49 52 rfl (hp ⟨49, .data⟩ (by simp) rfl)).trans (hF 49 (hp ⟨49, .data⟩ (by simp) rfl))
      refine Does.val (.bool true) (w' := w) ?_ ⟨Below.refl _ _, rfl, hG.next HMM.out (by decide) (Below.refl _ _) (fun _ => trivial)⟩
      simp only [Array.getD_eq_getD_getElem?] at e52
      go_simp
    · refine ⟨fun _ => ?_, fun h => absurd h (by decide)⟩
      intro listed σ w a hin hout hl hc hp hG hF
      refine Guarded.some (d := 53) (b := true) rfl rfl ((hin 50 53 rfl (hp ⟨50, .guard⟩ (by simp) rfl)).trans (hF 50 (hp ⟨50, .guard⟩ (by simp) rfl))) ?_
      refine Or.inl ⟨rfl, ?_⟩
      have e1 : a.tmps.getD 1 undef = .pointer (some ⟨w1.heap.size, 0, none⟩) := hout 1 (outB_spec (by kernel_rfl))
      have CC := SOF.out w hG.1; obtain ⟨C0, C1, C2⟩ := CC
      refine Does.val (.agg #[.slice Ax nx cx, .bool sx, .slice Bx mx dx]) (w' := w) ?_ ⟨Below.refl _ _, rfl, hG.next HMM.out (by decide) (Below.refl _ _) (fun _ => trivial)⟩
      go_simp
    · refine ⟨fun _ => ?_, fun h => absurd h (by decide)⟩
      intro listed σ w a hin hout hl hc hp hG hF
      refine Guarded.some (d := 53) (b := true) rfl rfl ((hin 50 53 rfl (hp ⟨50, .guard⟩ (by simp) rfl)).trans (hF 50 (hp ⟨50, .guard⟩ (by simp) rfl))) ?_
      refine Or.inl ⟨rfl, ?_⟩
      have e54 : a.tmps.getD 54 undef = .agg #[.slice Ax nx cx, .bool sx, .slice Bx mx dx] := (hin 51 54 rfl (hp ⟨51, .data⟩ (by simp) rfl)).trans (hF 51 (hp ⟨51, .data⟩ (by simp) rfl))
      refine Does.call ?_ (tneg_any _ (norm [(0, 1)]) 0 3 w (HX.out.below hG.1).in_ (by decide) (by decide)) ?_
      · go_simp
      · rintro e w' ⟨v, rfl, z, hb⟩
        exact ⟨_, rfl, hb, z, hG.next HMM.out (by decide) (hb) (fun _ => trivial)⟩
    · refine ⟨fun _ => ?_, fun h => absurd h (by decide)⟩
      intro listed σ w a hin hout hl hc hp hG hF
      refine Guarded.some (d := 53) (b := true) rfl rfl ((hin 50 53 rfl (hp ⟨50, .guard⟩ (by simp) rfl)).trans (hF 50 (hp ⟨50, .guard⟩ (by simp) rfl))) ?_
      refine Or.inl ⟨rfl, ?_⟩
      refine Does.val (.slice (some ⟨w.heap.size, 0, none⟩) 1 1) (w' := w.alloc (.cells #[.int .i64 (-1)] 2)) ?_ ⟨bl_alloc w _, ⟨w.heap.size, rfl, Box.new _ _ _⟩, hG.next HMM.out (by decide) (bl_alloc w _) (fun _ => trivial)⟩
      go_simp
    · refine ⟨fun _ => ?_, fun h => absurd h (by decide)⟩
      intro listed σ w a hin hout hl hc hp hG hF
      refine Guarded.some (d := 53) (b := true) rfl rfl ((hin 50 53 rfl (hp ⟨50, .guard⟩ (by simp) rfl)).trans (hF 50 (hp ⟨50, .guard⟩ (by simp) rfl))) ?_
      refine Or.inl ⟨rfl, ?_⟩
      have e56 := hin 53 56 rfl (hp ⟨53, .data⟩ (by simp) rfl)
      obtain ⟨g53, ev53, x53⟩ := hF 53 (hp ⟨53, .data⟩ (by simp) rfl)
      rw [ev53] at e56
      refine Does.call ?_ (lof_any 0 (some ⟨g53, 0, none⟩) 1 1 [(-1)] w x53.ints (by decide) (by decide) (by decide) (by decide)) ?_
      · go_simp
      · rintro e w' ⟨v, rfl, z, hb⟩
        exact ⟨_, rfl, hb, z, hG.next HMM.out (by decide) (hb) (fun _ => trivial)⟩
    · refine ⟨fun _ => ?_, fun h => absurd h (by decide)⟩
      intro listed σ w a hin hout hl hc hp hG hF
      refine Guarded.some (d := 53) (b := true) rfl rfl ((hin 50 53 rfl (hp ⟨50, .guard⟩ (by simp) rfl)).trans (hF 50 (hp ⟨50, .guard⟩ (by simp) rfl))) ?_
      refine Or.inl ⟨rfl, ?_⟩
      have e55 := hin 52 55 rfl (hp ⟨52, .data⟩ (by simp) rfl)
      have z52 := hF 52 (hp ⟨52, .data⟩ (by simp) rfl)
      have e57 := hin 54 57 rfl (hp ⟨54, .data⟩ (by simp) rfl)
      have z54 := hF 54 (hp ⟨54, .data⟩ (by simp) rfl)
      refine Does.call ?_ (lsame_yes _ _ (ofs [(-1)]) (0) (3 + 1) 2 w (TRes.ofEq z52 (show _ = ofs [(-1)] by decide) (show _ = 0 by decide)) (z54) (by decide) (by decide) (by decide)) ?_
      · go_simp
      · rintro e w' ⟨rfl, hb⟩
        exact ⟨_, rfl, hb, rfl, hG.next HMM.out (by decide) (hb) (fun _ => trivial)⟩
    · refine ⟨fun _ => ?_, fun h => absurd h (by decide)⟩
      intro listed σ w a hin hout hl hc hp hG hF
      refine Guarded.none rfl ?_
      have e53 : a.tmps.getD 53 undef = .bool true := (hin 50 53 rfl (hp ⟨50, .data⟩ (by simp) rfl)).trans (hF 50 (hp ⟨50, .data⟩ (by simp) rfl))
      have e58 : a.tmps.getD 58 undef = .bool true := (hin 55 58 rfl (hp ⟨55, .data⟩ (by simp) rfl)).trans (hF 55 (hp ⟨55, .data⟩ (by simp) rfl))
      refine Does.val (.bool true) (w' := w) ?_ ⟨Below.refl _ _, rfl, hG.next HMM.out (by decide) (Below.refl _ _) (fun _ => trivial)⟩
      simp only [Array.getD_eq_getD_getElem?] at e53 e58
      go_simp
    · refine ⟨fun _ => ?_, fun h => absurd h (by decide)⟩
      intro listed σ w a hin hout hl hc hp hG hF
      refine Guarded.none rfl ?_
      have e59 : a.tmps.getD 59 undef = .bool true := (hin 56 59 rfl (hp ⟨56, .data⟩ (by simp) rfl)).trans (hF 56 (hp ⟨56, .data⟩ (by simp) rfl))
      refine Does.val (.bool true) (w' := w) ?_ ⟨Below.refl _ _, rfl, hG.next HMM.out (by decide) (Below.refl _ _) (fun _ => trivial)⟩
      simp only [Array.getD_eq_getD_getElem?] at e59
      go_simp
  · intro listed σ W9 hall hG hF
    rw [show mid _ σ listed _ = (Act.put (Act.put (Act.put (Act.put (Act.put (Act.put (Act.put (Act.put (Act.put (Act.put (Act.put (Act.put (Act.put (Act.put (Act.put (Act.put (Act.put (Act.put (Act.put (Act.put (Act.put (Act.put (Act.put (Act.put (Act.put (Act.put (Act.put (Act.put (Act.put (Act.put (Act.put (Act.put (Act.put (Act.put (Act.put (Act.put (Act.put (Act.put (Act.put (Act.put (Act.put (Act.put (Act.put (Act.put (Act.put (Act.put (Act.put (Act.put (Act.put (Act.put (Act.put (Act.put (Act.put (Act.put (Act.put (Act.put (Act.put (Act.put _ (some 3) (σ 0)) (some 4) (σ 1)) (some 5) (σ 2)) (some 6) (σ 3)) (some 7) (σ 4)) (some 8) (σ 5)) (some 9) (σ 6)) (some 10) (σ 7)) (some 11) (σ 8)) (some 12) (σ 9)) (some 13) (σ 10)) (some 14) (σ 11)) (some 15) (σ 12)) (some 16) (σ 13)) (some 17) (σ 14)) (some 18) (σ 15)) (some 19) (σ 16)) (some 20) (σ 17)) (some 21) (σ 18)) (some 22) (σ 19)) (some 23) (σ 20)) (some 24) (σ 21)) (some 25) (σ 22)) (some 26) (σ 23)) (some 27) (σ 24)) (some 28) (σ 25)) (some 29) (σ 26)) (some 30) (σ 27)) (some 31) (σ 28)) (some 32) (σ 29)) (some 33) (σ 30)) (some 34) (σ 31)) (some 35) (σ 32)) (some 36) (σ 33)) (some 37) (σ 34)) (some 38) (σ 35)) (some 39) (σ 36)) (some 40) (σ 37)) (some 41) (σ 38)) (some 42) (σ 39)) (some 43) (σ 40)) (some 44) (σ 41)) (some 45) (σ 42)) (some 46) (σ 43)) (some 47) (σ 44)) (some 48) (σ 45)) (some 49) (σ 46)) (some 50) (σ 47)) (some 51) (σ 48)) (some 52) (σ 49)) (some 53) (σ 50)) (some 54) (σ 51)) (some 55) (σ 52)) (some 56) (σ 53)) (some 57) (σ 54)) (some 58) (σ 55)) (some 59) (σ 56)) (some 0) (σ 57)) from (mid_all hall).trans rfl]
    generalize σ 0 = tt0
    generalize σ 1 = tt1
    generalize σ 2 = tt2
    generalize σ 3 = tt3
    generalize σ 4 = tt4
    generalize σ 5 = tt5
    generalize σ 6 = tt6
    generalize σ 7 = tt7
    generalize σ 8 = tt8
    generalize σ 9 = tt9
    generalize σ 10 = tt10
    generalize σ 11 = tt11
    generalize σ 12 = tt12
    generalize σ 13 = tt13
    generalize σ 14 = tt14
    generalize σ 15 = tt15
    generalize σ 16 = tt16
    generalize σ 17 = tt17
    generalize σ 18 = tt18
    generalize σ 19 = tt19
    generalize σ 20 = tt20
    generalize σ 21 = tt21
    generalize σ 22 = tt22
    generalize σ 23 = tt23
    generalize σ 24 = tt24
    generalize σ 25 = tt25
    generalize σ 26 = tt26
    generalize σ 27 = tt27
    generalize σ 28 = tt28
    generalize σ 29 = tt29
    generalize σ 30 = tt30
    generalize σ 31 = tt31
    generalize σ 32 = tt32
    generalize σ 33 = tt33
    generalize σ 34 = tt34
    generalize σ 35 = tt35
    generalize σ 36 = tt36
    generalize σ 37 = tt37
    generalize σ 38 = tt38
    generalize σ 39 = tt39
    generalize σ 40 = tt40
    generalize σ 41 = tt41
    generalize σ 42 = tt42
    generalize σ 43 = tt43
    generalize σ 44 = tt44
    generalize σ 45 = tt45
    generalize σ 46 = tt46
    generalize σ 47 = tt47
    generalize σ 48 = tt48
    generalize σ 49 = tt49
    generalize σ 50 = tt50
    generalize σ 51 = tt51
    generalize σ 52 = tt52
    generalize σ 53 = tt53
    generalize σ 54 = tt54
    generalize σ 55 = tt55
    generalize σ 56 = tt56
    rw [show σ 57 = .bool true from hF 57 (by decide)]
    simp only [Act.put, List.setIfInBounds_toArray, List.set_cons_zero, List.set_cons_succ]
    have TG := hG.1
    clear hF hG hall
    clear σ
    have HE := hide (HT.out.next TG)
    clear TG SOF HMM HX
    go_wp2_with fail
    go_ret
    exact ⟨rfl, HE.out⟩
end Go.Proofs.YtakcgkohnomgjaaGreatDoor
