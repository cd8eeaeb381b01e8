/- Texts of one seat, put together: RelTights. -/
import Derived.Test.YtdeakieenppmiaaGreatDoorC42
import Derived.Test.YtdeakieenppmiaaGreatDoorC43
import Derived.Test.YtdeakieenppmiaaGreatDoorC45
import Derived.Test.YtdeakieenppmiaaGreatDoorC47
set_option linter.unusedVariables false
set_option linter.unusedSimpArgs false
set_option maxRecDepth 100000
set_option maxHeartbeats 16000000
/- RelTights: the walk. -/
namespace Go.Proofs.YtdeakieenppmiaaGreatDoor
open Go.RowKit
open Tm

theorem den_short {L : List (Int × Int)} {K : Int} {e : Bool} {rs : List RV} (h : rs.map RV.rd = den L K e) (hl : L.length ≤ 20) : ∀ r ∈ rs, r.L.length ≤ 1099511 := by
 intro r hr
 have h1 : r.rd ∈ den L K e := by rw [← h]; exact List.mem_map_of_mem hr
 have h2 := norm_length L
 have h3 : (negL L).length ≤ L.length := by unfold negL; refine Nat.le_trans (norm_length _) ?_; rw [List.length_map]; exact Nat.le_refl _
 have h4 : r.rd.1 = norm L ∨ r.rd.1 = negL L := by
  unfold den at h1
  cases e with
  | false => simp at h1; exact Or.inr (by rw [h1])
  | true =>
   simp at h1
   rcases h1 with h1 | h1
   · exact Or.inl (by rw [h1])
   · exact Or.inr (by rw [h1])
 have h5 : r.L = r.rd.1 := rfl
 rcases h4 with h4 | h4 <;> (rw [h5, h4]; omega)
theorem relTights_walk (v : Value) (L : List (Int × Int)) (K : Int) (f1 : Bool) (u : Value) (M : List (Int × Int)) (KM : Int) (f2 : Bool) (w0 : World) (hv : RIn w0 v L K f1 big) (hu : RIn w0 u M KM f2 big) :
  Calls Tryz.prog 3 #[v, u] w0 (YesPost w0) := by
 obtain ⟨A, n, c, s, B, m, d, rfl, ht⟩ := hv
 obtain ⟨A2, n2, c2, s2, B2, m2, d2, rfl, hu1⟩ := hu
 obtain ⟨z0, z1, z2, -⟩ := bstart2 30 30 w0 #[.slice A n c, .bool s, .slice B m d, .bool f1] #[.slice A2 n2 c2, .bool s2, .slice B2 m2 d2, .bool f2]
 have H1 := hide ht
 have H2 := hide hu1
 clear ht hu1
 go_enter Tryz.func3, Tryz.ntmps3
 go_wp2_with fail
 refine (saying_yes _).mono ?_
 rintro en w2 ⟨rfl, b1⟩
 have Q0 := hide (z0.next b1)
 have Q1 := hide (z1.next b1)
 have T2 := hide (z2.next b1)
 have x0 := Q0.out.r0
 have x1 := Q0.out.r1
 have x2 := Q0.out.r2
 have x3 := Q0.out.r3
 have y0 := Q1.out.r0
 have y1 := Q1.out.r1
 have y2 := Q1.out.r2
 have y3 := Q1.out.r3
 clear z0 z1 z2 b1
 have bA := bl_alloc w2 (.cells #[.slice A n c, .bool s, .slice B m d, .bool f1, .slice A2 n2 c2, .bool s2, .slice B2 m2 d2, .bool f2] 30)
 have hbx : Box 30 (w2.alloc (.cells #[.slice A n c, .bool s, .slice B m d, .bool f1, .slice A2 n2 c2, .bool s2, .slice B2 m2 d2, .bool f2] 30)) w2.heap.size (flatR [⟨A, n, c, s, B, m, d, f1, L, K⟩, ⟨A2, n2, c2, s2, B2, m2, d2, f2, M, KM⟩]).toArray := Box.new _ _ _
 have hfw := r4few_any (some ⟨w2.heap.size, 0, none⟩) 2 2 2 12 [⟨A, n, c, s, B, m, d, f1, L, K⟩, ⟨A2, n2, c2, s2, B2, m2, d2, f2, M, KM⟩] _ ⟨RelsAt.box hbx, fun t ht => by
  simp only [List.mem_cons, List.not_mem_nil, or_false] at ht
  rcases ht with rfl | rfl
  · exact (H1.out.below T2.out).below bA
  · exact (H2.out.below T2.out).below bA⟩ (by decide) (by decide) (by decide)
 have Q0 := hide (Q0.out.next bA)
 have Q1 := hide (Q1.out.next bA)
 have T3 := hide (T2.out.next bA)
 clear hbx bA
 go_wp2_with fail
 refine hfw.mono ?_
 rintro en w3 ⟨r, rfl, hr, rfl⟩
 have HR := hide hr
 clear x0 x1 x2 x3 y0 y1 y2 y3 hfw hr
 cases r with
 | false =>
  go_wp2_with fail
  go_ret
  exact ⟨rfl, T3.out⟩
 | true =>
  have F1 := hide ((HR.out rfl).2 ⟨A, n, c, s, B, m, d, f1, L, K⟩ (by simp))
  have F2 := hide ((HR.out rfl).2 ⟨A2, n2, c2, s2, B2, m2, d2, f2, M, KM⟩ (by simp))
  have HL := hide (show L.length ≤ 20 by
    obtain ⟨h1, A', n', c', s', B', m', d', e2, h2, -⟩ := F1.out
    have h3 : Value.agg #[.slice A n c, .bool s, .slice B m d] = .agg #[.slice A' n' c', .bool s', .slice B' m' d'] := e2
    have h4 : n = n' := by simp at h3; exact h3.1.2.1
    rw [h2.len, ← h4]
    exact h1)
  have HM := hide (show M.length ≤ 20 by
    obtain ⟨h1, A', n', c', s', B', m', d', e2, h2, -⟩ := F2.out
    have h3 : Value.agg #[.slice A2 n2 c2, .bool s2, .slice B2 m2 d2] = .agg #[.slice A' n' c', .bool s', .slice B' m' d'] := e2
    have h4 : n2 = n' := by simp at h3; exact h3.1.2.1
    rw [h2.len, ← h4]
    exact h1)
  have HTA0 := hide (show TIn _ (.agg #[.slice A n c, .bool s, .slice B m d]) L K 12 from F1.out.2)
  have HTB0 := hide (show TIn _ (.agg #[.slice A2 n2 c2, .bool s2, .slice B2 m2 d2]) M KM 12 from F2.out.2)
  clear HR F1 F2 H1 H2 T2
  generalize hW3 : (w2.alloc (.cells #[.slice A n c, .bool s, .slice B m d, .bool f1, .slice A2 n2 c2, .bool s2, .slice B2 m2 d2, .bool f2] 30)) = w3 at *
  clear hW3
  have hti := relTight_any _ L K f1 12 w3 ⟨_, _, _, _, _, _, _, rfl, HTA0.out⟩ (by have := HL.out; omega) (by decide)
  have x0 := Q0.out.r0
  have x1 := Q0.out.r1
  have x2 := Q0.out.r2
  have x3 := Q0.out.r3
  go_wp2_with fail
  refine hti.mono ?_
  rintro en w5 ⟨v5, rfl, r5, b5⟩
  have h5 := r5
  obtain ⟨A5, n5, c5, s5, B5, m5, d5, rfl, -⟩ := r5
  have yy := bl_alloc w5 (.cells #[.slice A5 n5 c5, .bool s5, .slice B5 m5 d5, .bool (tgE L K f1)] 30)
  have hB := b5.next yy
  have T4 := hide (T3.out.next hB)
  have Q0 := hide (Q0.out.next hB)
  have Q1 := hide (Q1.out.next hB)
  have HTA1 := hide (HTA0.out.below hB)
  have HTB1 := hide (HTB0.out.below hB)
  have X5 := hide (Box.new 30 w5 #[.slice A5 n5 c5, .bool s5, .slice B5 m5 d5, .bool (tgE L K f1)])
  have H5 := hide (h5.below yy)
  clear hti x0 x1 x2 x3 b5 h5 yy hB
  have hti := r4tight_any _ L K f1 12 (w5.alloc (.cells #[.slice A5 n5 c5, .bool s5, .slice B5 m5 d5, .bool (tgE L K f1)] 30)) ⟨_, _, _, _, _, _, _, rfl, HTA1.out⟩ (by have := HL.out; omega) (by decide)
  have x0 := Q0.out.r0
  have x1 := Q0.out.r1
  have x2 := Q0.out.r2
  have x3 := Q0.out.r3
  go_wp2_with fail
  refine hti.mono ?_
  rintro en w6 ⟨v6, rfl, r6, b6⟩
  have h6 := r6
  obtain ⟨A7, n7, c7, s7, B7, m7, d7, rfl, -⟩ := r6
  have yy := bl_alloc w6 (.cells #[.slice A7 n7 c7, .bool s7, .slice B7 m7 d7, .bool (tgE L K f1)] 30)
  have hB := b6.next yy
  have T5 := hide (T4.out.next hB)
  have Q0 := hide (Q0.out.next hB)
  have Q1 := hide (Q1.out.next hB)
  have HTA2 := hide (HTA1.out.below hB)
  have HTB2 := hide (HTB1.out.below hB)
  have X5 := hide (X5.out.next hB)
  have H5 := hide (H5.out.below hB)
  have X7 := hide (Box.new 30 w6 #[.slice A7 n7 c7, .bool s7, .slice B7 m7 d7, .bool (tgE L K f1)])
  have H7 := hide (h6.below yy)
  clear hti x0 x1 x2 x3 b6 h6 yy hB
  obtain ⟨cz, hcz⟩ : ∃ cz, cz = cmpR L M K KM f1 f2 := ⟨_, rfl⟩
  have hcr := rcmp4_any (.agg #[.slice A n c, .bool s, .slice B m d, .bool f1]) (.agg #[.slice A2 n2 c2, .bool s2, .slice B2 m2 d2, .bool f2]) L M K KM f1 f2 12 (w6.alloc (.cells #[.slice A7 n7 c7, .bool s7, .slice B7 m7 d7, .bool (tgE L K f1)] 30)) ⟨_, _, _, _, _, _, _, rfl, HTA2.out⟩ ⟨_, _, _, _, _, _, _, rfl, HTB2.out⟩ (by have := HL.out; omega) (by have := HM.out; omega) (by decide)
  rw [← hcz] at hcr
  have HCZE := hide hcz
  clear hcz
  have x0 := Q0.out.r0
  have x1 := Q0.out.r1
  have x2 := Q0.out.r2
  have x3 := Q0.out.r3
  have y0 := Q1.out.r0
  have y1 := Q1.out.r1
  have y2 := Q1.out.r2
  have y3 := Q1.out.r3
  go_wp2_with fail
  refine hcr.mono ?_
  rintro en w7 ⟨rfl, b7⟩
  have T6 := hide (T5.out.next b7)
  have Q0 := hide (Q0.out.next b7)
  have Q1 := hide (Q1.out.next b7)
  have HTA3 := hide (HTA2.out.below b7)
  have HTB3 := hide (HTB2.out.below b7)
  have X5 := hide (X5.out.next b7)
  have H5 := hide (H5.out.below b7)
  have X7 := hide (X7.out.next b7)
  have H7 := hide (H7.out.below b7)
  clear hcr x0 x1 x2 x3 y0 y1 y2 y3 b7
  have hpl := rplain_any _ L K 12 w7 HTA3.out (by have := HL.out; omega) (by decide)
  have x0 := Q0.out.r0
  have x1 := Q0.out.r1
  have x2 := Q0.out.r2
  go_wp2_with fail
  refine hpl.mono ?_
  rintro en w8 ⟨v8, rfl, r8, b8⟩
  obtain ⟨Ap, np, cp, sp, Bp, mp, dp, rfl⟩ := r8.form
  have yy := bl_alloc w8 (.cells #[.slice Ap np cp, .bool sp, .slice Bp mp dp] 28)
  have hB := b8.next yy
  have T7 := hide (T6.out.next hB)
  have QA := hide (Q0.out.next hB)
  have QB := hide (Q1.out.next hB)
  have HTA := hide (HTA3.out.below hB)
  have HTB := hide (HTB3.out.below hB)
  have XA5 := hide (X5.out.next hB)
  have HA5 := hide (H5.out.below hB)
  have XA7 := hide (X7.out.next hB)
  have HA7 := hide (H7.out.below hB)
  have XP := hide (Box.new 28 w8 #[.slice Ap np cp, .bool sp, .slice Bp mp dp])
  have HP := hide (r8.below yy)
  clear hpl x0 x1 x2 r8 b8 yy hB
  go_upto_region 9 with fail
  (try simp only [List.append_eq, List.cons_append, List.nil_append])
  generalize hW : (w8.alloc (.cells #[.slice Ap np cp, .bool sp, .slice Bp mp dp] 28)) = W6 at *
  clear hW
  have HNL := hide (norm_length L)
  have HTL := hide (show (tgL L K f1).length ≤ 1099511 from by
    have h1 := norm_length L
    have h2 := HL.out
    unfold tgL
    split
    · simp
    · split
      · rw [List.length_map, quot_len]; omega
      · rw [quot_len]; omega)
  have HDL := hide (show (den L K f1).length ≤ 1099511627 by unfold den; split <;> simp)
  have HRA := hide (show RIn W6 (.agg #[.slice A n c, .bool s, .slice B m d, .bool f1]) L K f1 12 from ⟨_, _, _, _, _, _, _, rfl, HTA.out⟩)
  have HRB := hide (show RIn W6 (.agg #[.slice A2 n2 c2, .bool s2, .slice B2 m2 d2, .bool f2]) M KM f2 12 from ⟨_, _, _, _, _, _, _, rfl, HTB.out⟩)
  have hq1 := fun W (h : Below W6.heap.size W6 W) => relCmp_any _ _ L M K KM f1 f2 12 W (HRA.out.below h) (HRB.out.below h) (by have := HL.out; omega) (by have := HM.out; omega) (by decide)
  have hq2 := fun W (h : Below W6.heap.size W6 W) => relSame_any _ _ L M K KM f1 f2 12 W (HRA.out.below h) (HRB.out.below h) (by have := HL.out; omega) (by have := HM.out; omega) (by decide)
  rw [← HCZE.out] at hq1 hq2
  have HCZ := hide hq1
  have HSM := hide hq2
  clear hq1 hq2
  generalize tgKnown L K f1 = kn at *
  generalize hf5 : tgE L K f1 = f5 at *
  clear hf5
  have SOF := hide (show ∀ W, Below W6.heap.size W6 W → (W.cell? ⟨w0.heap.size, 0, none⟩ = some (.slice A n c) ∧ W.cell? ⟨w0.heap.size, 1, none⟩ = some (.bool s) ∧ W.cell? ⟨w0.heap.size, 2, none⟩ = some (.slice B m d) ∧ W.cell? ⟨w0.heap.size, 3, none⟩ = some (.bool f1) ∧ W.cell? ⟨w0.heap.size + 1, 0, none⟩ = some (.slice A2 n2 c2) ∧ W.cell? ⟨w0.heap.size + 1, 1, none⟩ = some (.bool s2) ∧ W.cell? ⟨w0.heap.size + 1, 2, none⟩ = some (.slice B2 m2 d2) ∧ W.cell? ⟨w0.heap.size + 1, 3, none⟩ = some (.bool f2) ∧ W.cell? ⟨w5.heap.size, 0, none⟩ = some (.slice A5 n5 c5) ∧ W.cell? ⟨w5.heap.size, 1, none⟩ = some (.bool s5) ∧ W.cell? ⟨w5.heap.size, 2, none⟩ = some (.slice B5 m5 d5) ∧ W.cell? ⟨w5.heap.size, 3, none⟩ = some (.bool f5) ∧ W.cell? ⟨w6.heap.size, 0, none⟩ = some (.slice A7 n7 c7) ∧ W.cell? ⟨w6.heap.size, 1, none⟩ = some (.bool s7) ∧ W.cell? ⟨w6.heap.size, 2, none⟩ = some (.slice B7 m7 d7) ∧ W.cell? ⟨w6.heap.size, 3, none⟩ = some (.bool f5) ∧ W.cell? ⟨w8.heap.size, 0, none⟩ = some (.slice Ap np cp) ∧ W.cell? ⟨w8.heap.size, 1, none⟩ = some (.bool sp) ∧ W.cell? ⟨w8.heap.size, 2, none⟩ = some (.slice Bp mp dp)) from fun W h => ⟨(QA.out.next h).r0, (QA.out.next h).r1, (QA.out.next h).r2, (QA.out.next h).r3, (QB.out.next h).r0, (QB.out.next h).r1, (QB.out.next h).r2, (QB.out.next h).r3, (XA5.out.next h).r0, (XA5.out.next h).r1, (XA5.out.next h).r2, (XA5.out.next h).r3, (XA7.out.next h).r0, (XA7.out.next h).r1, (XA7.out.next h).r2, (XA7.out.next h).r3, (XP.out.next h).c0, (XP.out.next h).c1, (XP.out.next h).c2⟩)
  refine wp_drawn (by kernel_rfl) (by kernel_rfl) (by kernel_rfl) (fun w w' => Below w.heap.size w w') (fun j v w => match j with | 0 => v = .int .i64 kn | 1 => v = .int .i64 kn | 2 => v = .bool true | 3 => v = .bool true | 4 => v = .agg #[.slice A5 n5 c5, .bool s5, .slice B5 m5 d5, .bool f5] | 5 => v = .agg #[.slice A7 n7 c7, .bool s7, .slice B7 m7 d7, .bool f5] | 6 => v = .bool true | 7 => v = .bool true | 8 => v = .bool true | 9 => v = .agg #[.slice A n c, .bool s, .slice B m d, .bool f1] | 10 => ∃ A c rs, v = .slice A (den L K f1).length c ∧ RelsRes w A (den L K f1).length rs (12 + L.length + 3 + L.length) ∧ rs.map RV.rd = den L K f1 | 11 => v = .agg #[.slice A n c, .bool s, .slice B m d, .bool f1] | 12 => ∃ A c rs, v = .slice A (den L K f1).length c ∧ RelsRes w A (den L K f1).length rs (12 + L.length + 6 + L.length) ∧ rs.map RV.rd = den L K f1 | 13 => v = .bool true | 14 => v = .bool true | 15 => v = .bool true | 16 => v = .agg #[.slice A n c, .bool s, .slice B m d, .bool f1] | 17 => v = .agg #[.slice A2 n2 c2, .bool s2, .slice B2 m2 d2, .bool f2] | 18 => v = .int .i64 cz | 19 => v = .int .i64 cz | 20 => v = .bool true | 21 => v = .bool true | 22 => v = .bool true | 23 => v = .agg #[.slice A n c, .bool s, .slice B m d, .bool f1] | 24 => v = .agg #[.slice A2 n2 c2, .bool s2, .slice B2 m2 d2, .bool f2] | 25 => v = .bool (cz == 0) | 26 => v = .int .i64 cz | 27 => v = .bool (cz == 0) | 28 => v = .bool true | 29 => v = .bool true | 30 => v = .bool true | 31 => v = .pointer (some ⟨w0.heap.size, 0, none⟩) | 32 => v = .agg #[.slice A n c, .bool s, .slice B m d] | 33 => RRes w v (norm L) K true (12 + L.length) | 34 => v = .agg #[.slice Ap np cp, .bool sp, .slice Bp mp dp] | 35 => v = .agg #[.slice Ap np cp, .bool sp, .slice Bp mp dp, .bool true] | 36 => v = .bool true | 37 => v = .bool true | 38 => v = .bool true | 39 => v = .pointer (some ⟨w0.heap.size, 0, none⟩) | 40 => v = .agg #[.slice A n c, .bool s, .slice B m d] | 41 => RRes w v (norm L) K false (12 + L.length) | 42 => v = .agg #[.slice Ap np cp, .bool sp, .slice Bp mp dp] | 43 => v = .agg #[.slice Ap np cp, .bool sp, .slice Bp mp dp, .bool false] | 44 => v = .bool true | 45 => v = .bool true | 46 => v = .bool true | _ => True) (fun _ _ w => Below W6.heap.size W6 w) ?_ (fun _ => bl_drewN W6 1) ?_ ?_
  · intro j v w w' hT h
    match j, h with
    | 0, h => exact h
    | 1, h => exact h
    | 2, h => exact h
    | 3, h => exact h
    | 4, h => exact h
    | 5, h => exact h
    | 6, h => exact h
    | 7, h => exact h
    | 8, h => exact h
    | 9, h => exact h
    | 10, h => exact (by obtain ⟨A, c, rs, e, h1, h2⟩ := h; exact ⟨A, c, rs, e, h1.below hT, h2⟩)
    | 11, h => exact h
    | 12, h => exact (by obtain ⟨A, c, rs, e, h1, h2⟩ := h; exact ⟨A, c, rs, e, h1.below hT, h2⟩)
    | 13, h => exact h
    | 14, h => exact h
    | 15, h => exact h
    | 16, h => exact h
    | 17, h => exact h
    | 18, h => exact h
    | 19, h => exact h
    | 20, h => exact h
    | 21, h => exact h
    | 22, h => exact h
    | 23, h => exact h
    | 24, h => exact h
    | 25, h => exact h
    | 26, h => exact h
    | 27, h => exact h
    | 28, h => exact h
    | 29, h => exact h
    | 30, h => exact h
    | 31, h => exact h
    | 32, h => exact h
    | 33, h => exact h.below hT
    | 34, h => exact h
    | 35, h => exact h
    | 36, h => exact h
    | 37, h => exact h
    | 38, h => exact h
    | 39, h => exact h
    | 40, h => exact h
    | 41, h => exact h.below hT
    | 42, h => exact h
    | 43, h => exact h
    | 44, h => exact h
    | 45, h => exact h
    | 46, h => exact h
    | j + 47, h => trivial
  · refine ⟨?_, ?_, ?_, ?_, ?_, ?_, ?_, ?_, ?_, ?_, ?_, ?_, ?_, ?_, ?_, ?_, ?_, ?_, ?_, ?_, ?_, ?_, ?_, ?_, ?_, ?_, ?_, ?_, ?_, ?_, ?_, ?_, ?_, ?_, ?_, ?_, ?_, ?_, ?_, ?_, ?_, ?_, ?_, ?_, ?_, ?_, ?_, trivial⟩
    · intro listed σ w a hin hout hl hc hp hG hF
      refine Guarded.none rfl ?_
      have e6 : a.tmps.getD 6 undef = .int .i64 kn := hout 6 (outB_spec (by kernel_rfl))
      refine Does.val (.int .i64 kn) (w' := w) ?_ ⟨Below.refl _ _, rfl, hG⟩
      simp only [Array.getD_eq_getD_getElem?] at e6
      go_simp
    · intro listed σ w a hin hout hl hc hp hG hF
      refine Guarded.none rfl ?_
      have e8 : a.tmps.getD 8 undef = .int .i64 kn := hout 8 (outB_spec (by kernel_rfl))
      refine Does.val (.int .i64 kn) (w' := w) ?_ ⟨Below.refl _ _, rfl, hG⟩
      simp only [Array.getD_eq_getD_getElem?] at e8
      go_simp
    · intro listed σ w a hin hout hl hc hp hG hF
      refine Guarded.none rfl ?_
      have e34 : a.tmps.getD 34 undef = .int .i64 kn := (hin 0 34 rfl (hp ⟨0, .data⟩ (by simp) rfl)).trans (hF 0 (hp ⟨0, .data⟩ (by simp) rfl))
      have e35 : a.tmps.getD 35 undef = .int .i64 kn := (hin 1 35 rfl (hp ⟨1, .data⟩ (by simp) rfl)).trans (hF 1 (hp ⟨1, .data⟩ (by simp) rfl))
      refine Does.val (.bool true) (w' := w) ?_ ⟨Below.refl _ _, rfl, hG⟩
      simp only [Array.getD_eq_getD_getElem?] at e34 e35
      go_simp
    · intro listed σ w a hin hout hl hc hp hG hF
      refine Guarded.none rfl ?_
      have e36 : a.tmps.getD 36 undef = .bool true := (hin 2 36 rfl (hp ⟨2, .data⟩ (by simp) rfl)).trans (hF 2 (hp ⟨2, .data⟩ (by simp) rfl))
      refine Does.val (.bool true) (w' := w) ?_ ⟨Below.refl _ _, rfl, hG⟩
      simp only [Array.getD_eq_getD_getElem?] at e36
      go_simp
    · intro listed σ w a hin hout hl hc hp hG hF
      refine Guarded.some (d := 37) (b := true) rfl rfl ((hin 3 37 rfl (hp ⟨3, .guard⟩ (by simp) rfl)).trans (hF 3 (hp ⟨3, .guard⟩ (by simp) rfl))) ?_
      refine Or.inl ⟨rfl, ?_⟩
      have e5 : a.tmps.getD 5 undef = .pointer (some ⟨w5.heap.size, 0, none⟩) := hout 5 (outB_spec (by kernel_rfl))
      have CC := SOF.out w hG; obtain ⟨C0, C1, C2, C3, D0, D1, D2, D3, E0, E1, E2, E3, F0, F1, F2, F3, G0, G1, G2⟩ := CC
      refine Does.val (.agg #[.slice A5 n5 c5, .bool s5, .slice B5 m5 d5, .bool f5]) (w' := w) ?_ ⟨Below.refl _ _, rfl, hG⟩
      go_simp
    · intro listed σ w a hin hout hl hc hp hG hF
      refine Guarded.some (d := 37) (b := true) rfl rfl ((hin 3 37 rfl (hp ⟨3, .guard⟩ (by simp) rfl)).trans (hF 3 (hp ⟨3, .guard⟩ (by simp) rfl))) ?_
      refine Or.inl ⟨rfl, ?_⟩
      have e7 : a.tmps.getD 7 undef = .pointer (some ⟨w6.heap.size, 0, none⟩) := hout 7 (outB_spec (by kernel_rfl))
      have CC := SOF.out w hG; obtain ⟨C0, C1, C2, C3, D0, D1, D2, D3, E0, E1, E2, E3, F0, F1, F2, F3, G0, G1, G2⟩ := CC
      refine Does.val (.agg #[.slice A7 n7 c7, .bool s7, .slice B7 m7 d7, .bool f5]) (w' := w) ?_ ⟨Below.refl _ _, rfl, hG⟩
      go_simp
    · intro listed σ w a hin hout hl hc hp hG hF
      refine Guarded.some (d := 37) (b := true) rfl rfl ((hin 3 37 rfl (hp ⟨3, .guard⟩ (by simp) rfl)).trans (hF 3 (hp ⟨3, .guard⟩ (by simp) rfl))) ?_
      refine Or.inl ⟨rfl, ?_⟩
      have e38 : a.tmps.getD 38 undef = .agg #[.slice A5 n5 c5, .bool s5, .slice B5 m5 d5, .bool f5] := (hin 4 38 rfl (hp ⟨4, .data⟩ (by simp) rfl)).trans (hF 4 (hp ⟨4, .data⟩ (by simp) rfl))
      have e39 : a.tmps.getD 39 undef = .agg #[.slice A7 n7 c7, .bool s7, .slice B7 m7 d7, .bool f5] := (hin 5 39 rfl (hp ⟨5, .data⟩ (by simp) rfl)).trans (hF 5 (hp ⟨5, .data⟩ (by simp) rfl))
      refine Does.call ?_ (r4same_yes _ _ (tgL L K f1) (tgK L K f1) f5 (12 + L.length + L.length) (12 + L.length + L.length + 2 + L.length) w (HA5.out.below hG) (HA7.out.below hG) HTL.out) ?_
      · go_simp
      · rintro e w' ⟨rfl, hb⟩
        exact ⟨_, rfl, hb, rfl, hG.next hb⟩
    · intro listed σ w a hin hout hl hc hp hG hF
      refine Guarded.none rfl ?_
      have e37 : a.tmps.getD 37 undef = .bool true := (hin 3 37 rfl (hp ⟨3, .data⟩ (by simp) rfl)).trans (hF 3 (hp ⟨3, .data⟩ (by simp) rfl))
      have e40 : a.tmps.getD 40 undef = .bool true := (hin 6 40 rfl (hp ⟨6, .data⟩ (by simp) rfl)).trans (hF 6 (hp ⟨6, .data⟩ (by simp) rfl))
      refine Does.val (.bool true) (w' := w) ?_ ⟨Below.refl _ _, rfl, hG⟩
      simp only [Array.getD_eq_getD_getElem?] at e37 e40
      go_simp
    · intro listed σ w a hin hout hl hc hp hG hF
      refine Guarded.none rfl ?_
      have e41 : a.tmps.getD 41 undef = .bool true := (hin 7 41 rfl (hp ⟨7, .data⟩ (by simp) rfl)).trans (hF 7 (hp ⟨7, .data⟩ (by simp) rfl))
      refine Does.val (.bool true) (w' := w) ?_ ⟨Below.refl _ _, rfl, hG⟩
      simp only [Array.getD_eq_getD_getElem?] at e41
      go_simp
    · intro listed σ w a hin hout hl hc hp hG hF
      refine Guarded.some (d := 42) (b := true) rfl rfl ((hin 8 42 rfl (hp ⟨8, .guard⟩ (by simp) rfl)).trans (hF 8 (hp ⟨8, .guard⟩ (by simp) rfl))) ?_
      refine Or.inl ⟨rfl, ?_⟩
      have e2 : a.tmps.getD 2 undef = .pointer (some ⟨w0.heap.size, 0, none⟩) := hout 2 (outB_spec (by kernel_rfl))
      have CC := SOF.out w hG; obtain ⟨C0, C1, C2, C3, D0, D1, D2, D3, E0, E1, E2, E3, F0, F1, F2, F3, G0, G1, G2⟩ := CC
      refine Does.val (.agg #[.slice A n c, .bool s, .slice B m d, .bool f1]) (w' := w) ?_ ⟨Below.refl _ _, rfl, hG⟩
      go_simp
    · intro listed σ w a hin hout hl hc hp hG hF
      refine Guarded.some (d := 42) (b := true) rfl rfl ((hin 8 42 rfl (hp ⟨8, .guard⟩ (by simp) rfl)).trans (hF 8 (hp ⟨8, .guard⟩ (by simp) rfl))) ?_
      refine Or.inl ⟨rfl, ?_⟩
      have e43 : a.tmps.getD 43 undef = .agg #[.slice A n c, .bool s, .slice B m d, .bool f1] := (hin 9 43 rfl (hp ⟨9, .data⟩ (by simp) rfl)).trans (hF 9 (hp ⟨9, .data⟩ (by simp) rfl))
      refine Does.call ?_ (relDeny_any _ L K f1 12 w (HRA.out.below hG) (by have := HL.out; omega) (by decide)) ?_
      · go_simp
      · rintro e w' ⟨A, c, rs, rfl, h1, h2, -, -, hb⟩
        exact ⟨_, rfl, hb, ⟨A, c, rs, rfl, h1, h2⟩, hG.next hb⟩
    · intro listed σ w a hin hout hl hc hp hG hF
      refine Guarded.some (d := 42) (b := true) rfl rfl ((hin 8 42 rfl (hp ⟨8, .guard⟩ (by simp) rfl)).trans (hF 8 (hp ⟨8, .guard⟩ (by simp) rfl))) ?_
      refine Or.inl ⟨rfl, ?_⟩
      have e2 : a.tmps.getD 2 undef = .pointer (some ⟨w0.heap.size, 0, none⟩) := hout 2 (outB_spec (by kernel_rfl))
      have CC := SOF.out w hG; obtain ⟨C0, C1, C2, C3, D0, D1, D2, D3, E0, E1, E2, E3, F0, F1, F2, F3, G0, G1, G2⟩ := CC
      refine Does.val (.agg #[.slice A n c, .bool s, .slice B m d, .bool f1]) (w' := w) ?_ ⟨Below.refl _ _, rfl, hG⟩
      go_simp
    · intro listed σ w a hin hout hl hc hp hG hF
      refine Guarded.some (d := 42) (b := true) rfl rfl ((hin 8 42 rfl (hp ⟨8, .guard⟩ (by simp) rfl)).trans (hF 8 (hp ⟨8, .guard⟩ (by simp) rfl))) ?_
      refine Or.inl ⟨rfl, ?_⟩
      have e45 : a.tmps.getD 45 undef = .agg #[.slice A n c, .bool s, .slice B m d, .bool f1] := (hin 11 45 rfl (hp ⟨11, .data⟩ (by simp) rfl)).trans (hF 11 (hp ⟨11, .data⟩ (by simp) rfl))
      refine Does.call ?_ (rdeny_any _ L K f1 12 w (HRA.out.below hG) (by have := HL.out; omega) (by decide)) ?_
      · go_simp
      · rintro e w' ⟨A, c, rs, rfl, h1, h2, -, -, hb⟩
        exact ⟨_, rfl, hb, ⟨A, c, rs, rfl, h1, h2⟩, hG.next hb⟩
    · intro listed σ w a hin hout hl hc hp hG hF
      refine Guarded.some (d := 42) (b := true) rfl rfl ((hin 8 42 rfl (hp ⟨8, .guard⟩ (by simp) rfl)).trans (hF 8 (hp ⟨8, .guard⟩ (by simp) rfl))) ?_
      refine Or.inl ⟨rfl, ?_⟩
      have e44 := hin 10 44 rfl (hp ⟨10, .data⟩ (by simp) rfl)
      obtain ⟨A10, c10, rs10, ev10, q10, r10⟩ := hF 10 (hp ⟨10, .data⟩ (by simp) rfl)
      rw [ev10] at e44
      have e46 := hin 12 46 rfl (hp ⟨12, .data⟩ (by simp) rfl)
      obtain ⟨A12, c12, rs12, ev12, q12, r12⟩ := hF 12 (hp ⟨12, .data⟩ (by simp) rfl)
      rw [ev12] at e46
      refine Does.call ?_ (r4sameAll_yes A10 A12 (den L K f1).length c10 c12 rs10 rs12 (12 + L.length + 3 + L.length) (12 + L.length + 6 + L.length) w q10 q12 (r10.trans r12.symm) (den_short r10 HL.out) HDL.out) ?_
      · go_simp
      · rintro e w' ⟨rfl, hb⟩
        exact ⟨_, rfl, hb, rfl, hG.next hb⟩
    · intro listed σ w a hin hout hl hc hp hG hF
      refine Guarded.none rfl ?_
      have e42 : a.tmps.getD 42 undef = .bool true := (hin 8 42 rfl (hp ⟨8, .data⟩ (by simp) rfl)).trans (hF 8 (hp ⟨8, .data⟩ (by simp) rfl))
      have e47 : a.tmps.getD 47 undef = .bool true := (hin 13 47 rfl (hp ⟨13, .data⟩ (by simp) rfl)).trans (hF 13 (hp ⟨13, .data⟩ (by simp) rfl))
      refine Does.val (.bool true) (w' := w) ?_ ⟨Below.refl _ _, rfl, hG⟩
      simp only [Array.getD_eq_getD_getElem?] at e42 e47
      go_simp
    · intro listed σ w a hin hout hl hc hp hG hF
      refine Guarded.none rfl ?_
      have e48 : a.tmps.getD 48 undef = .bool true := (hin 14 48 rfl (hp ⟨14, .data⟩ (by simp) rfl)).trans (hF 14 (hp ⟨14, .data⟩ (by simp) rfl))
      refine Does.val (.bool true) (w' := w) ?_ ⟨Below.refl _ _, rfl, hG⟩
      simp only [Array.getD_eq_getD_getElem?] at e48
      go_simp
    · intro listed σ w a hin hout hl hc hp hG hF
      refine Guarded.some (d := 49) (b := true) rfl rfl ((hin 15 49 rfl (hp ⟨15, .guard⟩ (by simp) rfl)).trans (hF 15 (hp ⟨15, .guard⟩ (by simp) rfl))) ?_
      refine Or.inl ⟨rfl, ?_⟩
      have e2 : a.tmps.getD 2 undef = .pointer (some ⟨w0.heap.size, 0, none⟩) := hout 2 (outB_spec (by kernel_rfl))
      have CC := SOF.out w hG; obtain ⟨C0, C1, C2, C3, D0, D1, D2, D3, E0, E1, E2, E3, F0, F1, F2, F3, G0, G1, G2⟩ := CC
      refine Does.val (.agg #[.slice A n c, .bool s, .slice B m d, .bool f1]) (w' := w) ?_ ⟨Below.refl _ _, rfl, hG⟩
      go_simp
    · intro listed σ w a hin hout hl hc hp hG hF
      refine Guarded.some (d := 49) (b := true) rfl rfl ((hin 15 49 rfl (hp ⟨15, .guard⟩ (by simp) rfl)).trans (hF 15 (hp ⟨15, .guard⟩ (by simp) rfl))) ?_
      refine Or.inl ⟨rfl, ?_⟩
      have e3 : a.tmps.getD 3 undef = .pointer (some ⟨w0.heap.size + 1, 0, none⟩) := hout 3 (outB_spec (by kernel_rfl))
      have CC := SOF.out w hG; obtain ⟨C0, C1, C2, C3, D0, D1, D2, D3, E0, E1, E2, E3, F0, F1, F2, F3, G0, G1, G2⟩ := CC
      refine Does.val (.agg #[.slice A2 n2 c2, .bool s2, .slice B2 m2 d2, .bool f2]) (w' := w) ?_ ⟨Below.refl _ _, rfl, hG⟩
      go_simp
    · intro listed σ w a hin hout hl hc hp hG hF
      refine Guarded.some (d := 49) (b := true) rfl rfl ((hin 15 49 rfl (hp ⟨15, .guard⟩ (by simp) rfl)).trans (hF 15 (hp ⟨15, .guard⟩ (by simp) rfl))) ?_
      refine Or.inl ⟨rfl, ?_⟩
      have e50 : a.tmps.getD 50 undef = .agg #[.slice A n c, .bool s, .slice B m d, .bool f1] := (hin 16 50 rfl (hp ⟨16, .data⟩ (by simp) rfl)).trans (hF 16 (hp ⟨16, .data⟩ (by simp) rfl))
      have e51 : a.tmps.getD 51 undef = .agg #[.slice A2 n2 c2, .bool s2, .slice B2 m2 d2, .bool f2] := (hin 17 51 rfl (hp ⟨17, .data⟩ (by simp) rfl)).trans (hF 17 (hp ⟨17, .data⟩ (by simp) rfl))
      refine Does.call ?_ (HCZ.out w hG) ?_
      · go_simp
      · rintro e w' ⟨rfl, hb⟩
        exact ⟨_, rfl, hb, rfl, hG.next hb⟩
    · intro listed σ w a hin hout hl hc hp hG hF
      refine Guarded.some (d := 49) (b := true) rfl rfl ((hin 15 49 rfl (hp ⟨15, .guard⟩ (by simp) rfl)).trans (hF 15 (hp ⟨15, .guard⟩ (by simp) rfl))) ?_
      refine Or.inl ⟨rfl, ?_⟩
      have e9 : a.tmps.getD 9 undef = .int .i64 cz := hout 9 (outB_spec (by kernel_rfl))
      refine Does.val (.int .i64 cz) (w' := w) ?_ ⟨Below.refl _ _, rfl, hG⟩
      simp only [Array.getD_eq_getD_getElem?] at e9
      go_simp
    · intro listed σ w a hin hout hl hc hp hG hF
      refine Guarded.some (d := 49) (b := true) rfl rfl ((hin 15 49 rfl (hp ⟨15, .guard⟩ (by simp) rfl)).trans (hF 15 (hp ⟨15, .guard⟩ (by simp) rfl))) ?_
      refine Or.inl ⟨rfl, ?_⟩
      have e52 : a.tmps.getD 52 undef = .int .i64 cz := (hin 18 52 rfl (hp ⟨18, .data⟩ (by simp) rfl)).trans (hF 18 (hp ⟨18, .data⟩ (by simp) rfl))
      have e53 : a.tmps.getD 53 undef = .int .i64 cz := (hin 19 53 rfl (hp ⟨19, .data⟩ (by simp) rfl)).trans (hF 19 (hp ⟨19, .data⟩ (by simp) rfl))
      refine Does.val (.bool true) (w' := w) ?_ ⟨Below.refl _ _, rfl, hG⟩
      simp only [Array.getD_eq_getD_getElem?] at e52 e53
      go_simp
    · intro listed σ w a hin hout hl hc hp hG hF
      refine Guarded.none rfl ?_
      have e49 : a.tmps.getD 49 undef = .bool true := (hin 15 49 rfl (hp ⟨15, .data⟩ (by simp) rfl)).trans (hF 15 (hp ⟨15, .data⟩ (by simp) rfl))
      have e54 : a.tmps.getD 54 undef = .bool true := (hin 20 54 rfl (hp ⟨20, .data⟩ (by simp) rfl)).trans (hF 20 (hp ⟨20, .data⟩ (by simp) rfl))
      refine Does.val (.bool true) (w' := w) ?_ ⟨Below.refl _ _, rfl, hG⟩
      simp only [Array.getD_eq_getD_getElem?] at e49 e54
      go_simp
    · intro listed σ w a hin hout hl hc hp hG hF
      refine Guarded.none rfl ?_
      have e55 : a.tmps.getD 55 undef = .bool true := (hin 21 55 rfl (hp ⟨21, .data⟩ (by simp) rfl)).trans (hF 21 (hp ⟨21, .data⟩ (by simp) rfl))
      refine Does.val (.bool true) (w' := w) ?_ ⟨Below.refl _ _, rfl, hG⟩
      simp only [Array.getD_eq_getD_getElem?] at e55
      go_simp
    · intro listed σ w a hin hout hl hc hp hG hF
      refine Guarded.some (d := 56) (b := true) rfl rfl ((hin 22 56 rfl (hp ⟨22, .guard⟩ (by simp) rfl)).trans (hF 22 (hp ⟨22, .guard⟩ (by simp) rfl))) ?_
      refine Or.inl ⟨rfl, ?_⟩
      have e2 : a.tmps.getD 2 undef = .pointer (some ⟨w0.heap.size, 0, none⟩) := hout 2 (outB_spec (by kernel_rfl))
      have CC := SOF.out w hG; obtain ⟨C0, C1, C2, C3, D0, D1, D2, D3, E0, E1, E2, E3, F0, F1, F2, F3, G0, G1, G2⟩ := CC
      refine Does.val (.agg #[.slice A n c, .bool s, .slice B m d, .bool f1]) (w' := w) ?_ ⟨Below.refl _ _, rfl, hG⟩
      go_simp
    · intro listed σ w a hin hout hl hc hp hG hF
      refine Guarded.some (d := 56) (b := true) rfl rfl ((hin 22 56 rfl (hp ⟨22, .guard⟩ (by simp) rfl)).trans (hF 22 (hp ⟨22, .guard⟩ (by simp) rfl))) ?_
      refine Or.inl ⟨rfl, ?_⟩
      have e3 : a.tmps.getD 3 undef = .pointer (some ⟨w0.heap.size + 1, 0, none⟩) := hout 3 (outB_spec (by kernel_rfl))
      have CC := SOF.out w hG; obtain ⟨C0, C1, C2, C3, D0, D1, D2, D3, E0, E1, E2, E3, F0, F1, F2, F3, G0, G1, G2⟩ := CC
      refine Does.val (.agg #[.slice A2 n2 c2, .bool s2, .slice B2 m2 d2, .bool f2]) (w' := w) ?_ ⟨Below.refl _ _, rfl, hG⟩
      go_simp
    · intro listed σ w a hin hout hl hc hp hG hF
      refine Guarded.some (d := 56) (b := true) rfl rfl ((hin 22 56 rfl (hp ⟨22, .guard⟩ (by simp) rfl)).trans (hF 22 (hp ⟨22, .guard⟩ (by simp) rfl))) ?_
      refine Or.inl ⟨rfl, ?_⟩
      have e57 : a.tmps.getD 57 undef = .agg #[.slice A n c, .bool s, .slice B m d, .bool f1] := (hin 23 57 rfl (hp ⟨23, .data⟩ (by simp) rfl)).trans (hF 23 (hp ⟨23, .data⟩ (by simp) rfl))
      have e58 : a.tmps.getD 58 undef = .agg #[.slice A2 n2 c2, .bool s2, .slice B2 m2 d2, .bool f2] := (hin 24 58 rfl (hp ⟨24, .data⟩ (by simp) rfl)).trans (hF 24 (hp ⟨24, .data⟩ (by simp) rfl))
      refine Does.call ?_ (HSM.out w hG) ?_
      · go_simp
      · rintro e w' ⟨rfl, hb⟩
        exact ⟨_, rfl, hb, rfl, hG.next hb⟩
    · intro listed σ w a hin hout hl hc hp hG hF
      refine Guarded.some (d := 56) (b := true) rfl rfl ((hin 22 56 rfl (hp ⟨22, .guard⟩ (by simp) rfl)).trans (hF 22 (hp ⟨22, .guard⟩ (by simp) rfl))) ?_
      refine Or.inl ⟨rfl, ?_⟩
      have e9 : a.tmps.getD 9 undef = .int .i64 cz := hout 9 (outB_spec (by kernel_rfl))
      refine Does.val (.int .i64 cz) (w' := w) ?_ ⟨Below.refl _ _, rfl, hG⟩
      simp only [Array.getD_eq_getD_getElem?] at e9
      go_simp
    · intro listed σ w a hin hout hl hc hp hG hF
      refine Guarded.some (d := 56) (b := true) rfl rfl ((hin 22 56 rfl (hp ⟨22, .guard⟩ (by simp) rfl)).trans (hF 22 (hp ⟨22, .guard⟩ (by simp) rfl))) ?_
      refine Or.inl ⟨rfl, ?_⟩
      have e60 : a.tmps.getD 60 undef = .int .i64 cz := (hin 26 60 rfl (hp ⟨26, .data⟩ (by simp) rfl)).trans (hF 26 (hp ⟨26, .data⟩ (by simp) rfl))
      refine Does.val (.bool (cz == 0)) (w' := w) ?_ ⟨Below.refl _ _, rfl, hG⟩
      simp only [Array.getD_eq_getD_getElem?] at e60
      go_simp
    · intro listed σ w a hin hout hl hc hp hG hF
      refine Guarded.some (d := 56) (b := true) rfl rfl ((hin 22 56 rfl (hp ⟨22, .guard⟩ (by simp) rfl)).trans (hF 22 (hp ⟨22, .guard⟩ (by simp) rfl))) ?_
      refine Or.inl ⟨rfl, ?_⟩
      have e59 : a.tmps.getD 59 undef = .bool (cz == 0) := (hin 25 59 rfl (hp ⟨25, .data⟩ (by simp) rfl)).trans (hF 25 (hp ⟨25, .data⟩ (by simp) rfl))
      have e61 : a.tmps.getD 61 undef = .bool (cz == 0) := (hin 27 61 rfl (hp ⟨27, .data⟩ (by simp) rfl)).trans (hF 27 (hp ⟨27, .data⟩ (by simp) rfl))
      refine Does.val (.bool true) (w' := w) ?_ ⟨Below.refl _ _, rfl, hG⟩
      simp only [Array.getD_eq_getD_getElem?] at e59 e61
      go_simp
    · intro listed σ w a hin hout hl hc hp hG hF
      refine Guarded.none rfl ?_
      have e56 : a.tmps.getD 56 undef = .bool true := (hin 22 56 rfl (hp ⟨22, .data⟩ (by simp) rfl)).trans (hF 22 (hp ⟨22, .data⟩ (by simp) rfl))
      have e62 : a.tmps.getD 62 undef = .bool true := (hin 28 62 rfl (hp ⟨28, .data⟩ (by simp) rfl)).trans (hF 28 (hp ⟨28, .data⟩ (by simp) rfl))
      refine Does.val (.bool true) (w' := w) ?_ ⟨Below.refl _ _, rfl, hG⟩
      simp only [Array.getD_eq_getD_getElem?] at e56 e62
      go_simp
    · intro listed σ w a hin hout hl hc hp hG hF
      refine Guarded.none rfl ?_
      have e63 : a.tmps.getD 63 undef = .bool true := (hin 29 63 rfl (hp ⟨29, .data⟩ (by simp) rfl)).trans (hF 29 (hp ⟨29, .data⟩ (by simp) rfl))
      refine Does.val (.bool true) (w' := w) ?_ ⟨Below.refl _ _, rfl, hG⟩
      simp only [Array.getD_eq_getD_getElem?] at e63
      go_simp
    · intro listed σ w a hin hout hl hc hp hG hF
      refine Guarded.some (d := 64) (b := true) rfl rfl ((hin 30 64 rfl (hp ⟨30, .guard⟩ (by simp) rfl)).trans (hF 30 (hp ⟨30, .guard⟩ (by simp) rfl))) ?_
      refine Or.inl ⟨rfl, ?_⟩
      have e2 : a.tmps.getD 2 undef = .pointer (some ⟨w0.heap.size, 0, none⟩) := hout 2 (outB_spec (by kernel_rfl))
      refine Does.val (.pointer (some ⟨w0.heap.size, 0, none⟩)) (w' := w) ?_ ⟨Below.refl _ _, rfl, hG⟩
      simp only [Array.getD_eq_getD_getElem?] at e2
      go_simp
    · intro listed σ w a hin hout hl hc hp hG hF
      refine Guarded.some (d := 64) (b := true) rfl rfl ((hin 30 64 rfl (hp ⟨30, .guard⟩ (by simp) rfl)).trans (hF 30 (hp ⟨30, .guard⟩ (by simp) rfl))) ?_
      refine Or.inl ⟨rfl, ?_⟩
      have e65 : a.tmps.getD 65 undef = .pointer (some ⟨w0.heap.size, 0, none⟩) := (hin 31 65 rfl (hp ⟨31, .data⟩ (by simp) rfl)).trans (hF 31 (hp ⟨31, .data⟩ (by simp) rfl))
      have CC := SOF.out w hG; obtain ⟨C0, C1, C2, C3, D0, D1, D2, D3, E0, E1, E2, E3, F0, F1, F2, F3, G0, G1, G2⟩ := CC
      refine Does.val (.agg #[.slice A n c, .bool s, .slice B m d]) (w' := w) ?_ ⟨Below.refl _ _, rfl, hG⟩
      go_simp
    · intro listed σ w a hin hout hl hc hp hG hF
      refine Guarded.some (d := 64) (b := true) rfl rfl ((hin 30 64 rfl (hp ⟨30, .guard⟩ (by simp) rfl)).trans (hF 30 (hp ⟨30, .guard⟩ (by simp) rfl))) ?_
      refine Or.inl ⟨rfl, ?_⟩
      have e66 : a.tmps.getD 66 undef = .agg #[.slice A n c, .bool s, .slice B m d] := (hin 32 66 rfl (hp ⟨32, .data⟩ (by simp) rfl)).trans (hF 32 (hp ⟨32, .data⟩ (by simp) rfl))
      refine Does.call ?_ (rzero_any _ L K 12 w ((HTA.out).below hG) (by have := HL.out; omega) (by decide)) ?_
      · go_simp
      · rintro e w' ⟨v, rfl, z, hb⟩
        exact ⟨_, rfl, hb, z, hG.next hb⟩
    · intro listed σ w a hin hout hl hc hp hG hF
      refine Guarded.some (d := 64) (b := true) rfl rfl ((hin 30 64 rfl (hp ⟨30, .guard⟩ (by simp) rfl)).trans (hF 30 (hp ⟨30, .guard⟩ (by simp) rfl))) ?_
      refine Or.inl ⟨rfl, ?_⟩
      have e10 : a.tmps.getD 10 undef = .pointer (some ⟨w8.heap.size, 0, none⟩) := hout 10 (outB_spec (by kernel_rfl))
      have CC := SOF.out w hG; obtain ⟨C0, C1, C2, C3, D0, D1, D2, D3, E0, E1, E2, E3, F0, F1, F2, F3, G0, G1, G2⟩ := CC
      refine Does.val (.agg #[.slice Ap np cp, .bool sp, .slice Bp mp dp]) (w' := w) ?_ ⟨Below.refl _ _, rfl, hG⟩
      go_simp
    · intro listed σ w a hin hout hl hc hp hG hF
      refine Guarded.some (d := 64) (b := true) rfl rfl ((hin 30 64 rfl (hp ⟨30, .guard⟩ (by simp) rfl)).trans (hF 30 (hp ⟨30, .guard⟩ (by simp) rfl))) ?_
      refine Or.inl ⟨rfl, ?_⟩
      have e68 : a.tmps.getD 68 undef = .agg #[.slice Ap np cp, .bool sp, .slice Bp mp dp] := (hin 34 68 rfl (hp ⟨34, .data⟩ (by simp) rfl)).trans (hF 34 (hp ⟨34, .data⟩ (by simp) rfl))
      refine Does.val (.agg #[.slice Ap np cp, .bool sp, .slice Bp mp dp, .bool true]) (w' := w) ?_ ⟨Below.refl _ _, rfl, hG⟩
      simp only [Array.getD_eq_getD_getElem?] at e68
      go_simp
    · intro listed σ w a hin hout hl hc hp hG hF
      refine Guarded.some (d := 64) (b := true) rfl rfl ((hin 30 64 rfl (hp ⟨30, .guard⟩ (by simp) rfl)).trans (hF 30 (hp ⟨30, .guard⟩ (by simp) rfl))) ?_
      refine Or.inl ⟨rfl, ?_⟩
      have e67 := hin 33 67 rfl (hp ⟨33, .data⟩ (by simp) rfl)
      have z33 := hF 33 (hp ⟨33, .data⟩ (by simp) rfl)
      have e69 : a.tmps.getD 69 undef = .agg #[.slice Ap np cp, .bool sp, .slice Bp mp dp, .bool true] := (hin 35 69 rfl (hp ⟨35, .data⟩ (by simp) rfl)).trans (hF 35 (hp ⟨35, .data⟩ (by simp) rfl))
      refine Does.call ?_ (r4same_yes _ _ (norm L) K true (12 + L.length) (12 + L.length) w z33 ⟨_, _, _, _, _, _, _, rfl, HP.out.below hG⟩ (by have := HNL.out; have := HL.out; omega)) ?_
      · go_simp
      · rintro e w' ⟨rfl, hb⟩
        exact ⟨_, rfl, hb, rfl, hG.next hb⟩
    · intro listed σ w a hin hout hl hc hp hG hF
      refine Guarded.none rfl ?_
      have e64 : a.tmps.getD 64 undef = .bool true := (hin 30 64 rfl (hp ⟨30, .data⟩ (by simp) rfl)).trans (hF 30 (hp ⟨30, .data⟩ (by simp) rfl))
      have e70 : a.tmps.getD 70 undef = .bool true := (hin 36 70 rfl (hp ⟨36, .data⟩ (by simp) rfl)).trans (hF 36 (hp ⟨36, .data⟩ (by simp) rfl))
      refine Does.val (.bool true) (w' := w) ?_ ⟨Below.refl _ _, rfl, hG⟩
      simp only [Array.getD_eq_getD_getElem?] at e64 e70
      go_simp
    · intro listed σ w a hin hout hl hc hp hG hF
      refine Guarded.none rfl ?_
      have e71 : a.tmps.getD 71 undef = .bool true := (hin 37 71 rfl (hp ⟨37, .data⟩ (by simp) rfl)).trans (hF 37 (hp ⟨37, .data⟩ (by simp) rfl))
      refine Does.val (.bool true) (w' := w) ?_ ⟨Below.refl _ _, rfl, hG⟩
      simp only [Array.getD_eq_getD_getElem?] at e71
      go_simp
    · intro listed σ w a hin hout hl hc hp hG hF
      refine Guarded.some (d := 72) (b := true) rfl rfl ((hin 38 72 rfl (hp ⟨38, .guard⟩ (by simp) rfl)).trans (hF 38 (hp ⟨38, .guard⟩ (by simp) rfl))) ?_
      refine Or.inl ⟨rfl, ?_⟩
      have e2 : a.tmps.getD 2 undef = .pointer (some ⟨w0.heap.size, 0, none⟩) := hout 2 (outB_spec (by kernel_rfl))
      refine Does.val (.pointer (some ⟨w0.heap.size, 0, none⟩)) (w' := w) ?_ ⟨Below.refl _ _, rfl, hG⟩
      simp only [Array.getD_eq_getD_getElem?] at e2
      go_simp
    · intro listed σ w a hin hout hl hc hp hG hF
      refine Guarded.some (d := 72) (b := true) rfl rfl ((hin 38 72 rfl (hp ⟨38, .guard⟩ (by simp) rfl)).trans (hF 38 (hp ⟨38, .guard⟩ (by simp) rfl))) ?_
      refine Or.inl ⟨rfl, ?_⟩
      have e73 : a.tmps.getD 73 undef = .pointer (some ⟨w0.heap.size, 0, none⟩) := (hin 39 73 rfl (hp ⟨39, .data⟩ (by simp) rfl)).trans (hF 39 (hp ⟨39, .data⟩ (by simp) rfl))
      have CC := SOF.out w hG; obtain ⟨C0, C1, C2, C3, D0, D1, D2, D3, E0, E1, E2, E3, F0, F1, F2, F3, G0, G1, G2⟩ := CC
      refine Does.val (.agg #[.slice A n c, .bool s, .slice B m d]) (w' := w) ?_ ⟨Below.refl _ _, rfl, hG⟩
      go_simp
    · intro listed σ w a hin hout hl hc hp hG hF
      refine Guarded.some (d := 72) (b := true) rfl rfl ((hin 38 72 rfl (hp ⟨38, .guard⟩ (by simp) rfl)).trans (hF 38 (hp ⟨38, .guard⟩ (by simp) rfl))) ?_
      refine Or.inl ⟨rfl, ?_⟩
      have e74 : a.tmps.getD 74 undef = .agg #[.slice A n c, .bool s, .slice B m d] := (hin 40 74 rfl (hp ⟨40, .data⟩ (by simp) rfl)).trans (hF 40 (hp ⟨40, .data⟩ (by simp) rfl))
      refine Does.call ?_ (rleast_any _ L K 12 w ((HTA.out).below hG) (by have := HL.out; omega) (by decide)) ?_
      · go_simp
      · rintro e w' ⟨v, rfl, z, hb⟩
        exact ⟨_, rfl, hb, z, hG.next hb⟩
    · intro listed σ w a hin hout hl hc hp hG hF
      refine Guarded.some (d := 72) (b := true) rfl rfl ((hin 38 72 rfl (hp ⟨38, .guard⟩ (by simp) rfl)).trans (hF 38 (hp ⟨38, .guard⟩ (by simp) rfl))) ?_
      refine Or.inl ⟨rfl, ?_⟩
      have e10 : a.tmps.getD 10 undef = .pointer (some ⟨w8.heap.size, 0, none⟩) := hout 10 (outB_spec (by kernel_rfl))
      have CC := SOF.out w hG; obtain ⟨C0, C1, C2, C3, D0, D1, D2, D3, E0, E1, E2, E3, F0, F1, F2, F3, G0, G1, G2⟩ := CC
      refine Does.val (.agg #[.slice Ap np cp, .bool sp, .slice Bp mp dp]) (w' := w) ?_ ⟨Below.refl _ _, rfl, hG⟩
      go_simp
    · intro listed σ w a hin hout hl hc hp hG hF
      refine Guarded.some (d := 72) (b := true) rfl rfl ((hin 38 72 rfl (hp ⟨38, .guard⟩ (by simp) rfl)).trans (hF 38 (hp ⟨38, .guard⟩ (by simp) rfl))) ?_
      refine Or.inl ⟨rfl, ?_⟩
      have e76 : a.tmps.getD 76 undef = .agg #[.slice Ap np cp, .bool sp, .slice Bp mp dp] := (hin 42 76 rfl (hp ⟨42, .data⟩ (by simp) rfl)).trans (hF 42 (hp ⟨42, .data⟩ (by simp) rfl))
      refine Does.val (.agg #[.slice Ap np cp, .bool sp, .slice Bp mp dp, .bool false]) (w' := w) ?_ ⟨Below.refl _ _, rfl, hG⟩
      simp only [Array.getD_eq_getD_getElem?] at e76
      go_simp
    · intro listed σ w a hin hout hl hc hp hG hF
      refine Guarded.some (d := 72) (b := true) rfl rfl ((hin 38 72 rfl (hp ⟨38, .guard⟩ (by simp) rfl)).trans (hF 38 (hp ⟨38, .guard⟩ (by simp) rfl))) ?_
      refine Or.inl ⟨rfl, ?_⟩
      have e75 := hin 41 75 rfl (hp ⟨41, .data⟩ (by simp) rfl)
      have z41 := hF 41 (hp ⟨41, .data⟩ (by simp) rfl)
      have e77 : a.tmps.getD 77 undef = .agg #[.slice Ap np cp, .bool sp, .slice Bp mp dp, .bool false] := (hin 43 77 rfl (hp ⟨43, .data⟩ (by simp) rfl)).trans (hF 43 (hp ⟨43, .data⟩ (by simp) rfl))
      refine Does.call ?_ (r4same_yes _ _ (norm L) K false (12 + L.length) (12 + L.length) w z41 ⟨_, _, _, _, _, _, _, rfl, HP.out.below hG⟩ (by have := HNL.out; have := HL.out; omega)) ?_
      · go_simp
      · rintro e w' ⟨rfl, hb⟩
        exact ⟨_, rfl, hb, rfl, hG.next hb⟩
    · intro listed σ w a hin hout hl hc hp hG hF
      refine Guarded.none rfl ?_
      have e72 : a.tmps.getD 72 undef = .bool true := (hin 38 72 rfl (hp ⟨38, .data⟩ (by simp) rfl)).trans (hF 38 (hp ⟨38, .data⟩ (by simp) rfl))
      have e78 : a.tmps.getD 78 undef = .bool true := (hin 44 78 rfl (hp ⟨44, .data⟩ (by simp) rfl)).trans (hF 44 (hp ⟨44, .data⟩ (by simp) rfl))
      refine Does.val (.bool true) (w' := w) ?_ ⟨Below.refl _ _, rfl, hG⟩
      simp only [Array.getD_eq_getD_getElem?] at e72 e78
      go_simp
    · intro listed σ w a hin hout hl hc hp hG hF
      refine Guarded.none rfl ?_
      have e79 : a.tmps.getD 79 undef = .bool true := (hin 45 79 rfl (hp ⟨45, .data⟩ (by simp) rfl)).trans (hF 45 (hp ⟨45, .data⟩ (by simp) rfl))
      refine Does.val (.bool true) (w' := w) ?_ ⟨Below.refl _ _, rfl, hG⟩
      simp only [Array.getD_eq_getD_getElem?] at e79
      go_simp
  · intro listed σ W9 hall hG hF
    rw [show mid _ σ listed _ = (Act.put (Act.put (Act.put (Act.put (Act.put (Act.put (Act.put (Act.put (Act.put (Act.put (Act.put (Act.put (Act.put (Act.put (Act.put (Act.put (Act.put (Act.put (Act.put (Act.put (Act.put (Act.put (Act.put (Act.put (Act.put (Act.put (Act.put (Act.put (Act.put (Act.put (Act.put (Act.put (Act.put (Act.put (Act.put (Act.put (Act.put (Act.put (Act.put (Act.put (Act.put (Act.put (Act.put (Act.put (Act.put (Act.put (Act.put _ (some 34) (σ 0)) (some 35) (σ 1)) (some 36) (σ 2)) (some 37) (σ 3)) (some 38) (σ 4)) (some 39) (σ 5)) (some 40) (σ 6)) (some 41) (σ 7)) (some 42) (σ 8)) (some 43) (σ 9)) (some 44) (σ 10)) (some 45) (σ 11)) (some 46) (σ 12)) (some 47) (σ 13)) (some 48) (σ 14)) (some 49) (σ 15)) (some 50) (σ 16)) (some 51) (σ 17)) (some 52) (σ 18)) (some 53) (σ 19)) (some 54) (σ 20)) (some 55) (σ 21)) (some 56) (σ 22)) (some 57) (σ 23)) (some 58) (σ 24)) (some 59) (σ 25)) (some 60) (σ 26)) (some 61) (σ 27)) (some 62) (σ 28)) (some 63) (σ 29)) (some 64) (σ 30)) (some 65) (σ 31)) (some 66) (σ 32)) (some 67) (σ 33)) (some 68) (σ 34)) (some 69) (σ 35)) (some 70) (σ 36)) (some 71) (σ 37)) (some 72) (σ 38)) (some 73) (σ 39)) (some 74) (σ 40)) (some 75) (σ 41)) (some 76) (σ 42)) (some 77) (σ 43)) (some 78) (σ 44)) (some 79) (σ 45)) (some 4) (σ 46)) from (mid_all hall).trans rfl]
    generalize σ 0 = tt0
    generalize σ 1 = tt1
    generalize σ 2 = tt2
    generalize σ 3 = tt3
    generalize σ 4 = tt4
    generalize σ 5 = tt5
    generalize σ 6 = tt6
    generalize σ 7 = tt7
    generalize σ 8 = tt8
    generalize σ 9 = tt9
    generalize σ 10 = tt10
    generalize σ 11 = tt11
    generalize σ 12 = tt12
    generalize σ 13 = tt13
    generalize σ 14 = tt14
    generalize σ 15 = tt15
    generalize σ 16 = tt16
    generalize σ 17 = tt17
    generalize σ 18 = tt18
    generalize σ 19 = tt19
    generalize σ 20 = tt20
    generalize σ 21 = tt21
    generalize σ 22 = tt22
    generalize σ 23 = tt23
    generalize σ 24 = tt24
    generalize σ 25 = tt25
    generalize σ 26 = tt26
    generalize σ 27 = tt27
    generalize σ 28 = tt28
    generalize σ 29 = tt29
    generalize σ 30 = tt30
    generalize σ 31 = tt31
    generalize σ 32 = tt32
    generalize σ 33 = tt33
    generalize σ 34 = tt34
    generalize σ 35 = tt35
    generalize σ 36 = tt36
    generalize σ 37 = tt37
    generalize σ 38 = tt38
    generalize σ 39 = tt39
    generalize σ 40 = tt40
    generalize σ 41 = tt41
    generalize σ 42 = tt42
    generalize σ 43 = tt43
    generalize σ 44 = tt44
    generalize σ 45 = tt45
    rw [show σ 46 = .bool true from hF 46 (by decide)]
    simp only [Act.put, List.setIfInBounds_toArray, List.set_cons_zero, List.set_cons_succ]
    have TG := hG
    clear hF hG hall
    clear σ
    go_wp2_with fail
    go_ret
    exact ⟨rfl, T7.out.next TG⟩
end Go.Proofs.YtdeakieenppmiaaGreatDoor
