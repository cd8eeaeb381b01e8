/- Texts of one seat, put together: TermApart. -/
import Derived.Test.YtakcgkohnomgjaaGreatDoorD41
import Derived.Test.YtakcgkohnomgjaaGreatDoorD42
import Derived.Test.YtakcgkohnomgjaaGreatDoorD43
set_option linter.unusedVariables false
set_option linter.unusedSimpArgs false
/- TermApart: the walk. -/
namespace Go.Proofs.YtakcgkohnomgjaaGreatDoor
open Go.RowKit
open Tm

theorem TIn.parts {w : World} {A B : Option Addr} {n c m d k : Nat} {s : Bool} {L : List (Int × Int)} {K : Int} (h : TIn w (.agg #[.slice A n c, .bool s, .slice B m d]) L K k) : PIn w A n L k := by
  obtain ⟨A', n', c', s', B', m', d', e, h1, h2, h3, h4⟩ := h
  have e2 : A' = A ∧ n' = n ∧ c' = c ∧ s' = s ∧ B' = B ∧ m' = m ∧ d' = d := by simpa [eq_comm, and_assoc] using e
  obtain ⟨rfl, rfl, rfl, rfl, rfl, rfl, rfl⟩ := e2
  exact h1
theorem ValsIn.nothing (w : World) (k : Nat) : ValsIn w none 0 [] k := ⟨rfl, fun h => absurd h (by omega), fun p hp => by simp at hp⟩
set_option maxRecDepth 100000 in
set_option maxHeartbeats 8000000 in
theorem termApart_walk (v : Value) (L : List (Int × Int)) (K : Int) (u : Value) (M : List (Int × Int)) (KM : Int) (w0 : World) (hv : TIn w0 v L K big) (hu : TIn w0 u M KM big) : Calls Tryz.prog 6 #[v, u] w0 (YesPost w0) := by
  have hv0 := hv
  have hu0 := hu
  obtain ⟨A, n, c, s, B, m, d, rfl, hp, hc1, hc2, hK⟩ := hv
  obtain ⟨A2, n2, c2, s2, B2, m2, d2, rfl, hp2, hd1, hd2, hK2⟩ := hu
  have HLn := hide hp.len
  have HLn2 := hide hp2.len
  obtain ⟨z0, z1, z2, -⟩ := bstart2 28 28 w0 #[.slice A n c, .bool s, .slice B m d] #[.slice A2 n2 c2, .bool s2, .slice B2 m2 d2]
  have H1 := hide hv0
  have H2 := hide hu0
  clear hv0 hu0 hp hp2 hK hK2
  go_enter Tryz.func6, Tryz.ntmps6
  go_wp2_with fail
  refine (looking_yes _).mono ?_
  rintro e w1 ⟨rfl, b1⟩
  have q0 := z0.next b1
  have q1 := z1.next b1
  have T1 := hide (z2.next b1)
  have x0 := q0.c0
  have x1 := q0.c1
  have x2 := q0.c2
  have y0 := q1.c0
  have y1 := q1.c1
  have y2 := q1.c2
  have Q0 := hide q0
  have Q1 := hide q1
  clear z0 z1 z2 b1 q0 q1
  have bA := bl_alloc w1 (.cells #[.slice A n c, .bool s, .slice B m d, .slice A2 n2 c2, .bool s2, .slice B2 m2 d2] 28)
  have hbx : Box 28 (w1.alloc (.cells #[.slice A n c, .bool s, .slice B m d, .slice A2 n2 c2, .bool s2, .slice B2 m2 d2] 28)) w1.heap.size (flatT [⟨A, n, c, s, B, m, d, L, K⟩, ⟨A2, n2, c2, s2, B2, m2, d2, M, KM⟩]).toArray := Box.new _ _ _
  have hfw := few_any (some ⟨w1.heap.size, 0, none⟩) 2 2 _ _ (TermsIn.box (k := big) hbx (fun t ht => by
    simp only [List.mem_cons, List.not_mem_nil, or_false] at ht
    rcases ht with rfl | rfl
    · exact (H1.out.below T1.out).below bA
    · exact (H2.out.below T1.out).below bA)) (by decide)
  go_wp2_with fail
  refine hfw.mono ?_
  rintro e w2 ⟨r, rfl, hr, b2⟩
  have t2 := bA.next b2
  have q0 := Q0.out.next t2
  have q1 := Q1.out.next t2
  have T2 := hide (T1.out.next t2)
  have QQ0 := hide q0
  have QQ1 := hide q1
  have HR := hide hr
  have HB2 := hide b2
  clear x0 x1 x2 y0 y1 y2 hfw hbx t2 q0 q1 hr b2 bA
  cases r with
  | false =>
    go_wp2_with fail
    go_ret
    exact ⟨rfl, T2.out⟩
  | true =>
    have F1 := hide (HR.out rfl ⟨A, n, c, s, B, m, d, L, K⟩ (by simp))
    have F2 := hide (HR.out rfl ⟨A2, n2, c2, s2, B2, m2, d2, M, KM⟩ (by simp))
    have HA := hide (show TIn w2 (.agg #[.slice A n c, .bool s, .slice B m d]) L K 20 from F1.out.2.below HB2.out)
    have HB := hide (show TIn w2 (.agg #[.slice A2 n2 c2, .bool s2, .slice B2 m2 d2]) M KM 20 from F2.out.2.below HB2.out)
    have HL1 := hide (show L.length ≤ 30 by rw [HLn.out]; exact F1.out.1)
    have HL2 := hide (show M.length ≤ 30 by rw [HLn2.out]; exact F2.out.1)
    obtain ⟨ps, hps, hlp⟩ := (TIn.parts HA.out)
    obtain ⟨qs, hqs, hlq⟩ := (TIn.parts HB.out)
    have HPP := hide hps
    have HQQ := hide hqs
    have HLP := hide hlp
    have HLQ := hide hlq
    have hpl : ps.length = n := hps.1
    have hql : qs.length = n2 := hqs.1
    have hn30 : n ≤ 30 := by have := HL1.out; have := HLn.out; omega
    have hm30 : n2 ≤ 30 := by have := HL2.out; have := HLn2.out; omega
    clear hps hqs hlp hlq
    go_wp2_with fail
    have SOF := hide (show ∀ W, Below w2.heap.size w2 W → (W.cell? ⟨w0.heap.size, 0, none⟩ = some (.slice A n c) ∧ W.cell? ⟨w0.heap.size + 1, 0, none⟩ = some (.slice A2 n2 c2)) from fun W h => ⟨(QQ0.out.next h).c0, (QQ1.out.next h).c0⟩)
    refine wp_drawn (by kernel_rfl) (by kernel_rfl) (by kernel_rfl) (fun _ _ => True) (fun j v w => match j with | 0 => True | 1 => v = .pointer (some ⟨w0.heap.size, 0, none⟩) | 2 => v = .slice A n c | 3 => True | 4 => v = .pointer (some ⟨w0.heap.size + 1, 0, none⟩) | 5 => v = .slice A2 n2 c2 | 6 => ∃ A c, v = .slice A (ps ++ qs).length c | 7 => v = .int .i64 ((ps ++ qs).length : Nat) | 8 => v = .int .i64 0 | _ => True) (GL w2 9 0 3 6 ps qs) ?_ (fun _ => GL.start (bl_drewN w2 1)) ?_ ?_
    · intro j v w w' hT h
      match j, h with
      | 0, h => exact trivial
      | 1, h => exact h
      | 2, h => exact h
      | 3, h => exact trivial
      | 4, h => exact h
      | 5, h => exact h
      | 6, h => exact h
      | 7, h => exact h
      | 8, h => exact h
      | j + 9, h => trivial
    · refine ⟨?_, ?_, ?_, ?_, ?_, ?_, ?_, ?_, ?_, trivial⟩
      · intro listed σ w a hin hout hl hc hp hG hF
        refine Guarded.none rfl ?_
        have hl1 := un_next (k := 3) hc hl (by kernel_rfl)
        have hl2 := un_next (k := 6) hc hl1 (by kernel_rfl)
        refine Does.val (.slice (some ⟨w.heap.size, 0, none⟩) 0 0) (w' := w.alloc (.cells #[] 55)) ?_ ⟨trivial, trivial, GL.made hG.1 hl1 hl2 (by decide) (by decide) (hG.2.1.next (bl_alloc _ _)) (LRow.made #[] 0 hG.2.1.size (by unfold maxLen; omega) rfl (fun u hu => by simp at hu))⟩
        go_simp
      · intro listed σ w a hin hout hl hc hp hG hF
        refine Guarded.none rfl ?_
        have e2 : a.tmps.getD 2 undef = .pointer (some ⟨w0.heap.size, 0, none⟩) := hout 2 (outB_spec (by kernel_rfl))
        refine Does.val (.pointer (some ⟨w0.heap.size, 0, none⟩)) (w' := w) ?_ ⟨trivial, rfl, hG.same (by decide) (by decide) (by decide)⟩
        simp only [Array.getD_eq_getD_getElem?] at e2
        go_simp
      · intro listed σ w a hin hout hl hc hp hG hF
        refine Guarded.none rfl ?_
        have e18 : a.tmps.getD 18 undef = .pointer (some ⟨w0.heap.size, 0, none⟩) := (hin 1 18 rfl (hp ⟨1, .data⟩ (by simp) rfl)).trans (hF 1 (hp ⟨1, .data⟩ (by simp) rfl))
        have CC := SOF.out w hG.2.1; obtain ⟨C0, D0⟩ := CC
        refine Does.val (.slice A n c) (w' := w) ?_ ⟨trivial, rfl, hG.same (by decide) (by decide) (by decide)⟩
        go_simp
      · intro listed σ w a hin hout hl hc hp hG hF
        refine Guarded.none rfl ?_
        have e17 := hin 0 17 rfl (hp ⟨0, .data⟩ (by simp) rfl)
        have z0 := hF 0 (hp ⟨0, .data⟩ (by simp) rfl)
        have e19 : a.tmps.getD 19 undef = .slice A n c := (hin 2 19 rfl (hp ⟨2, .data⟩ (by simp) rfl)).trans (hF 2 (hp ⟨2, .data⟩ (by simp) rfl))
        have LR := hG.2.2.1 (hp ⟨0, .data⟩ (by simp) rfl) hl
        obtain ⟨v', w', hr, h2, h3⟩ := run_append_partsA w w2.heap.size 22 (σ 0) [] LR A n c 20 ps (HPP.out.below hG.2.1) ((by simp at *; omega)) hG.2.1.size
        have hb := LR.old hG.2.1 h3 (Nat.le_refl _) (Nat.le_refl _)
        have hl2 := un_next (k := 6) hc hl (by kernel_rfl)
        refine Does.val v' (w' := w') ?_ ⟨trivial, trivial, GL.one hG.1 hl2 (by decide) (by decide) hb h2⟩
        exact exec_append rfl e17 e19 hr
      · intro listed σ w a hin hout hl hc hp hG hF
        refine Guarded.none rfl ?_
        have e3 : a.tmps.getD 3 undef = .pointer (some ⟨w0.heap.size + 1, 0, none⟩) := hout 3 (outB_spec (by kernel_rfl))
        refine Does.val (.pointer (some ⟨w0.heap.size + 1, 0, none⟩)) (w' := w) ?_ ⟨trivial, rfl, hG.same (by decide) (by decide) (by decide)⟩
        simp only [Array.getD_eq_getD_getElem?] at e3
        go_simp
      · intro listed σ w a hin hout hl hc hp hG hF
        refine Guarded.none rfl ?_
        have e21 : a.tmps.getD 21 undef = .pointer (some ⟨w0.heap.size + 1, 0, none⟩) := (hin 4 21 rfl (hp ⟨4, .data⟩ (by simp) rfl)).trans (hF 4 (hp ⟨4, .data⟩ (by simp) rfl))
        have CC := SOF.out w hG.2.1; obtain ⟨C0, D0⟩ := CC
        refine Does.val (.slice A2 n2 c2) (w' := w) ?_ ⟨trivial, rfl, hG.same (by decide) (by decide) (by decide)⟩
        go_simp
      · intro listed σ w a hin hout hl hc hp hG hF
        refine Guarded.none rfl ?_
        have e20 := hin 3 20 rfl (hp ⟨3, .data⟩ (by simp) rfl)
        have z3 := hF 3 (hp ⟨3, .data⟩ (by simp) rfl)
        have e22 : a.tmps.getD 22 undef = .slice A2 n2 c2 := (hin 5 22 rfl (hp ⟨5, .data⟩ (by simp) rfl)).trans (hF 5 (hp ⟨5, .data⟩ (by simp) rfl))
        have LR := hG.2.2.2.1 (hp ⟨3, .data⟩ (by simp) rfl) hl
        obtain ⟨v', w', hr, h2, h3⟩ := run_append_partsA w w2.heap.size 22 (σ 3) ps LR A2 n2 c2 20 qs (HQQ.out.below hG.2.1) ((by simp at *; omega)) hG.2.1.size
        have hb := LR.old hG.2.1 h3 (Nat.le_refl _) (Nat.le_refl _)
        obtain ⟨A9, c9, ev9, -, -, -⟩ := h2.len
        refine Does.val v' (w' := w') ?_ ⟨trivial, ⟨A9, c9, ev9⟩, GL.two hG.1 (hp ⟨3, .data⟩ (by simp) rfl) (by decide) (by decide) hb h2⟩
        exact exec_append rfl e20 e22 hr
      · intro listed σ w a hin hout hl hc hp hG hF
        refine Guarded.none rfl ?_
        have e23 := hin 6 23 rfl (hp ⟨6, .data⟩ (by simp) rfl)
        obtain ⟨A6, c6, ev6⟩ := hF 6 (hp ⟨6, .data⟩ (by simp) rfl)
        rw [ev6] at e23
        refine Does.val (.int .i64 ((ps ++ qs).length : Nat)) (w' := w) ?_ ⟨trivial, rfl, hG.same (by decide) (by decide) (by decide)⟩
        simp only [Array.getD_eq_getD_getElem?] at e23
        go_simp
      · intro listed σ w a hin hout hl hc hp hG hF
        refine Guarded.none rfl ?_
        refine Does.val (.int .i64 0) (w' := w) ?_ ⟨trivial, rfl, hG.same (by decide) (by decide) (by decide)⟩
        go_simp
    · intro listed σ W9 hall hG hF
      obtain ⟨A6, c6, ev6⟩ := hF 6 (by decide)
      have HJ := hide (show LRow 55 3 W9 w2.heap.size (.slice A6 (ps ++ qs).length c6) (ps ++ qs).length (flat (ps ++ qs)) from by rw [← ev6]; exact hG.2.2.2.2 (hall 6 (by decide)))
      rw [show mid _ σ listed _ = (Act.put (Act.put (Act.put (Act.put (Act.put (Act.put (Act.put (Act.put (Act.put _ (some 17) (σ 0)) (some 18) (σ 1)) (some 19) (σ 2)) (some 20) (σ 3)) (some 21) (σ 4)) (some 22) (σ 5)) (some 23) (σ 6)) (some 24) (σ 7)) (some 25) (σ 8)) from (mid_all hall).trans rfl]
      generalize σ 0 = tt0
      generalize σ 1 = tt1
      generalize σ 2 = tt2
      generalize σ 3 = tt3
      generalize σ 4 = tt4
      generalize σ 5 = tt5
      rw [ev6]
      rw [show σ 7 = .int .i64 ((ps ++ qs).length : Nat) from hF 7 (by decide)]
      rw [show σ 8 = .int .i64 0 from hF 8 (by decide)]
      simp only [Act.put, List.setIfInBounds_toArray, List.set_cons_zero, List.set_cons_succ]
      have TG := hG.2.1
      clear ev6 hF hG hall
      clear σ
      have HPJ := hide (HJ.out.parts (k := 20) rfl (fun p hp => by
        rcases List.mem_append.1 hp with h | h
        · exact (HPP.out.2.2 p h).below TG
        · exact (HQQ.out.2.2 p h).below TG))
      have HT9 := hide (T2.out.next TG)
      have HA := hide (HA.out.below TG)
      have HB := hide (HB.out.below TG)
      have QQ0 := hide (QQ0.out.next TG)
      have QQ1 := hide (QQ1.out.next TG)
      have hN30 : (ps ++ qs).length ≤ 60 := by rw [List.length_append]; omega
      clear TG SOF HJ
      have HS := hide (show ∀ p ∈ (ps ++ qs).take 0, p.v ≤ 40 from fun p hp => by simp at hp)
      have HS1 := hide (Below.refl W9.heap.size W9)
      generalize hNN : (ps ++ qs).length = N at *
      have HNN := hide hNN
      clear hNN
      go_wp2_with fail
      go_loopw [25] (fun i wr => ∃ q : Nat, q ≤ N ∧ i = .int .i64 q ∧ Hid (∀ p ∈ (ps ++ qs).take q, p.v ≤ 40) ∧ Hid (Below W9.heap.size W9 wr)) (fun i _ => N - (intOf i).toNat)
      case atStart => exact ⟨0, Nat.zero_le _, rfl, HS, HS1⟩
      case round =>
        obtain ⟨q, hq, rfl, HGr, HBr⟩ := hrel
        by_cases hqn : q < N
        · obtain ⟨bb, o, p, rfl, hlt, hu, d0, d1, d2, hz⟩ := (HPJ.out.below HBr.out).at3 hqn
          have HU := hide hu
          clear hz hu
          by_cases hp40 : (40 : Int) < p.v
          · go_wp2_with fail
            go_ret
            exact ⟨rfl, (HT9.out.next HBr.out).next (bl_alloc _ _)⟩
          · go_wp2_with fail
            go_roundw
            case rel => exact ⟨q + 1, by omega, by go_num, hide (fun x hx => by
              rw [List.take_add_one, HU.out] at hx
              rcases List.mem_append.1 hx with hx | hx
              · exact HGr.out x hx
              · simp at hx; subst hx; omega), hide (HBr.out.next (bl_alloc _ _))⟩
            case measure => simp [intOf] <;> omega
        obtain rfl : q = N := by omega
        have HALL := hide (show ∀ p ∈ ps ++ qs, p.v ≤ 40 from fun p hp => HGr.out p (by rw [List.take_of_length_le (by rw [HNN.out]; exact Nat.le_refl _)]; exact hp))
        have HTr := hide (HT9.out.next HBr.out)
        have HA := hide (HA.out.below HBr.out)
        have HB := hide (HB.out.below HBr.out)
        have QQ0 := hide (QQ0.out.next HBr.out)
        have QQ1 := hide (QQ1.out.next HBr.out)
        have HFL := hide (show ∀ p ∈ L, p.1 ≤ 40 from fun p hp => by
          rw [← HLP.out] at hp
          obtain ⟨x, hx, rfl⟩ := List.mem_map.1 hp
          exact HALL.out x (List.mem_append_left _ hx))
        have HFM := hide (show ∀ p ∈ M, p.1 ≤ 40 from fun p hp => by
          rw [← HLQ.out] at hp
          obtain ⟨x, hx, rfl⟩ := List.mem_map.1 hp
          exact HALL.out x (List.mem_append_right _ hx))
        clear HGr HBr HS HS1
        have HCM := hide (fun W (v u : Value) (X Y : Int) (kx ky : Nat) (z : ZRes W v X kx) (y : ZRes W u Y ky) (h : kx ≤ 100 ∧ ky ≤ 100) => (show Calls Tryz.prog 40 #[v, u] W (fun e w' => e = .returned (.int .i64 (sgn3 X Y)) ∧ Below W.heap.size W w') from rzcmp_z v u X Y 100 W (z.in_.mono h.1) (y.in_.mono h.2) (by decide)))
        have SOF := hide (show ∀ W, Below wr.heap.size wr W → (W.cell? ⟨w0.heap.size, 0, none⟩ = some (.slice A n c) ∧ W.cell? ⟨w0.heap.size, 1, none⟩ = some (.bool s) ∧ W.cell? ⟨w0.heap.size, 2, none⟩ = some (.slice B m d) ∧ W.cell? ⟨w0.heap.size + 1, 0, none⟩ = some (.slice A2 n2 c2) ∧ W.cell? ⟨w0.heap.size + 1, 1, none⟩ = some (.bool s2) ∧ W.cell? ⟨w0.heap.size + 1, 2, none⟩ = some (.slice B2 m2 d2)) from fun W h => ⟨(QQ0.out.next h).c0, (QQ0.out.next h).c1, (QQ0.out.next h).c2, (QQ1.out.next h).c0, (QQ1.out.next h).c1, (QQ1.out.next h).c2⟩)
        obtain ⟨z0, hz0⟩ : ∃ z0, z0 = sgn3 (K + val [] L) (KM + val [] M) := ⟨_, rfl⟩
        have HZ0 := hide (show z0 = 0 ↔ K = KM from by rw [hz0, val_none, val_none, Int.add_zero, Int.add_zero]; exact cmpZ_zero)
        have HZE := hide hz0.symm
        clear hz0
        go_wp2_with fail
        refine wp_drawn (by kernel_rfl) (by kernel_rfl) (by kernel_rfl) (fun w w' => Below w.heap.size w w') (fun j v w => match j with | 0 => v = .agg #[.slice A n c, .bool s, .slice B m d] | 1 => ZRes w v (K + val [] L) (20 + 0 + L.length) | 2 => v = .agg #[.slice A2 n2 c2, .bool s2, .slice B2 m2 d2] | 3 => ZRes w v (KM + val [] M) (20 + 0 + M.length) | 4 => v = .int .i64 z0 | 5 => v = .bool (z0 != 0) | 6 => v = .bool (z0 != 0) | _ => True) (fun _ _ w => Below wr.heap.size wr w) ?_ (fun _ => bl_drewN wr 1) ?_ ?_
        · intro j v w w' hT h
          match j, h with
          | 0, h => exact h
          | 1, h => exact h.below hT
          | 2, h => exact h
          | 3, h => exact h.below hT
          | 4, h => exact h
          | 5, h => exact h
          | 6, h => exact h
          | j + 7, h => trivial
        · refine ⟨?_, ?_, ?_, ?_, ?_, ?_, ?_, trivial⟩
          · intro listed σ w a hin hout hl hc hp hG hF
            refine Guarded.none rfl ?_
            have e2 : a.tmps.getD 2 undef = .pointer (some ⟨w0.heap.size, 0, none⟩) := hout 2 (outB_spec (by kernel_rfl))
            have CC := SOF.out w hG; obtain ⟨C0, C1, C2, D0, D1, D2⟩ := CC
            refine Does.val (.agg #[.slice A n c, .bool s, .slice B m d]) (w' := w) ?_ ⟨Below.refl _ _, rfl, hG⟩
            go_simp
          · intro listed σ w a hin hout hl hc hp hG hF
            refine Guarded.none rfl ?_
            have e33 : a.tmps.getD 33 undef = .agg #[.slice A n c, .bool s, .slice B m d] := (hin 0 33 rfl (hp ⟨0, .data⟩ (by simp) rfl)).trans (hF 0 (hp ⟨0, .data⟩ (by simp) rfl))
            refine Does.call ?_ (tvalue_any _ L K 20 0 none 0 0 [] w (HA.out.below hG) (ValsIn.nothing w 0) (by decide) (by have := HL1.out; omega) (by decide) (by decide)) ?_
            · go_simp
            · rintro e w' ⟨v, rfl, z, hb⟩
              exact ⟨_, rfl, hb, z, hG.next hb⟩
          · intro listed σ w a hin hout hl hc hp hG hF
            refine Guarded.none rfl ?_
            have e3 : a.tmps.getD 3 undef = .pointer (some ⟨w0.heap.size + 1, 0, none⟩) := hout 3 (outB_spec (by kernel_rfl))
            have CC := SOF.out w hG; obtain ⟨C0, C1, C2, D0, D1, D2⟩ := CC
            refine Does.val (.agg #[.slice A2 n2 c2, .bool s2, .slice B2 m2 d2]) (w' := w) ?_ ⟨Below.refl _ _, rfl, hG⟩
            go_simp
          · intro listed σ w a hin hout hl hc hp hG hF
            refine Guarded.none rfl ?_
            have e35 : a.tmps.getD 35 undef = .agg #[.slice A2 n2 c2, .bool s2, .slice B2 m2 d2] := (hin 2 35 rfl (hp ⟨2, .data⟩ (by simp) rfl)).trans (hF 2 (hp ⟨2, .data⟩ (by simp) rfl))
            refine Does.call ?_ (tvalue_any _ M KM 20 0 none 0 0 [] w (HB.out.below hG) (ValsIn.nothing w 0) (by decide) (by have := HL2.out; omega) (by decide) (by decide)) ?_
            · go_simp
            · rintro e w' ⟨v, rfl, z, hb⟩
              exact ⟨_, rfl, hb, z, hG.next hb⟩
          · intro listed σ w a hin hout hl hc hp hG hF
            refine Guarded.none rfl ?_
            have e34 := hin 1 34 rfl (hp ⟨1, .data⟩ (by simp) rfl)
            have z1 := hF 1 (hp ⟨1, .data⟩ (by simp) rfl)
            have e36 := hin 3 36 rfl (hp ⟨3, .data⟩ (by simp) rfl)
            have z3 := hF 3 (hp ⟨3, .data⟩ (by simp) rfl)
            refine Does.call ?_ ((HZE.out ▸ HCM.out w _ _ _ _ _ _ z1 z3 (by have := HL1.out; have := HL2.out; omega))) ?_
            · go_simp
            · rintro e w' ⟨rfl, hb⟩
              exact ⟨_, rfl, hb, rfl, hG.next hb⟩
          · intro listed σ w a hin hout hl hc hp hG hF
            refine Guarded.none rfl ?_
            have e37 : a.tmps.getD 37 undef = .int .i64 z0 := (hin 4 37 rfl (hp ⟨4, .data⟩ (by simp) rfl)).trans (hF 4 (hp ⟨4, .data⟩ (by simp) rfl))
            refine Does.val (.bool (z0 != 0)) (w' := w) ?_ ⟨Below.refl _ _, rfl, hG⟩
            simp only [Array.getD_eq_getD_getElem?] at e37
            go_simp
          · intro listed σ w a hin hout hl hc hp hG hF
            refine Guarded.none rfl ?_
            have e38 : a.tmps.getD 38 undef = .bool (z0 != 0) := (hin 5 38 rfl (hp ⟨5, .data⟩ (by simp) rfl)).trans (hF 5 (hp ⟨5, .data⟩ (by simp) rfl))
            refine Does.val (.bool (z0 != 0)) (w' := w) ?_ ⟨Below.refl _ _, rfl, hG⟩
            simp only [Array.getD_eq_getD_getElem?] at e38
            go_simp
        · intro listed σ Wb hall hG hF
          rw [show mid _ σ listed _ = (Act.put (Act.put (Act.put (Act.put (Act.put (Act.put (Act.put _ (some 33) (σ 0)) (some 34) (σ 1)) (some 35) (σ 2)) (some 36) (σ 3)) (some 37) (σ 4)) (some 38) (σ 5)) (some 7) (σ 6)) from (mid_all hall).trans rfl]
          generalize σ 0 = tt0
          generalize σ 1 = tt1
          generalize σ 2 = tt2
          generalize σ 3 = tt3
          generalize σ 4 = tt4
          generalize σ 5 = tt5
          rw [show σ 6 = .bool (z0 != 0) from hF 6 (by decide)]
          simp only [Act.put, List.setIfInBounds_toArray, List.set_cons_zero, List.set_cons_succ]
          have TG := hG
          clear hF hG hall
          clear σ
          have HTb := hide (HTr.out.next TG)
          have HA := hide (HA.out.below TG)
          have HB := hide (HB.out.below TG)
          have QQ0 := hide (QQ0.out.next TG)
          have QQ1 := hide (QQ1.out.next TG)
          clear TG SOF
          have HS := hide (show (z0 != 0) = true ↔ ¬ (K = KM ∧ ∀ v : Nat, v < 0 → K + coef L v = KM + coef M v) from by
            rw [bne_iff_ne]
            exact ⟨fun h hh => h (HZ0.out.2 hh.1), fun h hh => h ⟨HZ0.out.1 hh, fun v hv => absurd hv (Nat.not_lt_zero v)⟩⟩)
          have HS1 := hide (Below.refl Wb.heap.size Wb)
          go_wp2_with fail
          go_loopw [7, 8] (fun b i wr => ∃ (q : Nat) (bb : Bool), q ≤ 41 ∧ i = .int .i64 q ∧ b = .bool bb ∧ Hid (bb = true ↔ ¬ (K = KM ∧ ∀ v : Nat, v < q → K + coef L v = KM + coef M v)) ∧ Hid (Below Wb.heap.size Wb wr)) (fun _ i _ => 41 - (intOf i).toNat)
          case atStart => exact ⟨0, z0 != 0, by omega, rfl, rfl, HS, HS1⟩
          case round =>
            obtain ⟨q, bb, hq, rfl, rfl, HI, HBr⟩ := hrel
            have HTr := hide (HTb.out.next HBr.out)
            have HA := hide (HA.out.below HBr.out)
            have HB := hide (HB.out.below HBr.out)
            have R0 := hide (QQ0.out.next HBr.out)
            have R1 := hide (QQ1.out.next HBr.out)
            have HB0 := hide HBr.out
            clear HBr HS HS1
            by_cases hq41 : q < 41
            · have hq40 : (q : Int) ≤ 40 := by omega
              go_wp2_with (at_make; refine wpList_make_int _ rfl _ _ rfl _ (q + 1) rfl rfl (by omega) (by omega) (by omega) ?_; intro w3 hx3 hb3 hs3)
              refine (rof_z 1 _ (by decide) (by decide)).mono ?_
              rintro e w4 ⟨v4, rfl, r4, b4⟩
              obtain ⟨s4, B4, m4, d4, rfl⟩ := r4.form
              have x4 := hx3.next b4
              obtain ⟨e0, e1⟩ := unit_cells x4
              have f0 := x4.fr (q * 2)
              have f1 := x4.fr (q * 2 + 1)
              have X6 := hide (unit_set (s := s4) (B := B4) (m := m4) (d := d4) x4)
              have o6 : Only wr.heap.size w4 ((w4.setCell ⟨wr.heap.size, q * 2, none⟩ (.bool s4)).setCell ⟨wr.heap.size, q * 2 + 1, none⟩ (.slice B4 m4 d4)) := ((Only.refl _ _).setCell _ _).setCell _ _
              have hk6 := x4.kp (by simpa using flatI_nls _) o6
              have HZ6 := hide (r4.kp hk6)
              have H6 := hide ((hb3.next b4).trans (o6.below (Nat.le_trans hb3.size b4.size) (Nat.le_refl _)))
              clear hx3 hb3 b4 x4 r4 hk6 o6
              go_wp2_with fail
              generalize hW6 : (w4.setCell ⟨wr.heap.size, q * 2, none⟩ (.bool s4)).setCell ⟨wr.heap.size, q * 2 + 1, none⟩ (.slice B4 m4 d4) = W6 at *
              clear hW6 e0 e1 f0 f1 hs3
              have HV := hide (ValsIn.unit X6.out HZ6.out)
              have HT6 := hide (HTr.out.next H6.out)
              have HA6 := hide (HA.out.below H6.out)
              have HB6 := hide (HB.out.below H6.out)
              have HVL := hide (fun W (h : Below W6.heap.size W6 W) => (show Calls Tryz.prog 28 #[.agg #[.slice A n c, .bool s, .slice B m d], .slice (some ⟨wr.heap.size, 0, none⟩) (q + 1) (q + 1)] W (ZPost (K + val (unit q) L) (20 + 2 + L.length) W) from by
                have h1 := tvalue_any _ L K 20 2 (some ⟨wr.heap.size, 0, none⟩) (q + 1) (q + 1) _ W (HA6.out.below h) (HV.out.below h) (by omega) (by have := HL1.out; omega) (by decide) (by decide)
                rw [nums_unit] at h1
                exact h1))
              have HVM := hide (fun W (h : Below W6.heap.size W6 W) => (show Calls Tryz.prog 28 #[.agg #[.slice A2 n2 c2, .bool s2, .slice B2 m2 d2], .slice (some ⟨wr.heap.size, 0, none⟩) (q + 1) (q + 1)] W (ZPost (KM + val (unit q) M) (20 + 2 + M.length) W) from by
                have h1 := tvalue_any _ M KM 20 2 (some ⟨wr.heap.size, 0, none⟩) (q + 1) (q + 1) _ W (HB6.out.below h) (HV.out.below h) (by omega) (by have := HL2.out; omega) (by decide) (by decide)
                rw [nums_unit] at h1
                exact h1))
              unfold ZPost at HVL HVM
              obtain ⟨zq, hzq⟩ : ∃ zq, zq = sgn3 (K + val (unit q) L) (KM + val (unit q) M) := ⟨_, rfl⟩
              have HZI := hide (show zq = 0 ↔ K + coef L q = KM + coef M q from by rw [hzq, val_unit, val_unit]; exact cmpZ_zero)
              have HZQ := hide hzq.symm
              have HBB := hide (HB0.out.next H6.out)
              have r0 := R0.out.next H6.out
              have r1 := R1.out.next H6.out
              clear hzq HZ6 X6
              have SOF := hide (show ∀ W, Below W6.heap.size W6 W → (W.cell? ⟨w0.heap.size, 0, none⟩ = some (.slice A n c) ∧ W.cell? ⟨w0.heap.size, 1, none⟩ = some (.bool s) ∧ W.cell? ⟨w0.heap.size, 2, none⟩ = some (.slice B m d) ∧ W.cell? ⟨w0.heap.size + 1, 0, none⟩ = some (.slice A2 n2 c2) ∧ W.cell? ⟨w0.heap.size + 1, 1, none⟩ = some (.bool s2) ∧ W.cell? ⟨w0.heap.size + 1, 2, none⟩ = some (.slice B2 m2 d2)) from fun W h => ⟨(r0.next h).c0, (r0.next h).c1, (r0.next h).c2, (r1.next h).c0, (r1.next h).c1, (r1.next h).c2⟩)
              clear r0 r1
              cases bb with
              | true =>
              refine wp_drawn (by kernel_rfl) (by kernel_rfl) (by kernel_rfl) (fun w w' => Below w.heap.size w w') (fun j v w => match j with | 0 => v = .bool true | 1 => v = .bool true | 2 => v = undef | 3 => v = undef | 4 => v = undef | 5 => v = undef | 6 => v = undef | 7 => v = undef | 8 => v = undef | 9 => v = undef | 10 => v = .bool true | 11 => v = .bool true | _ => True) (fun _ _ w => Below W6.heap.size W6 w) ?_ (fun _ => bl_drewN W6 1) ?_ ?_
              · intro j v w w' hT h
                match j, h with
                | 0, h => exact h
                | 1, h => exact h
                | 2, h => exact h
                | 3, h => exact h
                | 4, h => exact h
                | 5, h => exact h
                | 6, h => exact h
                | 7, h => exact h
                | 8, h => exact h
                | 9, h => exact h
                | 10, h => exact h
                | 11, h => exact h
                | j + 12, h => trivial
              · refine ⟨?_, ?_, ?_, ?_, ?_, ?_, ?_, ?_, ?_, ?_, ?_, ?_, trivial⟩
                · intro listed σ w a hin hout hl hc hp hG hF
                  refine Guarded.none rfl ?_
                  have e7 : a.tmps.getD 7 undef = .bool true := hout 7 (soleW_spec (j := 11) (by kernel_rfl) (un_next (k := 11) hc hl (by kernel_rfl)))
                  refine Does.val (.bool true) (w' := w) ?_ ⟨Below.refl _ _, rfl, hG⟩
                  simp only [Array.getD_eq_getD_getElem?] at e7
                  go_simp
                · intro listed σ w a hin hout hl hc hp hG hF
                  refine Guarded.none rfl ?_
                  have e50 : a.tmps.getD 50 undef = .bool true := (hin 0 50 rfl (hp ⟨0, .data⟩ (by simp) rfl)).trans (hF 0 (hp ⟨0, .data⟩ (by simp) rfl))
                  refine Does.val (.bool true) (w' := w) ?_ ⟨Below.refl _ _, rfl, hG⟩
                  simp only [Array.getD_eq_getD_getElem?] at e50
                  go_simp
                · intro listed σ w a hin hout hl hc hp hG hF
                  refine Guarded.some (d := 51) (b := true) rfl rfl ((hin 1 51 rfl (hp ⟨1, .guard⟩ (by simp) rfl)).trans (hF 1 (hp ⟨1, .guard⟩ (by simp) rfl))) ?_
                  exact Or.inr ⟨(fun h => by cases h), Below.refl _ _, rfl, hG⟩
                · intro listed σ w a hin hout hl hc hp hG hF
                  refine Guarded.some (d := 51) (b := true) rfl rfl ((hin 1 51 rfl (hp ⟨1, .guard⟩ (by simp) rfl)).trans (hF 1 (hp ⟨1, .guard⟩ (by simp) rfl))) ?_
                  exact Or.inr ⟨(fun h => by cases h), Below.refl _ _, rfl, hG⟩
                · intro listed σ w a hin hout hl hc hp hG hF
                  refine Guarded.some (d := 51) (b := true) rfl rfl ((hin 1 51 rfl (hp ⟨1, .guard⟩ (by simp) rfl)).trans (hF 1 (hp ⟨1, .guard⟩ (by simp) rfl))) ?_
                  exact Or.inr ⟨(fun h => by cases h), Below.refl _ _, rfl, hG⟩
                · intro listed σ w a hin hout hl hc hp hG hF
                  refine Guarded.some (d := 51) (b := true) rfl rfl ((hin 1 51 rfl (hp ⟨1, .guard⟩ (by simp) rfl)).trans (hF 1 (hp ⟨1, .guard⟩ (by simp) rfl))) ?_
                  exact Or.inr ⟨(fun h => by cases h), Below.refl _ _, rfl, hG⟩
                · intro listed σ w a hin hout hl hc hp hG hF
                  refine Guarded.some (d := 51) (b := true) rfl rfl ((hin 1 51 rfl (hp ⟨1, .guard⟩ (by simp) rfl)).trans (hF 1 (hp ⟨1, .guard⟩ (by simp) rfl))) ?_
                  exact Or.inr ⟨(fun h => by cases h), Below.refl _ _, rfl, hG⟩
                · intro listed σ w a hin hout hl hc hp hG hF
                  refine Guarded.some (d := 51) (b := true) rfl rfl ((hin 1 51 rfl (hp ⟨1, .guard⟩ (by simp) rfl)).trans (hF 1 (hp ⟨1, .guard⟩ (by simp) rfl))) ?_
                  exact Or.inr ⟨(fun h => by cases h), Below.refl _ _, rfl, hG⟩
                · intro listed σ w a hin hout hl hc hp hG hF
                  refine Guarded.some (d := 51) (b := true) rfl rfl ((hin 1 51 rfl (hp ⟨1, .guard⟩ (by simp) rfl)).trans (hF 1 (hp ⟨1, .guard⟩ (by simp) rfl))) ?_
                  exact Or.inr ⟨(fun h => by cases h), Below.refl _ _, rfl, hG⟩
                · intro listed σ w a hin hout hl hc hp hG hF
                  refine Guarded.some (d := 51) (b := true) rfl rfl ((hin 1 51 rfl (hp ⟨1, .guard⟩ (by simp) rfl)).trans (hF 1 (hp ⟨1, .guard⟩ (by simp) rfl))) ?_
                  exact Or.inr ⟨(fun h => by cases h), Below.refl _ _, rfl, hG⟩
                · intro listed σ w a hin hout hl hc hp hG hF
                  refine Guarded.none rfl ?_
                  have e51 : a.tmps.getD 51 undef = .bool true := (hin 1 51 rfl (hp ⟨1, .data⟩ (by simp) rfl)).trans (hF 1 (hp ⟨1, .data⟩ (by simp) rfl))
                  have e59 : a.tmps.getD 59 undef = undef := (hin 9 59 rfl (hp ⟨9, .data⟩ (by simp) rfl)).trans (hF 9 (hp ⟨9, .data⟩ (by simp) rfl))
                  refine Does.val (.bool true) (w' := w) ?_ ⟨Below.refl _ _, rfl, hG⟩
                  simp only [Array.getD_eq_getD_getElem?] at e51 e59
                  go_simp
                · intro listed σ w a hin hout hl hc hp hG hF
                  refine Guarded.none rfl ?_
                  have e60 : a.tmps.getD 60 undef = .bool true := (hin 10 60 rfl (hp ⟨10, .data⟩ (by simp) rfl)).trans (hF 10 (hp ⟨10, .data⟩ (by simp) rfl))
                  refine Does.val (.bool true) (w' := w) ?_ ⟨Below.refl _ _, rfl, hG⟩
                  simp only [Array.getD_eq_getD_getElem?] at e60
                  go_simp
              · intro listed σ Wc hall hG hF
                rw [show mid _ σ listed _ = (Act.put (Act.put (Act.put (Act.put (Act.put (Act.put (Act.put (Act.put (Act.put (Act.put (Act.put (Act.put _ (some 50) (σ 0)) (some 51) (σ 1)) (some 52) (σ 2)) (some 53) (σ 3)) (some 54) (σ 4)) (some 55) (σ 5)) (some 56) (σ 6)) (some 57) (σ 7)) (some 58) (σ 8)) (some 59) (σ 9)) (some 60) (σ 10)) (some 7) (σ 11)) from (mid_all hall).trans rfl]
                generalize σ 0 = tt0
                generalize σ 1 = tt1
                generalize σ 2 = tt2
                generalize σ 3 = tt3
                generalize σ 4 = tt4
                generalize σ 5 = tt5
                generalize σ 6 = tt6
                generalize σ 7 = tt7
                generalize σ 8 = tt8
                generalize σ 9 = tt9
                generalize σ 10 = tt10
                rw [show σ 11 = .bool true from hF 11 (by decide)]
                simp only [Act.put, List.setIfInBounds_toArray, List.set_cons_zero, List.set_cons_succ]
                have TG := hG
                clear hF hG hall
                clear σ
                have HE := hide (HBB.out.next TG)
                clear TG SOF HVL HVM
                go_wp2_with fail
                go_roundw
                case rel => exact ⟨q + 1, true, by omega, by go_num, rfl, hide ⟨fun _ => apart_keep (HI.out.1 rfl), fun _ => rfl⟩, HE⟩
                case measure => simp [intOf] <;> omega
              | false =>
              refine wp_drawn (by kernel_rfl) (by kernel_rfl) (by kernel_rfl) (fun w w' => Below w.heap.size w w') (fun j v w => match j with | 0 => v = .bool false | 1 => v = .bool false | 2 => v = .agg #[.slice A n c, .bool s, .slice B m d] | 3 => v = .slice (some ⟨wr.heap.size, 0, none⟩) (q + 1) (q + 1) | 4 => ZRes w v (K + val (unit q) L) (20 + 2 + L.length) | 5 => v = .agg #[.slice A2 n2 c2, .bool s2, .slice B2 m2 d2] | 6 => v = .slice (some ⟨wr.heap.size, 0, none⟩) (q + 1) (q + 1) | 7 => ZRes w v (KM + val (unit q) M) (20 + 2 + M.length) | 8 => v = .int .i64 zq | 9 => v = .bool (zq != 0) | 10 => v = .bool (zq != 0) | 11 => v = .bool (zq != 0) | _ => True) (fun _ _ w => Below W6.heap.size W6 w) ?_ (fun _ => bl_drewN W6 1) ?_ ?_
              · intro j v w w' hT h
                match j, h with
                | 0, h => exact h
                | 1, h => exact h
                | 2, h => exact h
                | 3, h => exact h
                | 4, h => exact h.below hT
                | 5, h => exact h
                | 6, h => exact h
                | 7, h => exact h.below hT
                | 8, h => exact h
                | 9, h => exact h
                | 10, h => exact h
                | 11, h => exact h
                | j + 12, h => trivial
              · refine ⟨?_, ?_, ?_, ?_, ?_, ?_, ?_, ?_, ?_, ?_, ?_, ?_, trivial⟩
                · intro listed σ w a hin hout hl hc hp hG hF
                  refine Guarded.none rfl ?_
                  have e7 : a.tmps.getD 7 undef = .bool false := hout 7 (soleW_spec (j := 11) (by kernel_rfl) (un_next (k := 11) hc hl (by kernel_rfl)))
                  refine Does.val (.bool false) (w' := w) ?_ ⟨Below.refl _ _, rfl, hG⟩
                  simp only [Array.getD_eq_getD_getElem?] at e7
                  go_simp
                · intro listed σ w a hin hout hl hc hp hG hF
                  refine Guarded.none rfl ?_
                  have e50 : a.tmps.getD 50 undef = .bool false := (hin 0 50 rfl (hp ⟨0, .data⟩ (by simp) rfl)).trans (hF 0 (hp ⟨0, .data⟩ (by simp) rfl))
                  refine Does.val (.bool false) (w' := w) ?_ ⟨Below.refl _ _, rfl, hG⟩
                  simp only [Array.getD_eq_getD_getElem?] at e50
                  go_simp
                · intro listed σ w a hin hout hl hc hp hG hF
                  refine Guarded.some (d := 51) (b := false) rfl rfl ((hin 1 51 rfl (hp ⟨1, .guard⟩ (by simp) rfl)).trans (hF 1 (hp ⟨1, .guard⟩ (by simp) rfl))) ?_
                  refine Or.inl ⟨rfl, ?_⟩
                  have e2 : a.tmps.getD 2 undef = .pointer (some ⟨w0.heap.size, 0, none⟩) := hout 2 (outB_spec (by kernel_rfl))
                  have CC := SOF.out w hG; obtain ⟨C0, C1, C2, D0, D1, D2⟩ := CC
                  refine Does.val (.agg #[.slice A n c, .bool s, .slice B m d]) (w' := w) ?_ ⟨Below.refl _ _, rfl, hG⟩
                  go_simp
                · intro listed σ w a hin hout hl hc hp hG hF
                  refine Guarded.some (d := 51) (b := false) rfl rfl ((hin 1 51 rfl (hp ⟨1, .guard⟩ (by simp) rfl)).trans (hF 1 (hp ⟨1, .guard⟩ (by simp) rfl))) ?_
                  refine Or.inl ⟨rfl, ?_⟩
                  have e9 : a.tmps.getD 9 undef = .slice (some ⟨wr.heap.size, 0, none⟩) (q + 1) (q + 1) := hout 9 (outB_spec (by kernel_rfl))
                  refine Does.val (.slice (some ⟨wr.heap.size, 0, none⟩) (q + 1) (q + 1)) (w' := w) ?_ ⟨Below.refl _ _, rfl, hG⟩
                  simp only [Array.getD_eq_getD_getElem?] at e9
                  go_simp
                · intro listed σ w a hin hout hl hc hp hG hF
                  refine Guarded.some (d := 51) (b := false) rfl rfl ((hin 1 51 rfl (hp ⟨1, .guard⟩ (by simp) rfl)).trans (hF 1 (hp ⟨1, .guard⟩ (by simp) rfl))) ?_
                  refine Or.inl ⟨rfl, ?_⟩
                  have e52 : a.tmps.getD 52 undef = .agg #[.slice A n c, .bool s, .slice B m d] := (hin 2 52 rfl (hp ⟨2, .data⟩ (by simp) rfl)).trans (hF 2 (hp ⟨2, .data⟩ (by simp) rfl))
                  have e53 : a.tmps.getD 53 undef = .slice (some ⟨wr.heap.size, 0, none⟩) (q + 1) (q + 1) := (hin 3 53 rfl (hp ⟨3, .data⟩ (by simp) rfl)).trans (hF 3 (hp ⟨3, .data⟩ (by simp) rfl))
                  refine Does.call ?_ (HVL.out w hG) ?_
                  · go_simp
                  · rintro e w' ⟨v, rfl, z, hb⟩
                    exact ⟨_, rfl, hb, z, hG.next hb⟩
                · intro listed σ w a hin hout hl hc hp hG hF
                  refine Guarded.some (d := 51) (b := false) rfl rfl ((hin 1 51 rfl (hp ⟨1, .guard⟩ (by simp) rfl)).trans (hF 1 (hp ⟨1, .guard⟩ (by simp) rfl))) ?_
                  refine Or.inl ⟨rfl, ?_⟩
                  have e3 : a.tmps.getD 3 undef = .pointer (some ⟨w0.heap.size + 1, 0, none⟩) := hout 3 (outB_spec (by kernel_rfl))
                  have CC := SOF.out w hG; obtain ⟨C0, C1, C2, D0, D1, D2⟩ := CC
                  refine Does.val (.agg #[.slice A2 n2 c2, .bool s2, .slice B2 m2 d2]) (w' := w) ?_ ⟨Below.refl _ _, rfl, hG⟩
                  go_simp
                · intro listed σ w a hin hout hl hc hp hG hF
                  refine Guarded.some (d := 51) (b := false) rfl rfl ((hin 1 51 rfl (hp ⟨1, .guard⟩ (by simp) rfl)).trans (hF 1 (hp ⟨1, .guard⟩ (by simp) rfl))) ?_
                  refine Or.inl ⟨rfl, ?_⟩
                  have e9 : a.tmps.getD 9 undef = .slice (some ⟨wr.heap.size, 0, none⟩) (q + 1) (q + 1) := hout 9 (outB_spec (by kernel_rfl))
                  refine Does.val (.slice (some ⟨wr.heap.size, 0, none⟩) (q + 1) (q + 1)) (w' := w) ?_ ⟨Below.refl _ _, rfl, hG⟩
                  simp only [Array.getD_eq_getD_getElem?] at e9
                  go_simp
                · intro listed σ w a hin hout hl hc hp hG hF
                  refine Guarded.some (d := 51) (b := false) rfl rfl ((hin 1 51 rfl (hp ⟨1, .guard⟩ (by simp) rfl)).trans (hF 1 (hp ⟨1, .guard⟩ (by simp) rfl))) ?_
                  refine Or.inl ⟨rfl, ?_⟩
                  have e55 : a.tmps.getD 55 undef = .agg #[.slice A2 n2 c2, .bool s2, .slice B2 m2 d2] := (hin 5 55 rfl (hp ⟨5, .data⟩ (by simp) rfl)).trans (hF 5 (hp ⟨5, .data⟩ (by simp) rfl))
                  have e56 : a.tmps.getD 56 undef = .slice (some ⟨wr.heap.size, 0, none⟩) (q + 1) (q + 1) := (hin 6 56 rfl (hp ⟨6, .data⟩ (by simp) rfl)).trans (hF 6 (hp ⟨6, .data⟩ (by simp) rfl))
                  refine Does.call ?_ (HVM.out w hG) ?_
                  · go_simp
                  · rintro e w' ⟨v, rfl, z, hb⟩
                    exact ⟨_, rfl, hb, z, hG.next hb⟩
                · intro listed σ w a hin hout hl hc hp hG hF
                  refine Guarded.some (d := 51) (b := false) rfl rfl ((hin 1 51 rfl (hp ⟨1, .guard⟩ (by simp) rfl)).trans (hF 1 (hp ⟨1, .guard⟩ (by simp) rfl))) ?_
                  refine Or.inl ⟨rfl, ?_⟩
                  have e54 := hin 4 54 rfl (hp ⟨4, .data⟩ (by simp) rfl)
                  have z4 := hF 4 (hp ⟨4, .data⟩ (by simp) rfl)
                  have e57 := hin 7 57 rfl (hp ⟨7, .data⟩ (by simp) rfl)
                  have z7 := hF 7 (hp ⟨7, .data⟩ (by simp) rfl)
                  refine Does.call ?_ ((HZQ.out ▸ HCM.out w _ _ _ _ _ _ z4 z7 (by have := HL1.out; have := HL2.out; omega))) ?_
                  · go_simp
                  · rintro e w' ⟨rfl, hb⟩
                    exact ⟨_, rfl, hb, rfl, hG.next hb⟩
                · intro listed σ w a hin hout hl hc hp hG hF
                  refine Guarded.some (d := 51) (b := false) rfl rfl ((hin 1 51 rfl (hp ⟨1, .guard⟩ (by simp) rfl)).trans (hF 1 (hp ⟨1, .guard⟩ (by simp) rfl))) ?_
                  refine Or.inl ⟨rfl, ?_⟩
                  have e58 : a.tmps.getD 58 undef = .int .i64 zq := (hin 8 58 rfl (hp ⟨8, .data⟩ (by simp) rfl)).trans (hF 8 (hp ⟨8, .data⟩ (by simp) rfl))
                  refine Does.val (.bool (zq != 0)) (w' := w) ?_ ⟨Below.refl _ _, rfl, hG⟩
                  simp only [Array.getD_eq_getD_getElem?] at e58
                  go_simp
                · intro listed σ w a hin hout hl hc hp hG hF
                  refine Guarded.none rfl ?_
                  have e51 : a.tmps.getD 51 undef = .bool false := (hin 1 51 rfl (hp ⟨1, .data⟩ (by simp) rfl)).trans (hF 1 (hp ⟨1, .data⟩ (by simp) rfl))
                  have e59 : a.tmps.getD 59 undef = .bool (zq != 0) := (hin 9 59 rfl (hp ⟨9, .data⟩ (by simp) rfl)).trans (hF 9 (hp ⟨9, .data⟩ (by simp) rfl))
                  refine Does.val (.bool (zq != 0)) (w' := w) ?_ ⟨Below.refl _ _, rfl, hG⟩
                  simp only [Array.getD_eq_getD_getElem?] at e51 e59
                  go_simp
                · intro listed σ w a hin hout hl hc hp hG hF
                  refine Guarded.none rfl ?_
                  have e60 : a.tmps.getD 60 undef = .bool (zq != 0) := (hin 10 60 rfl (hp ⟨10, .data⟩ (by simp) rfl)).trans (hF 10 (hp ⟨10, .data⟩ (by simp) rfl))
                  refine Does.val (.bool (zq != 0)) (w' := w) ?_ ⟨Below.refl _ _, rfl, hG⟩
                  simp only [Array.getD_eq_getD_getElem?] at e60
                  go_simp
              · intro listed σ Wc hall hG hF
                rw [show mid _ σ listed _ = (Act.put (Act.put (Act.put (Act.put (Act.put (Act.put (Act.put (Act.put (Act.put (Act.put (Act.put (Act.put _ (some 50) (σ 0)) (some 51) (σ 1)) (some 52) (σ 2)) (some 53) (σ 3)) (some 54) (σ 4)) (some 55) (σ 5)) (some 56) (σ 6)) (some 57) (σ 7)) (some 58) (σ 8)) (some 59) (σ 9)) (some 60) (σ 10)) (some 7) (σ 11)) from (mid_all hall).trans rfl]
                generalize σ 0 = tt0
                generalize σ 1 = tt1
                generalize σ 2 = tt2
                generalize σ 3 = tt3
                generalize σ 4 = tt4
                generalize σ 5 = tt5
                generalize σ 6 = tt6
                generalize σ 7 = tt7
                generalize σ 8 = tt8
                generalize σ 9 = tt9
                generalize σ 10 = tt10
                rw [show σ 11 = .bool (zq != 0) from hF 11 (by decide)]
                simp only [Act.put, List.setIfInBounds_toArray, List.set_cons_zero, List.set_cons_succ]
                have TG := hG
                clear hF hG hall
                clear σ
                have HE := hide (HBB.out.next TG)
                have HP := hide (show K = KM ∧ ∀ v : Nat, v < q → K + coef L v = KM + coef M v from Classical.byContradiction fun hh => by have := HI.out.2 hh; cases this)
                clear TG SOF HVL HVM
                go_wp2_with fail
                go_roundw
                case rel => exact ⟨q + 1, zq != 0, by omega, by go_num, rfl, hide (apart_next HP.out HZI.out), HE⟩
                case measure => simp [intOf] <;> omega
            obtain rfl : q = 41 := by omega
            obtain ⟨c0, hc0⟩ : ∃ c0, c0 = cmpT L M K KM := ⟨_, rfl⟩
            obtain rfl : bb = (c0 != 0) := apart_end hc0 HFL.out HFM.out HI.out
            have HC1 := hide (fun W (h : Below wr.heap.size wr W) => (show Calls Tryz.prog 43 #[.agg #[.slice A n c, .bool s, .slice B m d], .agg #[.slice A2 n2 c2, .bool s2, .slice B2 m2 d2]] W (fun e w' => e = .returned (.int .i64 c0) ∧ Below W.heap.size W w') from by
              rw [hc0]
              exact tcmp_any _ _ L M K KM 20 W (HA.out.below h) (HB.out.below h) (by have := HL1.out; omega) (by have := HL2.out; omega) (by decide)))
            have HC2 := hide (fun W (h : Below wr.heap.size wr W) => (show Calls Tryz.prog 43 #[.agg #[.slice A2 n2 c2, .bool s2, .slice B2 m2 d2], .agg #[.slice A n c, .bool s, .slice B m d]] W (fun e w' => e = .returned (.int .i64 (-c0)) ∧ Below W.heap.size W w') from by
              rw [hc0, ← cmpT_neg]
              exact tcmp_any _ _ M L KM K 20 W (HB.out.below h) (HA.out.below h) (by have := HL2.out; omega) (by have := HL1.out; omega) (by decide)))
            have HNEG := hide (show IntKind.i64.wrap c0 = c0 from IntWalk.i64_in _ (by have := cmpT_range L M K KM; omega))
            have SOF := hide (show ∀ W, Below wr.heap.size wr W → (W.cell? ⟨w0.heap.size, 0, none⟩ = some (.slice A n c) ∧ W.cell? ⟨w0.heap.size, 1, none⟩ = some (.bool s) ∧ W.cell? ⟨w0.heap.size, 2, none⟩ = some (.slice B m d) ∧ W.cell? ⟨w0.heap.size + 1, 0, none⟩ = some (.slice A2 n2 c2) ∧ W.cell? ⟨w0.heap.size + 1, 1, none⟩ = some (.bool s2) ∧ W.cell? ⟨w0.heap.size + 1, 2, none⟩ = some (.slice B2 m2 d2)) from fun W h => ⟨(R0.out.next h).c0, (R0.out.next h).c1, (R0.out.next h).c2, (R1.out.next h).c0, (R1.out.next h).c1, (R1.out.next h).c2⟩)
            clear hc0 HI HB0
            go_wp2_with fail
            refine wp_drawn (by kernel_rfl) (by kernel_rfl) (by kernel_rfl) (fun w w' => Below w.heap.size w w') (fun j v w => match j with | 0 => v = .bool (c0 != 0) | 1 => v = .agg #[.slice A n c, .bool s, .slice B m d] | 2 => v = .agg #[.slice A2 n2 c2, .bool s2, .slice B2 m2 d2] | 3 => v = .int .i64 c0 | 4 => v = .bool (c0 != 0) | 5 => v = .bool true | 6 => v = .bool true | 7 => v = .agg #[.slice A n c, .bool s, .slice B m d] | 8 => v = .agg #[.slice A2 n2 c2, .bool s2, .slice B2 m2 d2] | 9 => v = .int .i64 c0 | 10 => v = .agg #[.slice A2 n2 c2, .bool s2, .slice B2 m2 d2] | 11 => v = .agg #[.slice A n c, .bool s, .slice B m d] | 12 => v = .int .i64 (-c0) | 13 => v = .int .i64 c0 | 14 => v = .bool true | 15 => v = .bool true | 16 => v = .bool true | _ => True) (fun _ _ w => Below wr.heap.size wr w) ?_ (fun _ => bl_drewN wr 1) ?_ ?_
            · intro j v w w' hT h
              match j, h with
              | 0, h => exact h
              | 1, h => exact h
              | 2, h => exact h
              | 3, h => exact h
              | 4, h => exact h
              | 5, h => exact h
              | 6, h => exact h
              | 7, h => exact h
              | 8, h => exact h
              | 9, h => exact h
              | 10, h => exact h
              | 11, h => exact h
              | 12, h => exact h
              | 13, h => exact h
              | 14, h => exact h
              | 15, h => exact h
              | 16, h => exact h
              | j + 17, h => trivial
            · refine ⟨?_, ?_, ?_, ?_, ?_, ?_, ?_, ?_, ?_, ?_, ?_, ?_, ?_, ?_, ?_, ?_, ?_, trivial⟩
              · intro listed σ w a hin hout hl hc hp hG hF
                refine Guarded.none rfl ?_
                have e7 : a.tmps.getD 7 undef = .bool (c0 != 0) := hout 7 (outB_spec (by kernel_rfl))
                refine Does.val (.bool (c0 != 0)) (w' := w) ?_ ⟨Below.refl _ _, rfl, hG⟩
                simp only [Array.getD_eq_getD_getElem?] at e7
                go_simp
              · intro listed σ w a hin hout hl hc hp hG hF
                refine Guarded.none rfl ?_
                have e2 : a.tmps.getD 2 undef = .pointer (some ⟨w0.heap.size, 0, none⟩) := hout 2 (outB_spec (by kernel_rfl))
                have CC := SOF.out w hG; obtain ⟨C0, C1, C2, D0, D1, D2⟩ := CC
                refine Does.val (.agg #[.slice A n c, .bool s, .slice B m d]) (w' := w) ?_ ⟨Below.refl _ _, rfl, hG⟩
                go_simp
              · intro listed σ w a hin hout hl hc hp hG hF
                refine Guarded.none rfl ?_
                have e3 : a.tmps.getD 3 undef = .pointer (some ⟨w0.heap.size + 1, 0, none⟩) := hout 3 (outB_spec (by kernel_rfl))
                have CC := SOF.out w hG; obtain ⟨C0, C1, C2, D0, D1, D2⟩ := CC
                refine Does.val (.agg #[.slice A2 n2 c2, .bool s2, .slice B2 m2 d2]) (w' := w) ?_ ⟨Below.refl _ _, rfl, hG⟩
                go_simp
              · intro listed σ w a hin hout hl hc hp hG hF
                refine Guarded.none rfl ?_
                have e62 : a.tmps.getD 62 undef = .agg #[.slice A n c, .bool s, .slice B m d] := (hin 1 62 rfl (hp ⟨1, .data⟩ (by simp) rfl)).trans (hF 1 (hp ⟨1, .data⟩ (by simp) rfl))
                have e63 : a.tmps.getD 63 undef = .agg #[.slice A2 n2 c2, .bool s2, .slice B2 m2 d2] := (hin 2 63 rfl (hp ⟨2, .data⟩ (by simp) rfl)).trans (hF 2 (hp ⟨2, .data⟩ (by simp) rfl))
                refine Does.call ?_ (HC1.out w hG) ?_
                · go_simp
                · rintro e w' ⟨rfl, hb⟩
                  exact ⟨_, rfl, hb, rfl, hG.next hb⟩
              · intro listed σ w a hin hout hl hc hp hG hF
                refine Guarded.none rfl ?_
                have e64 : a.tmps.getD 64 undef = .int .i64 c0 := (hin 3 64 rfl (hp ⟨3, .data⟩ (by simp) rfl)).trans (hF 3 (hp ⟨3, .data⟩ (by simp) rfl))
                refine Does.val (.bool (c0 != 0)) (w' := w) ?_ ⟨Below.refl _ _, rfl, hG⟩
                simp only [Array.getD_eq_getD_getElem?] at e64
                go_simp
              · intro listed σ w a hin hout hl hc hp hG hF
                refine Guarded.none rfl ?_
                have e61 : a.tmps.getD 61 undef = .bool (c0 != 0) := (hin 0 61 rfl (hp ⟨0, .data⟩ (by simp) rfl)).trans (hF 0 (hp ⟨0, .data⟩ (by simp) rfl))
                have e65 : a.tmps.getD 65 undef = .bool (c0 != 0) := (hin 4 65 rfl (hp ⟨4, .data⟩ (by simp) rfl)).trans (hF 4 (hp ⟨4, .data⟩ (by simp) rfl))
                refine Does.val (.bool true) (w' := w) ?_ ⟨Below.refl _ _, rfl, hG⟩
                simp only [Array.getD_eq_getD_getElem?] at e61 e65
                go_simp
              · intro listed σ w a hin hout hl hc hp hG hF
                refine Guarded.none rfl ?_
                have e66 : a.tmps.getD 66 undef = .bool true := (hin 5 66 rfl (hp ⟨5, .data⟩ (by simp) rfl)).trans (hF 5 (hp ⟨5, .data⟩ (by simp) rfl))
                refine Does.val (.bool true) (w' := w) ?_ ⟨Below.refl _ _, rfl, hG⟩
                simp only [Array.getD_eq_getD_getElem?] at e66
                go_simp
              · intro listed σ w a hin hout hl hc hp hG hF
                refine Guarded.some (d := 67) (b := true) rfl rfl ((hin 6 67 rfl (hp ⟨6, .guard⟩ (by simp) rfl)).trans (hF 6 (hp ⟨6, .guard⟩ (by simp) rfl))) ?_
                refine Or.inl ⟨rfl, ?_⟩
                have e2 : a.tmps.getD 2 undef = .pointer (some ⟨w0.heap.size, 0, none⟩) := hout 2 (outB_spec (by kernel_rfl))
                have CC := SOF.out w hG; obtain ⟨C0, C1, C2, D0, D1, D2⟩ := CC
                refine Does.val (.agg #[.slice A n c, .bool s, .slice B m d]) (w' := w) ?_ ⟨Below.refl _ _, rfl, hG⟩
                go_simp
              · intro listed σ w a hin hout hl hc hp hG hF
                refine Guarded.some (d := 67) (b := true) rfl rfl ((hin 6 67 rfl (hp ⟨6, .guard⟩ (by simp) rfl)).trans (hF 6 (hp ⟨6, .guard⟩ (by simp) rfl))) ?_
                refine Or.inl ⟨rfl, ?_⟩
                have e3 : a.tmps.getD 3 undef = .pointer (some ⟨w0.heap.size + 1, 0, none⟩) := hout 3 (outB_spec (by kernel_rfl))
                have CC := SOF.out w hG; obtain ⟨C0, C1, C2, D0, D1, D2⟩ := CC
                refine Does.val (.agg #[.slice A2 n2 c2, .bool s2, .slice B2 m2 d2]) (w' := w) ?_ ⟨Below.refl _ _, rfl, hG⟩
                go_simp
              · intro listed σ w a hin hout hl hc hp hG hF
                refine Guarded.some (d := 67) (b := true) rfl rfl ((hin 6 67 rfl (hp ⟨6, .guard⟩ (by simp) rfl)).trans (hF 6 (hp ⟨6, .guard⟩ (by simp) rfl))) ?_
                refine Or.inl ⟨rfl, ?_⟩
                have e68 : a.tmps.getD 68 undef = .agg #[.slice A n c, .bool s, .slice B m d] := (hin 7 68 rfl (hp ⟨7, .data⟩ (by simp) rfl)).trans (hF 7 (hp ⟨7, .data⟩ (by simp) rfl))
                have e69 : a.tmps.getD 69 undef = .agg #[.slice A2 n2 c2, .bool s2, .slice B2 m2 d2] := (hin 8 69 rfl (hp ⟨8, .data⟩ (by simp) rfl)).trans (hF 8 (hp ⟨8, .data⟩ (by simp) rfl))
                refine Does.call ?_ (HC1.out w hG) ?_
                · go_simp
                · rintro e w' ⟨rfl, hb⟩
                  exact ⟨_, rfl, hb, rfl, hG.next hb⟩
              · intro listed σ w a hin hout hl hc hp hG hF
                refine Guarded.some (d := 67) (b := true) rfl rfl ((hin 6 67 rfl (hp ⟨6, .guard⟩ (by simp) rfl)).trans (hF 6 (hp ⟨6, .guard⟩ (by simp) rfl))) ?_
                refine Or.inl ⟨rfl, ?_⟩
                have e3 : a.tmps.getD 3 undef = .pointer (some ⟨w0.heap.size + 1, 0, none⟩) := hout 3 (outB_spec (by kernel_rfl))
                have CC := SOF.out w hG; obtain ⟨C0, C1, C2, D0, D1, D2⟩ := CC
                refine Does.val (.agg #[.slice A2 n2 c2, .bool s2, .slice B2 m2 d2]) (w' := w) ?_ ⟨Below.refl _ _, rfl, hG⟩
                go_simp
              · intro listed σ w a hin hout hl hc hp hG hF
                refine Guarded.some (d := 67) (b := true) rfl rfl ((hin 6 67 rfl (hp ⟨6, .guard⟩ (by simp) rfl)).trans (hF 6 (hp ⟨6, .guard⟩ (by simp) rfl))) ?_
                refine Or.inl ⟨rfl, ?_⟩
                have e2 : a.tmps.getD 2 undef = .pointer (some ⟨w0.heap.size, 0, none⟩) := hout 2 (outB_spec (by kernel_rfl))
                have CC := SOF.out w hG; obtain ⟨C0, C1, C2, D0, D1, D2⟩ := CC
                refine Does.val (.agg #[.slice A n c, .bool s, .slice B m d]) (w' := w) ?_ ⟨Below.refl _ _, rfl, hG⟩
                go_simp
              · intro listed σ w a hin hout hl hc hp hG hF
                refine Guarded.some (d := 67) (b := true) rfl rfl ((hin 6 67 rfl (hp ⟨6, .guard⟩ (by simp) rfl)).trans (hF 6 (hp ⟨6, .guard⟩ (by simp) rfl))) ?_
                refine Or.inl ⟨rfl, ?_⟩
                have e71 : a.tmps.getD 71 undef = .agg #[.slice A2 n2 c2, .bool s2, .slice B2 m2 d2] := (hin 10 71 rfl (hp ⟨10, .data⟩ (by simp) rfl)).trans (hF 10 (hp ⟨10, .data⟩ (by simp) rfl))
                have e72 : a.tmps.getD 72 undef = .agg #[.slice A n c, .bool s, .slice B m d] := (hin 11 72 rfl (hp ⟨11, .data⟩ (by simp) rfl)).trans (hF 11 (hp ⟨11, .data⟩ (by simp) rfl))
                refine Does.call ?_ (HC2.out w hG) ?_
                · go_simp
                · rintro e w' ⟨rfl, hb⟩
                  exact ⟨_, rfl, hb, rfl, hG.next hb⟩
              · intro listed σ w a hin hout hl hc hp hG hF
                refine Guarded.some (d := 67) (b := true) rfl rfl ((hin 6 67 rfl (hp ⟨6, .guard⟩ (by simp) rfl)).trans (hF 6 (hp ⟨6, .guard⟩ (by simp) rfl))) ?_
                refine Or.inl ⟨rfl, ?_⟩
                have e73 : a.tmps.getD 73 undef = .int .i64 (-c0) := (hin 12 73 rfl (hp ⟨12, .data⟩ (by simp) rfl)).trans (hF 12 (hp ⟨12, .data⟩ (by simp) rfl))
                refine Does.val (.int .i64 c0) (w' := w) ?_ ⟨Below.refl _ _, rfl, hG⟩
                simp only [Array.getD_eq_getD_getElem?] at e73
                go_simp
                (try exact HNEG.out)
                (try simp [HNEG.out])
              · intro listed σ w a hin hout hl hc hp hG hF
                refine Guarded.some (d := 67) (b := true) rfl rfl ((hin 6 67 rfl (hp ⟨6, .guard⟩ (by simp) rfl)).trans (hF 6 (hp ⟨6, .guard⟩ (by simp) rfl))) ?_
                refine Or.inl ⟨rfl, ?_⟩
                have e70 : a.tmps.getD 70 undef = .int .i64 c0 := (hin 9 70 rfl (hp ⟨9, .data⟩ (by simp) rfl)).trans (hF 9 (hp ⟨9, .data⟩ (by simp) rfl))
                have e74 : a.tmps.getD 74 undef = .int .i64 c0 := (hin 13 74 rfl (hp ⟨13, .data⟩ (by simp) rfl)).trans (hF 13 (hp ⟨13, .data⟩ (by simp) rfl))
                refine Does.val (.bool true) (w' := w) ?_ ⟨Below.refl _ _, rfl, hG⟩
                simp only [Array.getD_eq_getD_getElem?] at e70 e74
                go_simp
              · intro listed σ w a hin hout hl hc hp hG hF
                refine Guarded.none rfl ?_
                have e67 : a.tmps.getD 67 undef = .bool true := (hin 6 67 rfl (hp ⟨6, .data⟩ (by simp) rfl)).trans (hF 6 (hp ⟨6, .data⟩ (by simp) rfl))
                have e75 : a.tmps.getD 75 undef = .bool true := (hin 14 75 rfl (hp ⟨14, .data⟩ (by simp) rfl)).trans (hF 14 (hp ⟨14, .data⟩ (by simp) rfl))
                refine Does.val (.bool true) (w' := w) ?_ ⟨Below.refl _ _, rfl, hG⟩
                simp only [Array.getD_eq_getD_getElem?] at e67 e75
                go_simp
              · intro listed σ w a hin hout hl hc hp hG hF
                refine Guarded.none rfl ?_
                have e76 : a.tmps.getD 76 undef = .bool true := (hin 15 76 rfl (hp ⟨15, .data⟩ (by simp) rfl)).trans (hF 15 (hp ⟨15, .data⟩ (by simp) rfl))
                refine Does.val (.bool true) (w' := w) ?_ ⟨Below.refl _ _, rfl, hG⟩
                simp only [Array.getD_eq_getD_getElem?] at e76
                go_simp
            · intro listed σ Wd hall hG hF
              rw [show mid _ σ listed _ = (Act.put (Act.put (Act.put (Act.put (Act.put (Act.put (Act.put (Act.put (Act.put (Act.put (Act.put (Act.put (Act.put (Act.put (Act.put (Act.put (Act.put _ (some 61) (σ 0)) (some 62) (σ 1)) (some 63) (σ 2)) (some 64) (σ 3)) (some 65) (σ 4)) (some 66) (σ 5)) (some 67) (σ 6)) (some 68) (σ 7)) (some 69) (σ 8)) (some 70) (σ 9)) (some 71) (σ 10)) (some 72) (σ 11)) (some 73) (σ 12)) (some 74) (σ 13)) (some 75) (σ 14)) (some 76) (σ 15)) (some 4) (σ 16)) from (mid_all hall).trans rfl]
              generalize σ 0 = tt0
              generalize σ 1 = tt1
              generalize σ 2 = tt2
              generalize σ 3 = tt3
              generalize σ 4 = tt4
              generalize σ 5 = tt5
              generalize σ 6 = tt6
              generalize σ 7 = tt7
              generalize σ 8 = tt8
              generalize σ 9 = tt9
              generalize σ 10 = tt10
              generalize σ 11 = tt11
              generalize σ 12 = tt12
              generalize σ 13 = tt13
              generalize σ 14 = tt14
              generalize σ 15 = tt15
              rw [show σ 16 = .bool true from hF 16 (by decide)]
              simp only [Act.put, List.setIfInBounds_toArray, List.set_cons_zero, List.set_cons_succ]
              have TG := hG
              clear hF hG hall
              clear σ
              have HE := hide (HTr.out.next TG)
              clear TG SOF HC1 HC2
              go_wp2_with fail
              go_ret
              exact ⟨rfl, HE.out⟩
end Go.Proofs.YtakcgkohnomgjaaGreatDoor
