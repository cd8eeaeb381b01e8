/- Texts of one seat, put together: TermLinear. -/
import Derived.Test.YtakcgkohnomgjaaGreatDoorB43
import Derived.Test.YtakcgkohnomgjaaGreatDoorB41
import Derived.Test.YtakcgkohnomgjaaGreatDoorB42
import Derived.Test.YtakcgkohnomgjaaGreatDoorB13
set_option linter.unusedVariables false
/- TermLinear: the walk. -/
namespace Go.Proofs.YtakcgkohnomgjaaGreatDoor
open Go.RowKit
open Tm

theorem lin_add (ivs : List IV) (L M : List (Int × Int)) (K KM : Int) : K + val (nums ivs) L + (KM + val (nums ivs) M) = K + KM + val (nums ivs) (norm (L ++ M)) := by rw [val_norm, val_append]; omega
theorem lin_sub (ivs : List IV) (L M : List (Int × Int)) (K KM : Int) : K + val (nums ivs) L - (KM + val (nums ivs) M) = K - KM + val (nums ivs) (norm (L ++ M.map fun p => (p.1, -1 * p.2))) := by rw [val_norm, val_append, val_scale]; omega
theorem lin_scale (ivs : List IV) (L : List (Int × Int)) (K N : Int) : (K + val (nums ivs) L) * N = N * K + val (nums ivs) (norm (L.map fun p => (p.1, N * p.2))) := by rw [val_norm, val_scale, Int.add_mul, Int.mul_comm K N, Int.mul_comm _ N]
theorem lin_neg (ivs : List IV) (L : List (Int × Int)) (K : Int) : -(K + val (nums ivs) L) = -K + val (nums ivs) (norm (L.map fun p => (p.1, -1 * p.2))) := by rw [val_norm, val_scale]; omega
theorem lin_plain (ivs : List IV) (L : List (Int × Int)) (K : Int) : K + val (nums ivs) L = K + val (nums ivs) (norm L) := by rw [val_norm]
set_option maxRecDepth 100000 in
set_option maxHeartbeats 16000000 in
theorem termLinear_walk (v : Value) (L : List (Int × Int)) (K : Int) (u : Value) (M : List (Int × Int)) (KM : Int) (z : Value) (N : Int) (VA : Option Addr) (vn vc : Nat) (ivs : List IV) (w0 : World) (hv : TIn w0 v L K big) (hu : TIn w0 u M KM big) (hz : ZIn w0 z N big) (hvs : ValsIn w0 VA vn ivs big) (hvc1 : vn ≤ vc) (hvc2 : vc ≤ 9223372036854775807) : Calls Tryz.prog 4 #[v, u, z, .slice VA vn vc] w0 (YesPost w0) := by
  have hv0 := hv
  have hu0 := hu
  have hz0 := hz
  have hvn : vn ≤ 9223372036854775807 := by omega
  obtain ⟨A, n, c, s, B, m, d, rfl, hp, hc1, hc2, hK⟩ := hv
  obtain ⟨A2, n2, c2, s2, B2, m2, d2, rfl, hp2, hd1, hd2, hK2⟩ := hu
  obtain ⟨s3, B3, m3, d3, xs, rfl, -⟩ := hz
  have hm3 := hz0.bounds
  have HLn := hide hp.len
  have HLn2 := hide hp2.len
  obtain ⟨z0, z1, z2, z3, z4⟩ := bstart3 28 28 26 w0 #[.slice A n c, .bool s, .slice B m d] #[.slice A2 n2 c2, .bool s2, .slice B2 m2 d2] #[.bool s3, .slice B3 m3 d3]
  have H1 := hide hv0
  have H2 := hide hu0
  have H3 := hide hz0
  have HVV := hide hvs
  clear hv0 hu0 hz0 hp hp2 hK hK2 hvs
  go_enter Tryz.func4, Tryz.ntmps4
  go_wp2_with fail
  refine (summing_yes _).mono ?_
  rintro e wa ⟨rfl, ba⟩
  go_wp2_with fail
  refine (looking_yes _).mono ?_
  rintro e w1 ⟨rfl, b1⟩
  have q0 := (z0.next ba).next b1
  have q1 := (z1.next ba).next b1
  have q2 := (z2.next ba).next b1
  have T1 := hide ((z3.next ba).next b1)
  have x0 := q0.c0
  have x1 := q0.c1
  have x2 := q0.c2
  have y0 := q1.c0
  have y1 := q1.c1
  have y2 := q1.c2
  have Q0 := hide q0
  have Q1 := hide q1
  have Q2 := hide q2
  have u0 := Blk.c0 q2
  have u1 := Blk.c1 q2
  clear z0 z1 z2 z3 z4 b1 ba q0 q1 q2
  have bA := bl_alloc w1 (.cells #[.slice A n c, .bool s, .slice B m d, .slice A2 n2 c2, .bool s2, .slice B2 m2 d2] 28)
  have hbx : Box 28 (w1.alloc (.cells #[.slice A n c, .bool s, .slice B m d, .slice A2 n2 c2, .bool s2, .slice B2 m2 d2] 28)) w1.heap.size (flatT [⟨A, n, c, s, B, m, d, L, K⟩, ⟨A2, n2, c2, s2, B2, m2, d2, M, KM⟩]).toArray := Box.new _ _ _
  have hfw := few_any (some ⟨w1.heap.size, 0, none⟩) 2 2 _ _ (TermsIn.box (k := big) hbx (fun t ht => by
    simp only [List.mem_cons, List.not_mem_nil, or_false] at ht
    rcases ht with rfl | rfl
    · exact (H1.out.below T1.out).below bA
    · exact (H2.out.below T1.out).below bA)) (by decide)
  go_wp2_with fail
  refine hfw.mono ?_
  rintro e w2 ⟨r, rfl, hr, b2⟩
  have t2 := bA.next b2
  have q0 := Q0.out.next t2
  have q1 := Q1.out.next t2
  have q2 := Q2.out.next t2
  have T2 := hide (T1.out.next t2)
  have v1 := Blk.c1 q2
  have QQ0 := hide q0
  have QQ1 := hide q1
  have QQ2 := hide q2
  have HR := hide hr
  have HB2 := hide b2
  clear x0 x1 x2 y0 y1 y2 u0 u1 hfw hbx t2 q0 q1 q2 hr b2 bA
  cases r with
  | false =>
    go_wp2_with fail
    go_ret
    exact ⟨rfl, T2.out⟩
  | true =>
    by_cases h20 : (20 : Int) < m3
    · go_wp2_with fail
      go_ret
      exact ⟨rfl, T2.out⟩
    by_cases hvn20 : (20 : Int) < vn
    · go_wp2_with fail
      go_ret
      exact ⟨rfl, T2.out⟩
    have F1 := hide (HR.out rfl ⟨A, n, c, s, B, m, d, L, K⟩ (by simp))
    have F2 := hide (HR.out rfl ⟨A2, n2, c2, s2, B2, m2, d2, M, KM⟩ (by simp))
    have H20 := hide h20
    go_wp2_with fail
    have HS := hide (show ∀ i x, i < 0 → ivs[i]? = some x → x.m ≤ 20 from fun i x h => by omega)
    have HS1 := hide (Below.refl w2.heap.size w2)
    clear h20 v1
    go_loopw [37] (fun i wr => ∃ q : Nat, q ≤ vn ∧ i = .int .i64 q ∧ Hid (∀ i x, i < q → ivs[i]? = some x → x.m ≤ 20) ∧ Hid (Below w2.heap.size w2 wr)) (fun i _ => vn - (intOf i).toNat)
    case atStart => exact ⟨0, Nat.zero_le _, rfl, HS, HS1⟩
    case round =>
      obtain ⟨q, hq, rfl, HGr, HBr⟩ := hrel
      by_cases hqn : q < vn
      · obtain ⟨vb, vo, iv, rfl, hiv, e0, e1, hzi⟩ := ((HVV.out.below T2.out).below HBr.out).at_ hqn
        have hpm := hzi.bounds
        have HIV := hide hiv
        rw [Nat.mul_comm 2 q] at e0 e1
        rw [← Nat.add_assoc] at e1
        clear hzi hiv
        by_cases hp20 : (20 : Int) < iv.m
        · go_wp2_with fail
          go_ret
          exact ⟨rfl, (T2.out.next HBr.out).next (bl_alloc _ _)⟩
        · go_wp2_with fail
          go_roundw
          case rel => exact ⟨q + 1, by omega, by go_num, fun i x hi hx => by
            by_cases hir : i < q
            · exact HGr.out i x hir hx
            · obtain rfl : i = q := by omega
              rw [HIV.out] at hx
              injection hx with hx
              subst hx
              omega, hide (HBr.out.next (bl_alloc _ _))⟩
          case measure => simp [intOf] <;> omega
      obtain rfl : q = vn := by omega
      have HT := hide (T2.out.next HBr.out)
      have HA := hide (show TIn wr (.agg #[.slice A n c, .bool s, .slice B m d]) L K 20 from (F1.out.2.below HB2.out).below HBr.out)
      have HB := hide (show TIn wr (.agg #[.slice A2 n2 c2, .bool s2, .slice B2 m2 d2]) M KM 20 from (F2.out.2.below HB2.out).below HBr.out)
      have HN := hide (((H3.out.cut (show m3 ≤ 20 by have := H20.out; omega)).below T2.out).below HBr.out)
      have HV := hide (show ValsIn wr VA q ivs 20 from by
        have h1 := (HVV.out.below T2.out).below HBr.out
        refine ⟨h1.1, h1.2.1, fun p hp => ?_⟩
        obtain ⟨y, hy, hyp⟩ := List.mem_iff_getElem.1 hp
        exact (h1.2.2 p hp).cut (HGr.out y p (by rw [← h1.1]; exact hy) (by rw [List.getElem?_eq_getElem hy, hyp])))
      have HL1 := hide (show L.length ≤ 30 by rw [HLn.out]; exact F1.out.1)
      have HL2 := hide (show M.length ≤ 30 by rw [HLn2.out]; exact F2.out.1)
      have R0 := hide (QQ0.out.next HBr.out)
      have R1 := hide (QQ1.out.next HBr.out)
      have R2 := hide (Blk.next QQ2.out HBr.out)
      clear hm3 hc1 hc2 hd1 hd2 hvn20 hqn HS HS1 HGr HBr
      have HVX := hide (fun W (h : Below wr.heap.size wr W) => tvalue_any _ L K 20 20 VA q vc ivs W (HA.out.below h) (HV.out.below h) hvn (by have := HL1.out; omega) (by decide) (by decide))
      have HVY := hide (fun W (h : Below wr.heap.size wr W) => tvalue_any _ M KM 20 20 VA q vc ivs W (HB.out.below h) (HV.out.below h) hvn (by have := HL2.out; omega) (by decide) (by decide))
      unfold ZPost at HVX HVY
      have SOF := hide (show ∀ W, Below wr.heap.size wr W → (W.cell? ⟨w0.heap.size, 0, none⟩ = some (.slice A n c) ∧ W.cell? ⟨w0.heap.size, 1, none⟩ = some (.bool s) ∧ W.cell? ⟨w0.heap.size, 2, none⟩ = some (.slice B m d) ∧ W.cell? ⟨w0.heap.size + 1, 0, none⟩ = some (.slice A2 n2 c2) ∧ W.cell? ⟨w0.heap.size + 1, 1, none⟩ = some (.bool s2) ∧ W.cell? ⟨w0.heap.size + 1, 2, none⟩ = some (.slice B2 m2 d2) ∧ W.cell? ⟨w0.heap.size + 1 + 1, 0, none⟩ = some (.bool s3) ∧ W.cell? ⟨w0.heap.size + 1 + 1, 1, none⟩ = some (.slice B3 m3 d3)) from fun W h => ⟨(R0.out.next h).c0, (R0.out.next h).c1, (R0.out.next h).c2, (R1.out.next h).c0, (R1.out.next h).c1, (R1.out.next h).c2, Blk.c0 (R2.out.next h), Blk.c1 (R2.out.next h)⟩)
      go_wp2_with fail
      refine wp_region_facts (by kernel_rfl) (by kernel_rfl) (by kernel_rfl) (fun w w' => ∀ v Z k, ZRes w v Z k → ZRes w' v Z k) (fun j v w => match j with | 0 => v = .agg #[.slice A n c, .bool s, .slice B m d] | 1 => v = .slice VA q vc | 2 => ZRes w v (K + val (nums ivs) L) (20 + 20 + L.length) | 3 => v = .agg #[.slice A2 n2 c2, .bool s2, .slice B2 m2 d2] | 4 => v = .slice VA q vc | 5 => ZRes w v (KM + val (nums ivs) M) (20 + 20 + M.length) | _ => True) (GZ wr [⟨6, 8, (K + val (nums ivs) L), (20 + 20 + L.length)⟩, ⟨7, 9, (KM + val (nums ivs) M), (20 + 20 + M.length)⟩]) ?_ (fun σ => GZ.start) ?_ ?_
      · intro j v w w' hT h
        match j, h with
        | 0, h => exact h
        | 1, h => exact h
        | 2, h => exact hT _ _ _ h
        | 3, h => exact h
        | 4, h => exact h
        | 5, h => exact hT _ _ _ h
        | 6, h => trivial
        | 7, h => trivial
        | 8, h => trivial
        | 9, h => trivial
        | j + 10, h => trivial
      · refine ⟨?_, ?_, ?_, ?_, ?_, ?_, ?_, ?_, ?_, ?_, trivial⟩
        · intro listed σ w a hin hout hl hc hp hG hF
          refine Guarded.none rfl ?_
          have e4 : a.tmps.getD 4 undef = .pointer (some ⟨w0.heap.size, 0, none⟩) := hout 4 (by kernel_rfl)
          obtain ⟨C0, C1, C2, D0, D1, D2, -⟩ := SOF.out w hG.old
          refine Does.val (.agg #[.slice A n c, .bool s, .slice B m d]) (w' := w) ?_ ⟨fun _ _ _ h => h, rfl, hG.same (by rfl)⟩
          go_simp
        · intro listed σ w a hin hout hl hc hp hG hF
          refine Guarded.none rfl ?_
          have e3 : a.tmps.getD 3 undef = .slice VA q vc := hout 3 (by kernel_rfl)
          refine Does.val (.slice VA q vc) (w' := w) ?_ ⟨fun _ _ _ h => h, rfl, hG.same (by rfl)⟩
          simp only [Array.getD_eq_getD_getElem?] at e3
          go_simp
        · intro listed σ w a hin hout hl hc hp hG hF
          refine Guarded.none rfl ?_
          have e46 : a.tmps.getD 46 undef = .agg #[.slice A n c, .bool s, .slice B m d] := (hin 0 46 rfl (hp ⟨0, .data⟩ (by simp) rfl)).trans (hF 0 (hp ⟨0, .data⟩ (by simp) rfl))
          have e47 : a.tmps.getD 47 undef = .slice VA q vc := (hin 1 47 rfl (hp ⟨1, .data⟩ (by simp) rfl)).trans (hF 1 (hp ⟨1, .data⟩ (by simp) rfl))
          refine Does.call ?_ (HVX.out w hG.old) ?_
          · go_simp
          · rintro e w' ⟨v, rfl, z, hb⟩
            exact ⟨v, rfl, fun _ _ _ h => h.below hb, z, hG.keep (by rfl) hb⟩
        · intro listed σ w a hin hout hl hc hp hG hF
          refine Guarded.none rfl ?_
          have e5 : a.tmps.getD 5 undef = .pointer (some ⟨w0.heap.size + 1, 0, none⟩) := hout 5 (by kernel_rfl)
          obtain ⟨C0, C1, C2, D0, D1, D2, -⟩ := SOF.out w hG.old
          refine Does.val (.agg #[.slice A2 n2 c2, .bool s2, .slice B2 m2 d2]) (w' := w) ?_ ⟨fun _ _ _ h => h, rfl, hG.same (by rfl)⟩
          go_simp
        · intro listed σ w a hin hout hl hc hp hG hF
          refine Guarded.none rfl ?_
          have e3 : a.tmps.getD 3 undef = .slice VA q vc := hout 3 (by kernel_rfl)
          refine Does.val (.slice VA q vc) (w' := w) ?_ ⟨fun _ _ _ h => h, rfl, hG.same (by rfl)⟩
          simp only [Array.getD_eq_getD_getElem?] at e3
          go_simp
        · intro listed σ w a hin hout hl hc hp hG hF
          refine Guarded.none rfl ?_
          have e49 : a.tmps.getD 49 undef = .agg #[.slice A2 n2 c2, .bool s2, .slice B2 m2 d2] := (hin 3 49 rfl (hp ⟨3, .data⟩ (by simp) rfl)).trans (hF 3 (hp ⟨3, .data⟩ (by simp) rfl))
          have e50 : a.tmps.getD 50 undef = .slice VA q vc := (hin 4 50 rfl (hp ⟨4, .data⟩ (by simp) rfl)).trans (hF 4 (hp ⟨4, .data⟩ (by simp) rfl))
          refine Does.call ?_ (HVY.out w hG.old) ?_
          · go_simp
          · rintro e w' ⟨v, rfl, z, hb⟩
            exact ⟨v, rfl, fun _ _ _ h => h.below hb, z, hG.keep (by rfl) hb⟩
        · intro listed σ w a hin hout hl hc hp hG hF
          refine Guarded.none rfl ?_
          refine Does.val (.pointer (some ⟨w.heap.size, 0, none⟩)) (w' := w.alloc (.cells #[.bool false, .slice none 0 0] 26)) ?_ ⟨fun _ _ _ h => h.alloc _, trivial, hG.made (by rfl) (List.Mem.head _) rfl ?_⟩
          · go_simp
          · intro q hq hqe
            have hun : listed.getD 8 false = false := closed_un (k := 8) hc hl (by kernel_rfl)
            simp only [List.mem_cons, List.not_mem_nil, or_false] at hq
            rcases hq with rfl | rfl <;> first | exact hun | (simp at hqe)
        · intro listed σ w a hin hout hl hc hp hG hF
          refine Guarded.none rfl ?_
          refine Does.val (.pointer (some ⟨w.heap.size, 0, none⟩)) (w' := w.alloc (.cells #[.bool false, .slice none 0 0] 26)) ?_ ⟨fun _ _ _ h => h.alloc _, trivial, hG.made (by rfl) (List.Mem.tail _ (List.Mem.head _)) rfl ?_⟩
          · go_simp
          · intro q hq hqe
            have hun : listed.getD 9 false = false := closed_un (k := 9) hc hl (by kernel_rfl)
            simp only [List.mem_cons, List.not_mem_nil, or_false] at hq
            rcases hq with rfl | rfl <;> first | exact hun | (simp at hqe)
        · intro listed σ w a hin hout hl hc hp hG hF
          refine Guarded.none rfl ?_
          obtain ⟨g, eg, -, -, -, -⟩ := hG.at_ (List.Mem.head _) (hp ⟨6, .data⟩ (by simp) rfl)
          have e11 := (hin 6 11 rfl (hp ⟨6, .data⟩ (by simp) rfl)).trans eg
          have e48 := hin 2 48 rfl (hp ⟨2, .data⟩ (by simp) rfl)
          have z2 : ZRes w (σ 2) _ _ := hF 2 (hp ⟨2, .data⟩ (by simp) rfl)
          obtain ⟨s8, A8, n8, c8, ev8⟩ := z2.form
          rw [ev8] at e48 z2
          obtain ⟨hB, hG2⟩ := hG.filled (v := undef) (by rfl) (List.Mem.head _) rfl (hp ⟨6, .data⟩ (by simp) rfl) hl eg z2 (fun q hq hqe => by
            simp only [List.mem_cons, List.not_mem_nil, or_false] at hq
            rcases hq with rfl | rfl <;> first | rfl | (simp at hqe))
          have q0 := hB.c0; have q1 := hB.c1; have f0 := hB.fr 0; have f1 := hB.fr 1
          refine Does.skip (w' := st2 w g (.bool s8) (.slice A8 n8 c8)) ?_ ⟨fun _ _ _ h => h.st hB, trivial, hG2⟩
          go_simp
          rfl
        · intro listed σ w a hin hout hl hc hp hG hF
          refine Guarded.none rfl ?_
          obtain ⟨g, eg, -, -, -, -⟩ := hG.at_ (List.Mem.tail _ (List.Mem.head _)) (hp ⟨7, .data⟩ (by simp) rfl)
          have e12 := (hin 7 12 rfl (hp ⟨7, .data⟩ (by simp) rfl)).trans eg
          have e51 := hin 5 51 rfl (hp ⟨5, .data⟩ (by simp) rfl)
          have z5 : ZRes w (σ 5) _ _ := hF 5 (hp ⟨5, .data⟩ (by simp) rfl)
          obtain ⟨s8, A8, n8, c8, ev8⟩ := z5.form
          rw [ev8] at e51 z5
          obtain ⟨hB, hG2⟩ := hG.filled (v := undef) (by rfl) (List.Mem.tail _ (List.Mem.head _)) rfl (hp ⟨7, .data⟩ (by simp) rfl) hl eg z5 (fun q hq hqe => by
            simp only [List.mem_cons, List.not_mem_nil, or_false] at hq
            rcases hq with rfl | rfl <;> first | rfl | (simp at hqe))
          have q0 := hB.c0; have q1 := hB.c1; have f0 := hB.fr 0; have f1 := hB.fr 1
          refine Does.skip (w' := st2 w g (.bool s8) (.slice A8 n8 c8)) ?_ ⟨fun _ _ _ h => h.st hB, trivial, hG2⟩
          go_simp
          rfl
      · intro listed σ W9 hall hG hF
        rw [show mid _ σ listed _ = (Act.put (Act.put (Act.put (Act.put (Act.put (Act.put (Act.put (Act.put (Act.put (Act.put _ (some 46) (σ 0)) (some 47) (σ 1)) (some 48) (σ 2)) (some 49) (σ 3)) (some 50) (σ 4)) (some 51) (σ 5)) (some 11) (σ 6)) (some 12) (σ 7)) none (σ 8)) none (σ 9)) from (mid_all hall).trans rfl]
        obtain ⟨gB0, eB0, hB0, -, -, hfull0⟩ := hG.at_ (List.Mem.head _) (hall 6 (by show 6 < 10; omega))
        have hZ0 := hfull0 (hall 8 (by show 8 < 10; omega))
        obtain ⟨gB1, eB1, hB1, -, -, hfull1⟩ := hG.at_ (List.Mem.tail _ (List.Mem.head _)) (hall 7 (by show 7 < 10; omega))
        have hZ1 := hfull1 (hall 9 (by show 9 < 10; omega))
        have hN01 : gB0 ≠ gB1 := fun e => hG.2.2 _ (List.Mem.head _) _ (List.Mem.tail _ (List.Mem.head _)) (by simp) (hall 6 (by show 6 < 10; omega)) (hall 7 (by show 7 < 10; omega)) (by show σ 6 = σ 7; rw [eB0, eB1, e])
        rw [eB0]
        rw [eB1]
        simp only [Act.put, List.setIfInBounds_toArray, List.set_cons_zero, List.set_cons_succ]
        have TG := hG.old
        clear hF hG hall hfull0 eB0 hfull1 eB1
        generalize σ 0 = tt0
        generalize σ 1 = tt1
        generalize σ 2 = tt2
        generalize σ 3 = tt3
        generalize σ 4 = tt4
        generalize σ 5 = tt5
        clear σ
        obtain ⟨sx, Bx, mx, dx, BX0, HX0⟩ := hZ0
        obtain ⟨sy, By, my, dy, BX1, HX1⟩ := hZ1
        have HX := hide HX0
        have HY := hide HX1
        have HA := hide (HA.out.below TG)
        have HB := hide (HB.out.below TG)
        have HN := hide (HN.out.below TG)
        have HV := hide (HV.out.below TG)
        have HTT := hide (HT.out.next TG)
        have SOF := hide (show ∀ W, Below W9.heap.size W9 W → (W.cell? ⟨w0.heap.size, 0, none⟩ = some (.slice A n c) ∧ W.cell? ⟨w0.heap.size, 1, none⟩ = some (.bool s) ∧ W.cell? ⟨w0.heap.size, 2, none⟩ = some (.slice B m d) ∧ W.cell? ⟨w0.heap.size + 1, 0, none⟩ = some (.slice A2 n2 c2) ∧ W.cell? ⟨w0.heap.size + 1, 1, none⟩ = some (.bool s2) ∧ W.cell? ⟨w0.heap.size + 1, 2, none⟩ = some (.slice B2 m2 d2) ∧ W.cell? ⟨w0.heap.size + 1 + 1, 0, none⟩ = some (.bool s3) ∧ W.cell? ⟨w0.heap.size + 1 + 1, 1, none⟩ = some (.slice B3 m3 d3) ∧ W.cell? ⟨gB0, 0, none⟩ = some (.bool sx) ∧ W.cell? ⟨gB0, 1, none⟩ = some (.slice Bx mx dx) ∧ W.cell? ⟨gB1, 0, none⟩ = some (.bool sy) ∧ W.cell? ⟨gB1, 1, none⟩ = some (.slice By my dy)) from fun W h => ⟨((R0.out.next TG).next h).c0, ((R0.out.next TG).next h).c1, ((R0.out.next TG).next h).c2, ((R1.out.next TG).next h).c0, ((R1.out.next TG).next h).c1, ((R1.out.next TG).next h).c2, Blk.c0 ((R2.out.next TG).next h), Blk.c1 ((R2.out.next TG).next h), (BX0.next h).c0, (BX0.next h).c1, (BX1.next h).c0, (BX1.next h).c1⟩)
        clear HX0 HX1 BX0 BX1 TG HVX HVY hB0 hB1 hN01
        go_wp2_with fail
        refine wp_drawn (by kernel_rfl) (by kernel_rfl) (by kernel_rfl) (fun w w' => Below w.heap.size w w') (fun j v w => match j with | 0 => v = .agg #[.slice A n c, .bool s, .slice B m d] | 1 => v = .agg #[.slice A2 n2 c2, .bool s2, .slice B2 m2 d2] | 2 => TRes w v (norm (L ++ M)) (K + KM) (20 + 1 + (L.length + M.length)) | 3 => v = .slice VA q vc | 4 => v = .agg #[.bool sx, .slice Bx mx dx] | 5 => v = .agg #[.bool sy, .slice By my dy] | 6 => ZRes w v ((K + val (nums ivs) L) + (KM + val (nums ivs) M)) ((60 + L.length + M.length) + 1) | 7 => v = .bool true | 8 => v = .bool true | 9 => v = .agg #[.slice A n c, .bool s, .slice B m d] | 10 => v = .agg #[.slice A2 n2 c2, .bool s2, .slice B2 m2 d2] | 11 => TRes w v (norm (L ++ M.map fun p => (p.1, -1 * p.2))) (K - KM) (20 + M.length + 1 + (L.length + M.length)) | 12 => v = .slice VA q vc | 13 => v = .agg #[.bool sx, .slice Bx mx dx] | 14 => v = .agg #[.bool sy, .slice By my dy] | 15 => ZRes w v ((K + val (nums ivs) L) - (KM + val (nums ivs) M)) ((60 + L.length + M.length) + 1) | 16 => v = .bool true | 17 => v = .bool true | 18 => v = .bool true | 19 => v = .agg #[.slice A n c, .bool s, .slice B m d] | 20 => v = .agg #[.bool s3, .slice B3 m3 d3] | 21 => TRes w v (norm (L.map fun p => (p.1, N * p.2))) (N * K) (20 + (20 + L.length)) | 22 => v = .slice VA q vc | 23 => v = .agg #[.bool sx, .slice Bx mx dx] | 24 => v = .agg #[.bool s3, .slice B3 m3 d3] | 25 => ZRes w v ((K + val (nums ivs) L) * N) ((20 + 20 + L.length) + 20) | 26 => v = .bool true | 27 => v = .bool true | 28 => v = .bool true | 29 => v = .agg #[.slice A n c, .bool s, .slice B m d] | 30 => TRes w v (norm (L.map fun p => (p.1, -1 * p.2))) (-K) (20 + L.length) | 31 => v = .slice VA q vc | 32 => v = .agg #[.bool sx, .slice Bx mx dx] | 33 => ZRes w v (-(K + val (nums ivs) L)) (20 + 20 + L.length) | 34 => v = .bool true | 35 => v = .bool true | 36 => v = .bool true | 37 => v = .agg #[.slice A n c, .bool s, .slice B m d] | 38 => TRes w v (norm L) K (20 + L.length) | 39 => v = .slice VA q vc | 40 => v = .agg #[.bool sx, .slice Bx mx dx] | 41 => v = .bool true | 42 => v = .bool true | 43 => v = .bool true | _ => True) (fun _ _ w => Below W9.heap.size W9 w) ?_ (fun _ => bl_drewN W9 1) ?_ ?_
        · intro j v w w' hT h
          match j, h with
          | 0, h => exact h
          | 1, h => exact h
          | 2, h => exact h.below hT
          | 3, h => exact h
          | 4, h => exact h
          | 5, h => exact h
          | 6, h => exact h.below hT
          | 7, h => exact h
          | 8, h => exact h
          | 9, h => exact h
          | 10, h => exact h
          | 11, h => exact h.below hT
          | 12, h => exact h
          | 13, h => exact h
          | 14, h => exact h
          | 15, h => exact h.below hT
          | 16, h => exact h
          | 17, h => exact h
          | 18, h => exact h
          | 19, h => exact h
          | 20, h => exact h
          | 21, h => exact h.below hT
          | 22, h => exact h
          | 23, h => exact h
          | 24, h => exact h
          | 25, h => exact h.below hT
          | 26, h => exact h
          | 27, h => exact h
          | 28, h => exact h
          | 29, h => exact h
          | 30, h => exact h.below hT
          | 31, h => exact h
          | 32, h => exact h
          | 33, h => exact h.below hT
          | 34, h => exact h
          | 35, h => exact h
          | 36, h => exact h
          | 37, h => exact h
          | 38, h => exact h.below hT
          | 39, h => exact h
          | 40, h => exact h
          | 41, h => exact h
          | 42, h => exact h
          | 43, h => exact h
          | j + 44, h => trivial
        · refine ⟨?_, ?_, ?_, ?_, ?_, ?_, ?_, ?_, ?_, ?_, ?_, ?_, ?_, ?_, ?_, ?_, ?_, ?_, ?_, ?_, ?_, ?_, ?_, ?_, ?_, ?_, ?_, ?_, ?_, ?_, ?_, ?_, ?_, ?_, ?_, ?_, ?_, ?_, ?_, ?_, ?_, ?_, ?_, ?_, trivial⟩
          · intro listed σ w a hin hout hl hc hp hG hF
            refine Guarded.none rfl ?_
            have e4 : a.tmps.getD 4 undef = .pointer (some ⟨w0.heap.size, 0, none⟩) := hout 4 (outB_spec (by kernel_rfl))
            have CC := SOF.out w hG; obtain ⟨C0, C1, C2, D0, D1, D2, E0, E1, F0, F1, G0, G1⟩ := CC
            refine Does.val (.agg #[.slice A n c, .bool s, .slice B m d]) (w' := w) ?_ ⟨Below.refl _ _, rfl, hG⟩
            go_simp
          · intro listed σ w a hin hout hl hc hp hG hF
            refine Guarded.none rfl ?_
            have e5 : a.tmps.getD 5 undef = .pointer (some ⟨w0.heap.size + 1, 0, none⟩) := hout 5 (outB_spec (by kernel_rfl))
            have CC := SOF.out w hG; obtain ⟨C0, C1, C2, D0, D1, D2, E0, E1, F0, F1, G0, G1⟩ := CC
            refine Does.val (.agg #[.slice A2 n2 c2, .bool s2, .slice B2 m2 d2]) (w' := w) ?_ ⟨Below.refl _ _, rfl, hG⟩
            go_simp
          · intro listed σ w a hin hout hl hc hp hG hF
            refine Guarded.none rfl ?_
            have e52 : a.tmps.getD 52 undef = .agg #[.slice A n c, .bool s, .slice B m d] := (hin 0 52 rfl (hp ⟨0, .data⟩ (by simp) rfl)).trans (hF 0 (hp ⟨0, .data⟩ (by simp) rfl))
            have e53 : a.tmps.getD 53 undef = .agg #[.slice A2 n2 c2, .bool s2, .slice B2 m2 d2] := (hin 1 53 rfl (hp ⟨1, .data⟩ (by simp) rfl)).trans (hF 1 (hp ⟨1, .data⟩ (by simp) rfl))
            refine Does.call ?_ (tadd_any _ _ L M K KM 20 w (HA.out.below hG) (HB.out.below hG) (by have := HL1.out; omega) (by have := HL2.out; omega) (by decide)) ?_
            · go_simp
            · rintro e w' ⟨v, rfl, z, hb⟩
              exact ⟨_, rfl, hb, z, hG.next hb⟩
          · intro listed σ w a hin hout hl hc hp hG hF
            refine Guarded.none rfl ?_
            have e3 : a.tmps.getD 3 undef = .slice VA q vc := hout 3 (outB_spec (by kernel_rfl))
            refine Does.val (.slice VA q vc) (w' := w) ?_ ⟨Below.refl _ _, rfl, hG⟩
            simp only [Array.getD_eq_getD_getElem?] at e3
            go_simp
          · intro listed σ w a hin hout hl hc hp hG hF
            refine Guarded.none rfl ?_
            have e11 : a.tmps.getD 11 undef = .pointer (some ⟨gB0, 0, none⟩) := hout 11 (outB_spec (by kernel_rfl))
            have CC := SOF.out w hG; obtain ⟨C0, C1, C2, D0, D1, D2, E0, E1, F0, F1, G0, G1⟩ := CC
            refine Does.val (.agg #[.bool sx, .slice Bx mx dx]) (w' := w) ?_ ⟨Below.refl _ _, rfl, hG⟩
            go_simp
          · intro listed σ w a hin hout hl hc hp hG hF
            refine Guarded.none rfl ?_
            have e12 : a.tmps.getD 12 undef = .pointer (some ⟨gB1, 0, none⟩) := hout 12 (outB_spec (by kernel_rfl))
            have CC := SOF.out w hG; obtain ⟨C0, C1, C2, D0, D1, D2, E0, E1, F0, F1, G0, G1⟩ := CC
            refine Does.val (.agg #[.bool sy, .slice By my dy]) (w' := w) ?_ ⟨Below.refl _ _, rfl, hG⟩
            go_simp
          · intro listed σ w a hin hout hl hc hp hG hF
            refine Guarded.none rfl ?_
            have e56 : a.tmps.getD 56 undef = .agg #[.bool sx, .slice Bx mx dx] := (hin 4 56 rfl (hp ⟨4, .data⟩ (by simp) rfl)).trans (hF 4 (hp ⟨4, .data⟩ (by simp) rfl))
            have e57 : a.tmps.getD 57 undef = .agg #[.bool sy, .slice By my dy] := (hin 5 57 rfl (hp ⟨5, .data⟩ (by simp) rfl)).trans (hF 5 (hp ⟨5, .data⟩ (by simp) rfl))
            refine Does.call ?_ (rzadd_z _ _ (K + val (nums ivs) L) (KM + val (nums ivs) M) (60 + L.length + M.length) w ((HX.out.below hG).in_.mono (by omega)) ((HY.out.below hG).in_.mono (by omega)) (by have := HL1.out; have := HL2.out; omega)) ?_
            · go_simp
            · rintro e w' ⟨v, rfl, z, hb⟩
              exact ⟨_, rfl, hb, z, hG.next hb⟩
          · intro listed σ w a hin hout hl hc hp hG hF
            refine Guarded.none rfl ?_
            have e54 := hin 2 54 rfl (hp ⟨2, .data⟩ (by simp) rfl)
            have z2 := hF 2 (hp ⟨2, .data⟩ (by simp) rfl)
            have e55 : a.tmps.getD 55 undef = .slice VA q vc := (hin 3 55 rfl (hp ⟨3, .data⟩ (by simp) rfl)).trans (hF 3 (hp ⟨3, .data⟩ (by simp) rfl))
            have e58 := hin 6 58 rfl (hp ⟨6, .data⟩ (by simp) rfl)
            have z6 := hF 6 (hp ⟨6, .data⟩ (by simp) rfl)
            refine Does.call ?_ (lhas_yes _ _ (norm (L ++ M)) (K + KM) ((K + val (nums ivs) L) + (KM + val (nums ivs) M)) (20 + 1 + (L.length + M.length)) 20 ((60 + L.length + M.length) + 1) VA q vc ivs w z2.in_ (HV.out.below hG) z6.in_ (lin_add ivs L M K KM) hvn (by have := HL1.out; have := HL2.out; have := norm_length L; have := norm_length (L ++ M); have := norm_length (L ++ M.map fun p => (p.1, -1 * p.2)); have := norm_length (L.map fun p => (p.1, N * p.2)); have := norm_length (L.map fun p => (p.1, -1 * p.2)); simp only [List.length_append, List.length_map] at *; omega) (by have := HL1.out; have := HL2.out; omega) (by decide) (by have := HL1.out; have := HL2.out; omega)) ?_
            · go_simp
            · rintro e w' ⟨rfl, hb⟩
              exact ⟨_, rfl, hb, rfl, hG.next hb⟩
          · intro listed σ w a hin hout hl hc hp hG hF
            refine Guarded.none rfl ?_
            have e59 : a.tmps.getD 59 undef = .bool true := (hin 7 59 rfl (hp ⟨7, .data⟩ (by simp) rfl)).trans (hF 7 (hp ⟨7, .data⟩ (by simp) rfl))
            refine Does.val (.bool true) (w' := w) ?_ ⟨Below.refl _ _, rfl, hG⟩
            simp only [Array.getD_eq_getD_getElem?] at e59
            go_simp
          · intro listed σ w a hin hout hl hc hp hG hF
            refine Guarded.some (d := 60) (b := true) rfl rfl ((hin 8 60 rfl (hp ⟨8, .guard⟩ (by simp) rfl)).trans (hF 8 (hp ⟨8, .guard⟩ (by simp) rfl))) ?_
            refine Or.inl ⟨rfl, ?_⟩
            have e4 : a.tmps.getD 4 undef = .pointer (some ⟨w0.heap.size, 0, none⟩) := hout 4 (outB_spec (by kernel_rfl))
            have CC := SOF.out w hG; obtain ⟨C0, C1, C2, D0, D1, D2, E0, E1, F0, F1, G0, G1⟩ := CC
            refine Does.val (.agg #[.slice A n c, .bool s, .slice B m d]) (w' := w) ?_ ⟨Below.refl _ _, rfl, hG⟩
            go_simp
          · intro listed σ w a hin hout hl hc hp hG hF
            refine Guarded.some (d := 60) (b := true) rfl rfl ((hin 8 60 rfl (hp ⟨8, .guard⟩ (by simp) rfl)).trans (hF 8 (hp ⟨8, .guard⟩ (by simp) rfl))) ?_
            refine Or.inl ⟨rfl, ?_⟩
            have e5 : a.tmps.getD 5 undef = .pointer (some ⟨w0.heap.size + 1, 0, none⟩) := hout 5 (outB_spec (by kernel_rfl))
            have CC := SOF.out w hG; obtain ⟨C0, C1, C2, D0, D1, D2, E0, E1, F0, F1, G0, G1⟩ := CC
            refine Does.val (.agg #[.slice A2 n2 c2, .bool s2, .slice B2 m2 d2]) (w' := w) ?_ ⟨Below.refl _ _, rfl, hG⟩
            go_simp
          · intro listed σ w a hin hout hl hc hp hG hF
            refine Guarded.some (d := 60) (b := true) rfl rfl ((hin 8 60 rfl (hp ⟨8, .guard⟩ (by simp) rfl)).trans (hF 8 (hp ⟨8, .guard⟩ (by simp) rfl))) ?_
            refine Or.inl ⟨rfl, ?_⟩
            have e61 : a.tmps.getD 61 undef = .agg #[.slice A n c, .bool s, .slice B m d] := (hin 9 61 rfl (hp ⟨9, .data⟩ (by simp) rfl)).trans (hF 9 (hp ⟨9, .data⟩ (by simp) rfl))
            have e62 : a.tmps.getD 62 undef = .agg #[.slice A2 n2 c2, .bool s2, .slice B2 m2 d2] := (hin 10 62 rfl (hp ⟨10, .data⟩ (by simp) rfl)).trans (hF 10 (hp ⟨10, .data⟩ (by simp) rfl))
            refine Does.call ?_ (tsub_any _ _ L M K KM 20 w (HA.out.below hG) (HB.out.below hG) (by have := HL1.out; omega) (by have := HL2.out; omega) (by decide)) ?_
            · go_simp
            · rintro e w' ⟨v, rfl, z, hb⟩
              exact ⟨_, rfl, hb, z, hG.next hb⟩
          · intro listed σ w a hin hout hl hc hp hG hF
            refine Guarded.some (d := 60) (b := true) rfl rfl ((hin 8 60 rfl (hp ⟨8, .guard⟩ (by simp) rfl)).trans (hF 8 (hp ⟨8, .guard⟩ (by simp) rfl))) ?_
            refine Or.inl ⟨rfl, ?_⟩
            have e3 : a.tmps.getD 3 undef = .slice VA q vc := hout 3 (outB_spec (by kernel_rfl))
            refine Does.val (.slice VA q vc) (w' := w) ?_ ⟨Below.refl _ _, rfl, hG⟩
            simp only [Array.getD_eq_getD_getElem?] at e3
            go_simp
          · intro listed σ w a hin hout hl hc hp hG hF
            refine Guarded.some (d := 60) (b := true) rfl rfl ((hin 8 60 rfl (hp ⟨8, .guard⟩ (by simp) rfl)).trans (hF 8 (hp ⟨8, .guard⟩ (by simp) rfl))) ?_
            refine Or.inl ⟨rfl, ?_⟩
            have e11 : a.tmps.getD 11 undef = .pointer (some ⟨gB0, 0, none⟩) := hout 11 (outB_spec (by kernel_rfl))
            have CC := SOF.out w hG; obtain ⟨C0, C1, C2, D0, D1, D2, E0, E1, F0, F1, G0, G1⟩ := CC
            refine Does.val (.agg #[.bool sx, .slice Bx mx dx]) (w' := w) ?_ ⟨Below.refl _ _, rfl, hG⟩
            go_simp
          · intro listed σ w a hin hout hl hc hp hG hF
            refine Guarded.some (d := 60) (b := true) rfl rfl ((hin 8 60 rfl (hp ⟨8, .guard⟩ (by simp) rfl)).trans (hF 8 (hp ⟨8, .guard⟩ (by simp) rfl))) ?_
            refine Or.inl ⟨rfl, ?_⟩
            have e12 : a.tmps.getD 12 undef = .pointer (some ⟨gB1, 0, none⟩) := hout 12 (outB_spec (by kernel_rfl))
            have CC := SOF.out w hG; obtain ⟨C0, C1, C2, D0, D1, D2, E0, E1, F0, F1, G0, G1⟩ := CC
            refine Does.val (.agg #[.bool sy, .slice By my dy]) (w' := w) ?_ ⟨Below.refl _ _, rfl, hG⟩
            go_simp
          · intro listed σ w a hin hout hl hc hp hG hF
            refine Guarded.some (d := 60) (b := true) rfl rfl ((hin 8 60 rfl (hp ⟨8, .guard⟩ (by simp) rfl)).trans (hF 8 (hp ⟨8, .guard⟩ (by simp) rfl))) ?_
            refine Or.inl ⟨rfl, ?_⟩
            have e65 : a.tmps.getD 65 undef = .agg #[.bool sx, .slice Bx mx dx] := (hin 13 65 rfl (hp ⟨13, .data⟩ (by simp) rfl)).trans (hF 13 (hp ⟨13, .data⟩ (by simp) rfl))
            have e66 : a.tmps.getD 66 undef = .agg #[.bool sy, .slice By my dy] := (hin 14 66 rfl (hp ⟨14, .data⟩ (by simp) rfl)).trans (hF 14 (hp ⟨14, .data⟩ (by simp) rfl))
            refine Does.call ?_ (rzsub_z _ _ (K + val (nums ivs) L) (KM + val (nums ivs) M) (60 + L.length + M.length) w ((HX.out.below hG).in_.mono (by omega)) ((HY.out.below hG).in_.mono (by omega)) (by have := HL1.out; have := HL2.out; omega)) ?_
            · go_simp
            · rintro e w' ⟨v, rfl, z, hb⟩
              exact ⟨_, rfl, hb, z, hG.next hb⟩
          · intro listed σ w a hin hout hl hc hp hG hF
            refine Guarded.some (d := 60) (b := true) rfl rfl ((hin 8 60 rfl (hp ⟨8, .guard⟩ (by simp) rfl)).trans (hF 8 (hp ⟨8, .guard⟩ (by simp) rfl))) ?_
            refine Or.inl ⟨rfl, ?_⟩
            have e63 := hin 11 63 rfl (hp ⟨11, .data⟩ (by simp) rfl)
            have z11 := hF 11 (hp ⟨11, .data⟩ (by simp) rfl)
            have e64 : a.tmps.getD 64 undef = .slice VA q vc := (hin 12 64 rfl (hp ⟨12, .data⟩ (by simp) rfl)).trans (hF 12 (hp ⟨12, .data⟩ (by simp) rfl))
            have e67 := hin 15 67 rfl (hp ⟨15, .data⟩ (by simp) rfl)
            have z15 := hF 15 (hp ⟨15, .data⟩ (by simp) rfl)
            refine Does.call ?_ (lhas_yes _ _ (norm (L ++ M.map fun p => (p.1, -1 * p.2))) (K - KM) ((K + val (nums ivs) L) - (KM + val (nums ivs) M)) (20 + M.length + 1 + (L.length + M.length)) 20 ((60 + L.length + M.length) + 1) VA q vc ivs w z11.in_ (HV.out.below hG) z15.in_ (lin_sub ivs L M K KM) hvn (by have := HL1.out; have := HL2.out; have := norm_length L; have := norm_length (L ++ M); have := norm_length (L ++ M.map fun p => (p.1, -1 * p.2)); have := norm_length (L.map fun p => (p.1, N * p.2)); have := norm_length (L.map fun p => (p.1, -1 * p.2)); simp only [List.length_append, List.length_map] at *; omega) (by have := HL1.out; have := HL2.out; omega) (by decide) (by have := HL1.out; have := HL2.out; omega)) ?_
            · go_simp
            · rintro e w' ⟨rfl, hb⟩
              exact ⟨_, rfl, hb, rfl, hG.next hb⟩
          · intro listed σ w a hin hout hl hc hp hG hF
            refine Guarded.none rfl ?_
            have e60 : a.tmps.getD 60 undef = .bool true := (hin 8 60 rfl (hp ⟨8, .data⟩ (by simp) rfl)).trans (hF 8 (hp ⟨8, .data⟩ (by simp) rfl))
            have e68 : a.tmps.getD 68 undef = .bool true := (hin 16 68 rfl (hp ⟨16, .data⟩ (by simp) rfl)).trans (hF 16 (hp ⟨16, .data⟩ (by simp) rfl))
            refine Does.val (.bool true) (w' := w) ?_ ⟨Below.refl _ _, rfl, hG⟩
            simp only [Array.getD_eq_getD_getElem?] at e60 e68
            go_simp
          · intro listed σ w a hin hout hl hc hp hG hF
            refine Guarded.none rfl ?_
            have e69 : a.tmps.getD 69 undef = .bool true := (hin 17 69 rfl (hp ⟨17, .data⟩ (by simp) rfl)).trans (hF 17 (hp ⟨17, .data⟩ (by simp) rfl))
            refine Does.val (.bool true) (w' := w) ?_ ⟨Below.refl _ _, rfl, hG⟩
            simp only [Array.getD_eq_getD_getElem?] at e69
            go_simp
          · intro listed σ w a hin hout hl hc hp hG hF
            refine Guarded.some (d := 70) (b := true) rfl rfl ((hin 18 70 rfl (hp ⟨18, .guard⟩ (by simp) rfl)).trans (hF 18 (hp ⟨18, .guard⟩ (by simp) rfl))) ?_
            refine Or.inl ⟨rfl, ?_⟩
            have e4 : a.tmps.getD 4 undef = .pointer (some ⟨w0.heap.size, 0, none⟩) := hout 4 (outB_spec (by kernel_rfl))
            have CC := SOF.out w hG; obtain ⟨C0, C1, C2, D0, D1, D2, E0, E1, F0, F1, G0, G1⟩ := CC
            refine Does.val (.agg #[.slice A n c, .bool s, .slice B m d]) (w' := w) ?_ ⟨Below.refl _ _, rfl, hG⟩
            go_simp
          · intro listed σ w a hin hout hl hc hp hG hF
            refine Guarded.some (d := 70) (b := true) rfl rfl ((hin 18 70 rfl (hp ⟨18, .guard⟩ (by simp) rfl)).trans (hF 18 (hp ⟨18, .guard⟩ (by simp) rfl))) ?_
            refine Or.inl ⟨rfl, ?_⟩
            have e6 : a.tmps.getD 6 undef = .pointer (some ⟨w0.heap.size + 1 + 1, 0, none⟩) := hout 6 (outB_spec (by kernel_rfl))
            have CC := SOF.out w hG; obtain ⟨C0, C1, C2, D0, D1, D2, E0, E1, F0, F1, G0, G1⟩ := CC
            refine Does.val (.agg #[.bool s3, .slice B3 m3 d3]) (w' := w) ?_ ⟨Below.refl _ _, rfl, hG⟩
            go_simp
          · intro listed σ w a hin hout hl hc hp hG hF
            refine Guarded.some (d := 70) (b := true) rfl rfl ((hin 18 70 rfl (hp ⟨18, .guard⟩ (by simp) rfl)).trans (hF 18 (hp ⟨18, .guard⟩ (by simp) rfl))) ?_
            refine Or.inl ⟨rfl, ?_⟩
            have e71 : a.tmps.getD 71 undef = .agg #[.slice A n c, .bool s, .slice B m d] := (hin 19 71 rfl (hp ⟨19, .data⟩ (by simp) rfl)).trans (hF 19 (hp ⟨19, .data⟩ (by simp) rfl))
            have e72 : a.tmps.getD 72 undef = .agg #[.bool s3, .slice B3 m3 d3] := (hin 20 72 rfl (hp ⟨20, .data⟩ (by simp) rfl)).trans (hF 20 (hp ⟨20, .data⟩ (by simp) rfl))
            refine Does.call ?_ (tscale_any _ _ L K N 20 20 w (HA.out.below hG) (HN.out.below hG) (by have := HL1.out; omega) (by decide) (by decide)) ?_
            · go_simp
            · rintro e w' ⟨v, rfl, z, hb⟩
              exact ⟨_, rfl, hb, z, hG.next hb⟩
          · intro listed σ w a hin hout hl hc hp hG hF
            refine Guarded.some (d := 70) (b := true) rfl rfl ((hin 18 70 rfl (hp ⟨18, .guard⟩ (by simp) rfl)).trans (hF 18 (hp ⟨18, .guard⟩ (by simp) rfl))) ?_
            refine Or.inl ⟨rfl, ?_⟩
            have e3 : a.tmps.getD 3 undef = .slice VA q vc := hout 3 (outB_spec (by kernel_rfl))
            refine Does.val (.slice VA q vc) (w' := w) ?_ ⟨Below.refl _ _, rfl, hG⟩
            simp only [Array.getD_eq_getD_getElem?] at e3
            go_simp
          · intro listed σ w a hin hout hl hc hp hG hF
            refine Guarded.some (d := 70) (b := true) rfl rfl ((hin 18 70 rfl (hp ⟨18, .guard⟩ (by simp) rfl)).trans (hF 18 (hp ⟨18, .guard⟩ (by simp) rfl))) ?_
            refine Or.inl ⟨rfl, ?_⟩
            have e11 : a.tmps.getD 11 undef = .pointer (some ⟨gB0, 0, none⟩) := hout 11 (outB_spec (by kernel_rfl))
            have CC := SOF.out w hG; obtain ⟨C0, C1, C2, D0, D1, D2, E0, E1, F0, F1, G0, G1⟩ := CC
            refine Does.val (.agg #[.bool sx, .slice Bx mx dx]) (w' := w) ?_ ⟨Below.refl _ _, rfl, hG⟩
            go_simp
          · intro listed σ w a hin hout hl hc hp hG hF
            refine Guarded.some (d := 70) (b := true) rfl rfl ((hin 18 70 rfl (hp ⟨18, .guard⟩ (by simp) rfl)).trans (hF 18 (hp ⟨18, .guard⟩ (by simp) rfl))) ?_
            refine Or.inl ⟨rfl, ?_⟩
            have e6 : a.tmps.getD 6 undef = .pointer (some ⟨w0.heap.size + 1 + 1, 0, none⟩) := hout 6 (outB_spec (by kernel_rfl))
            have CC := SOF.out w hG; obtain ⟨C0, C1, C2, D0, D1, D2, E0, E1, F0, F1, G0, G1⟩ := CC
            refine Does.val (.agg #[.bool s3, .slice B3 m3 d3]) (w' := w) ?_ ⟨Below.refl _ _, rfl, hG⟩
            go_simp
          · intro listed σ w a hin hout hl hc hp hG hF
            refine Guarded.some (d := 70) (b := true) rfl rfl ((hin 18 70 rfl (hp ⟨18, .guard⟩ (by simp) rfl)).trans (hF 18 (hp ⟨18, .guard⟩ (by simp) rfl))) ?_
            refine Or.inl ⟨rfl, ?_⟩
            have e75 : a.tmps.getD 75 undef = .agg #[.bool sx, .slice Bx mx dx] := (hin 23 75 rfl (hp ⟨23, .data⟩ (by simp) rfl)).trans (hF 23 (hp ⟨23, .data⟩ (by simp) rfl))
            have e76 : a.tmps.getD 76 undef = .agg #[.bool s3, .slice B3 m3 d3] := (hin 24 76 rfl (hp ⟨24, .data⟩ (by simp) rfl)).trans (hF 24 (hp ⟨24, .data⟩ (by simp) rfl))
            refine Does.call ?_ (rzmul_z _ _ (K + val (nums ivs) L) N (20 + 20 + L.length) 20 w (HX.out.below hG).in_ (HN.out.below hG) (by have := HL1.out; omega) (by decide)) ?_
            · go_simp
            · rintro e w' ⟨v, rfl, z, hb⟩
              exact ⟨_, rfl, hb, z, hG.next hb⟩
          · intro listed σ w a hin hout hl hc hp hG hF
            refine Guarded.some (d := 70) (b := true) rfl rfl ((hin 18 70 rfl (hp ⟨18, .guard⟩ (by simp) rfl)).trans (hF 18 (hp ⟨18, .guard⟩ (by simp) rfl))) ?_
            refine Or.inl ⟨rfl, ?_⟩
            have e73 := hin 21 73 rfl (hp ⟨21, .data⟩ (by simp) rfl)
            have z21 := hF 21 (hp ⟨21, .data⟩ (by simp) rfl)
            have e74 : a.tmps.getD 74 undef = .slice VA q vc := (hin 22 74 rfl (hp ⟨22, .data⟩ (by simp) rfl)).trans (hF 22 (hp ⟨22, .data⟩ (by simp) rfl))
            have e77 := hin 25 77 rfl (hp ⟨25, .data⟩ (by simp) rfl)
            have z25 := hF 25 (hp ⟨25, .data⟩ (by simp) rfl)
            refine Does.call ?_ (lhas_yes _ _ (norm (L.map fun p => (p.1, N * p.2))) (N * K) ((K + val (nums ivs) L) * N) (20 + (20 + L.length)) 20 ((20 + 20 + L.length) + 20) VA q vc ivs w z21.in_ (HV.out.below hG) z25.in_ (lin_scale ivs L K N) hvn (by have := HL1.out; have := HL2.out; have := norm_length L; have := norm_length (L ++ M); have := norm_length (L ++ M.map fun p => (p.1, -1 * p.2)); have := norm_length (L.map fun p => (p.1, N * p.2)); have := norm_length (L.map fun p => (p.1, -1 * p.2)); simp only [List.length_append, List.length_map] at *; omega) (by have := HL1.out; have := HL2.out; omega) (by decide) (by have := HL1.out; have := HL2.out; omega)) ?_
            · go_simp
            · rintro e w' ⟨rfl, hb⟩
              exact ⟨_, rfl, hb, rfl, hG.next hb⟩
          · intro listed σ w a hin hout hl hc hp hG hF
            refine Guarded.none rfl ?_
            have e70 : a.tmps.getD 70 undef = .bool true := (hin 18 70 rfl (hp ⟨18, .data⟩ (by simp) rfl)).trans (hF 18 (hp ⟨18, .data⟩ (by simp) rfl))
            have e78 : a.tmps.getD 78 undef = .bool true := (hin 26 78 rfl (hp ⟨26, .data⟩ (by simp) rfl)).trans (hF 26 (hp ⟨26, .data⟩ (by simp) rfl))
            refine Does.val (.bool true) (w' := w) ?_ ⟨Below.refl _ _, rfl, hG⟩
            simp only [Array.getD_eq_getD_getElem?] at e70 e78
            go_simp
          · intro listed σ w a hin hout hl hc hp hG hF
            refine Guarded.none rfl ?_
            have e79 : a.tmps.getD 79 undef = .bool true := (hin 27 79 rfl (hp ⟨27, .data⟩ (by simp) rfl)).trans (hF 27 (hp ⟨27, .data⟩ (by simp) rfl))
            refine Does.val (.bool true) (w' := w) ?_ ⟨Below.refl _ _, rfl, hG⟩
            simp only [Array.getD_eq_getD_getElem?] at e79
            go_simp
          · intro listed σ w a hin hout hl hc hp hG hF
            refine Guarded.some (d := 80) (b := true) rfl rfl ((hin 28 80 rfl (hp ⟨28, .guard⟩ (by simp) rfl)).trans (hF 28 (hp ⟨28, .guard⟩ (by simp) rfl))) ?_
            refine Or.inl ⟨rfl, ?_⟩
            have e4 : a.tmps.getD 4 undef = .pointer (some ⟨w0.heap.size, 0, none⟩) := hout 4 (outB_spec (by kernel_rfl))
            have CC := SOF.out w hG; obtain ⟨C0, C1, C2, D0, D1, D2, E0, E1, F0, F1, G0, G1⟩ := CC
            refine Does.val (.agg #[.slice A n c, .bool s, .slice B m d]) (w' := w) ?_ ⟨Below.refl _ _, rfl, hG⟩
            go_simp
          · intro listed σ w a hin hout hl hc hp hG hF
            refine Guarded.some (d := 80) (b := true) rfl rfl ((hin 28 80 rfl (hp ⟨28, .guard⟩ (by simp) rfl)).trans (hF 28 (hp ⟨28, .guard⟩ (by simp) rfl))) ?_
            refine Or.inl ⟨rfl, ?_⟩
            have e81 : a.tmps.getD 81 undef = .agg #[.slice A n c, .bool s, .slice B m d] := (hin 29 81 rfl (hp ⟨29, .data⟩ (by simp) rfl)).trans (hF 29 (hp ⟨29, .data⟩ (by simp) rfl))
            refine Does.call ?_ (tneg_any _ L K 20 w (HA.out.below hG) (by have := HL1.out; omega) (by decide)) ?_
            · go_simp
            · rintro e w' ⟨v, rfl, z, hb⟩
              exact ⟨_, rfl, hb, z, hG.next hb⟩
          · intro listed σ w a hin hout hl hc hp hG hF
            refine Guarded.some (d := 80) (b := true) rfl rfl ((hin 28 80 rfl (hp ⟨28, .guard⟩ (by simp) rfl)).trans (hF 28 (hp ⟨28, .guard⟩ (by simp) rfl))) ?_
            refine Or.inl ⟨rfl, ?_⟩
            have e3 : a.tmps.getD 3 undef = .slice VA q vc := hout 3 (outB_spec (by kernel_rfl))
            refine Does.val (.slice VA q vc) (w' := w) ?_ ⟨Below.refl _ _, rfl, hG⟩
            simp only [Array.getD_eq_getD_getElem?] at e3
            go_simp
          · intro listed σ w a hin hout hl hc hp hG hF
            refine Guarded.some (d := 80) (b := true) rfl rfl ((hin 28 80 rfl (hp ⟨28, .guard⟩ (by simp) rfl)).trans (hF 28 (hp ⟨28, .guard⟩ (by simp) rfl))) ?_
            refine Or.inl ⟨rfl, ?_⟩
            have e11 : a.tmps.getD 11 undef = .pointer (some ⟨gB0, 0, none⟩) := hout 11 (outB_spec (by kernel_rfl))
            have CC := SOF.out w hG; obtain ⟨C0, C1, C2, D0, D1, D2, E0, E1, F0, F1, G0, G1⟩ := CC
            refine Does.val (.agg #[.bool sx, .slice Bx mx dx]) (w' := w) ?_ ⟨Below.refl _ _, rfl, hG⟩
            go_simp
          · intro listed σ w a hin hout hl hc hp hG hF
            refine Guarded.some (d := 80) (b := true) rfl rfl ((hin 28 80 rfl (hp ⟨28, .guard⟩ (by simp) rfl)).trans (hF 28 (hp ⟨28, .guard⟩ (by simp) rfl))) ?_
            refine Or.inl ⟨rfl, ?_⟩
            have e84 : a.tmps.getD 84 undef = .agg #[.bool sx, .slice Bx mx dx] := (hin 32 84 rfl (hp ⟨32, .data⟩ (by simp) rfl)).trans (hF 32 (hp ⟨32, .data⟩ (by simp) rfl))
            refine Does.call ?_ (rneg_z _ (K + val (nums ivs) L) (20 + 20 + L.length) w (HX.out.below hG).in_ (by have := HL1.out; omega)) ?_
            · go_simp
            · rintro e w' ⟨v, rfl, z, hb⟩
              exact ⟨_, rfl, hb, z, hG.next hb⟩
          · intro listed σ w a hin hout hl hc hp hG hF
            refine Guarded.some (d := 80) (b := true) rfl rfl ((hin 28 80 rfl (hp ⟨28, .guard⟩ (by simp) rfl)).trans (hF 28 (hp ⟨28, .guard⟩ (by simp) rfl))) ?_
            refine Or.inl ⟨rfl, ?_⟩
            have e82 := hin 30 82 rfl (hp ⟨30, .data⟩ (by simp) rfl)
            have z30 := hF 30 (hp ⟨30, .data⟩ (by simp) rfl)
            have e83 : a.tmps.getD 83 undef = .slice VA q vc := (hin 31 83 rfl (hp ⟨31, .data⟩ (by simp) rfl)).trans (hF 31 (hp ⟨31, .data⟩ (by simp) rfl))
            have e85 := hin 33 85 rfl (hp ⟨33, .data⟩ (by simp) rfl)
            have z33 := hF 33 (hp ⟨33, .data⟩ (by simp) rfl)
            refine Does.call ?_ (lhas_yes _ _ (norm (L.map fun p => (p.1, -1 * p.2))) (-K) (-(K + val (nums ivs) L)) (20 + L.length) 20 (20 + 20 + L.length) VA q vc ivs w z30.in_ (HV.out.below hG) z33.in_ (lin_neg ivs L K) hvn (by have := HL1.out; have := HL2.out; have := norm_length L; have := norm_length (L ++ M); have := norm_length (L ++ M.map fun p => (p.1, -1 * p.2)); have := norm_length (L.map fun p => (p.1, N * p.2)); have := norm_length (L.map fun p => (p.1, -1 * p.2)); simp only [List.length_append, List.length_map] at *; omega) (by have := HL1.out; have := HL2.out; omega) (by decide) (by have := HL1.out; have := HL2.out; omega)) ?_
            · go_simp
            · rintro e w' ⟨rfl, hb⟩
              exact ⟨_, rfl, hb, rfl, hG.next hb⟩
          · intro listed σ w a hin hout hl hc hp hG hF
            refine Guarded.none rfl ?_
            have e80 : a.tmps.getD 80 undef = .bool true := (hin 28 80 rfl (hp ⟨28, .data⟩ (by simp) rfl)).trans (hF 28 (hp ⟨28, .data⟩ (by simp) rfl))
            have e86 : a.tmps.getD 86 undef = .bool true := (hin 34 86 rfl (hp ⟨34, .data⟩ (by simp) rfl)).trans (hF 34 (hp ⟨34, .data⟩ (by simp) rfl))
            refine Does.val (.bool true) (w' := w) ?_ ⟨Below.refl _ _, rfl, hG⟩
            simp only [Array.getD_eq_getD_getElem?] at e80 e86
            go_simp
          · intro listed σ w a hin hout hl hc hp hG hF
            refine Guarded.none rfl ?_
            have e87 : a.tmps.getD 87 undef = .bool true := (hin 35 87 rfl (hp ⟨35, .data⟩ (by simp) rfl)).trans (hF 35 (hp ⟨35, .data⟩ (by simp) rfl))
            refine Does.val (.bool true) (w' := w) ?_ ⟨Below.refl _ _, rfl, hG⟩
            simp only [Array.getD_eq_getD_getElem?] at e87
            go_simp
          · intro listed σ w a hin hout hl hc hp hG hF
            refine Guarded.some (d := 88) (b := true) rfl rfl ((hin 36 88 rfl (hp ⟨36, .guard⟩ (by simp) rfl)).trans (hF 36 (hp ⟨36, .guard⟩ (by simp) rfl))) ?_
            refine Or.inl ⟨rfl, ?_⟩
            have e4 : a.tmps.getD 4 undef = .pointer (some ⟨w0.heap.size, 0, none⟩) := hout 4 (outB_spec (by kernel_rfl))
            have CC := SOF.out w hG; obtain ⟨C0, C1, C2, D0, D1, D2, E0, E1, F0, F1, G0, G1⟩ := CC
            refine Does.val (.agg #[.slice A n c, .bool s, .slice B m d]) (w' := w) ?_ ⟨Below.refl _ _, rfl, hG⟩
            go_simp
          · intro listed σ w a hin hout hl hc hp hG hF
            refine Guarded.some (d := 88) (b := true) rfl rfl ((hin 36 88 rfl (hp ⟨36, .guard⟩ (by simp) rfl)).trans (hF 36 (hp ⟨36, .guard⟩ (by simp) rfl))) ?_
            refine Or.inl ⟨rfl, ?_⟩
            have e89 : a.tmps.getD 89 undef = .agg #[.slice A n c, .bool s, .slice B m d] := (hin 37 89 rfl (hp ⟨37, .data⟩ (by simp) rfl)).trans (hF 37 (hp ⟨37, .data⟩ (by simp) rfl))
            refine Does.call ?_ (tplain_any _ L K 20 w (HA.out.below hG) (by have := HL1.out; omega) (by decide)) ?_
            · go_simp
            · rintro e w' ⟨v, rfl, z, hb⟩
              exact ⟨_, rfl, hb, z, hG.next hb⟩
          · intro listed σ w a hin hout hl hc hp hG hF
            refine Guarded.some (d := 88) (b := true) rfl rfl ((hin 36 88 rfl (hp ⟨36, .guard⟩ (by simp) rfl)).trans (hF 36 (hp ⟨36, .guard⟩ (by simp) rfl))) ?_
            refine Or.inl ⟨rfl, ?_⟩
            have e3 : a.tmps.getD 3 undef = .slice VA q vc := hout 3 (outB_spec (by kernel_rfl))
            refine Does.val (.slice VA q vc) (w' := w) ?_ ⟨Below.refl _ _, rfl, hG⟩
            simp only [Array.getD_eq_getD_getElem?] at e3
            go_simp
          · intro listed σ w a hin hout hl hc hp hG hF
            refine Guarded.some (d := 88) (b := true) rfl rfl ((hin 36 88 rfl (hp ⟨36, .guard⟩ (by simp) rfl)).trans (hF 36 (hp ⟨36, .guard⟩ (by simp) rfl))) ?_
            refine Or.inl ⟨rfl, ?_⟩
            have e11 : a.tmps.getD 11 undef = .pointer (some ⟨gB0, 0, none⟩) := hout 11 (outB_spec (by kernel_rfl))
            have CC := SOF.out w hG; obtain ⟨C0, C1, C2, D0, D1, D2, E0, E1, F0, F1, G0, G1⟩ := CC
            refine Does.val (.agg #[.bool sx, .slice Bx mx dx]) (w' := w) ?_ ⟨Below.refl _ _, rfl, hG⟩
            go_simp
          · intro listed σ w a hin hout hl hc hp hG hF
            refine Guarded.some (d := 88) (b := true) rfl rfl ((hin 36 88 rfl (hp ⟨36, .guard⟩ (by simp) rfl)).trans (hF 36 (hp ⟨36, .guard⟩ (by simp) rfl))) ?_
            refine Or.inl ⟨rfl, ?_⟩
            have e90 := hin 38 90 rfl (hp ⟨38, .data⟩ (by simp) rfl)
            have z38 := hF 38 (hp ⟨38, .data⟩ (by simp) rfl)
            have e91 : a.tmps.getD 91 undef = .slice VA q vc := (hin 39 91 rfl (hp ⟨39, .data⟩ (by simp) rfl)).trans (hF 39 (hp ⟨39, .data⟩ (by simp) rfl))
            have e92 : a.tmps.getD 92 undef = .agg #[.bool sx, .slice Bx mx dx] := (hin 40 92 rfl (hp ⟨40, .data⟩ (by simp) rfl)).trans (hF 40 (hp ⟨40, .data⟩ (by simp) rfl))
            refine Does.call ?_ (lhas_yes _ _ (norm L) K (K + val (nums ivs) L) (20 + L.length) 20 (20 + 20 + L.length) VA q vc ivs w z38.in_ (HV.out.below hG) (HX.out.below hG).in_ (lin_plain ivs L K) hvn (by have := HL1.out; have := HL2.out; have := norm_length L; have := norm_length (L ++ M); have := norm_length (L ++ M.map fun p => (p.1, -1 * p.2)); have := norm_length (L.map fun p => (p.1, N * p.2)); have := norm_length (L.map fun p => (p.1, -1 * p.2)); simp only [List.length_append, List.length_map] at *; omega) (by have := HL1.out; have := HL2.out; omega) (by decide) (by have := HL1.out; have := HL2.out; omega)) ?_
            · go_simp
            · rintro e w' ⟨rfl, hb⟩
              exact ⟨_, rfl, hb, rfl, hG.next hb⟩
          · intro listed σ w a hin hout hl hc hp hG hF
            refine Guarded.none rfl ?_
            have e88 : a.tmps.getD 88 undef = .bool true := (hin 36 88 rfl (hp ⟨36, .data⟩ (by simp) rfl)).trans (hF 36 (hp ⟨36, .data⟩ (by simp) rfl))
            have e93 : a.tmps.getD 93 undef = .bool true := (hin 41 93 rfl (hp ⟨41, .data⟩ (by simp) rfl)).trans (hF 41 (hp ⟨41, .data⟩ (by simp) rfl))
            refine Does.val (.bool true) (w' := w) ?_ ⟨Below.refl _ _, rfl, hG⟩
            simp only [Array.getD_eq_getD_getElem?] at e88 e93
            go_simp
          · intro listed σ w a hin hout hl hc hp hG hF
            refine Guarded.none rfl ?_
            have e94 : a.tmps.getD 94 undef = .bool true := (hin 42 94 rfl (hp ⟨42, .data⟩ (by simp) rfl)).trans (hF 42 (hp ⟨42, .data⟩ (by simp) rfl))
            refine Does.val (.bool true) (w' := w) ?_ ⟨Below.refl _ _, rfl, hG⟩
            simp only [Array.getD_eq_getD_getElem?] at e94
            go_simp
        · intro listed σ Wa hall hG hF
          rw [show mid _ σ listed _ = (Act.put (Act.put (Act.put (Act.put (Act.put (Act.put (Act.put (Act.put (Act.put (Act.put (Act.put (Act.put (Act.put (Act.put (Act.put (Act.put (Act.put (Act.put (Act.put (Act.put (Act.put (Act.put (Act.put (Act.put (Act.put (Act.put (Act.put (Act.put (Act.put (Act.put (Act.put (Act.put (Act.put (Act.put (Act.put (Act.put (Act.put (Act.put (Act.put (Act.put (Act.put (Act.put (Act.put (Act.put _ (some 52) (σ 0)) (some 53) (σ 1)) (some 54) (σ 2)) (some 55) (σ 3)) (some 56) (σ 4)) (some 57) (σ 5)) (some 58) (σ 6)) (some 59) (σ 7)) (some 60) (σ 8)) (some 61) (σ 9)) (some 62) (σ 10)) (some 63) (σ 11)) (some 64) (σ 12)) (some 65) (σ 13)) (some 66) (σ 14)) (some 67) (σ 15)) (some 68) (σ 16)) (some 69) (σ 17)) (some 70) (σ 18)) (some 71) (σ 19)) (some 72) (σ 20)) (some 73) (σ 21)) (some 74) (σ 22)) (some 75) (σ 23)) (some 76) (σ 24)) (some 77) (σ 25)) (some 78) (σ 26)) (some 79) (σ 27)) (some 80) (σ 28)) (some 81) (σ 29)) (some 82) (σ 30)) (some 83) (σ 31)) (some 84) (σ 32)) (some 85) (σ 33)) (some 86) (σ 34)) (some 87) (σ 35)) (some 88) (σ 36)) (some 89) (σ 37)) (some 90) (σ 38)) (some 91) (σ 39)) (some 92) (σ 40)) (some 93) (σ 41)) (some 94) (σ 42)) (some 8) (σ 43)) from (mid_all hall).trans rfl]
          generalize σ 0 = tt0
          generalize σ 1 = tt1
          generalize σ 2 = tt2
          generalize σ 3 = tt3
          generalize σ 4 = tt4
          generalize σ 5 = tt5
          generalize σ 6 = tt6
          generalize σ 7 = tt7
          generalize σ 8 = tt8
          generalize σ 9 = tt9
          generalize σ 10 = tt10
          generalize σ 11 = tt11
          generalize σ 12 = tt12
          generalize σ 13 = tt13
          generalize σ 14 = tt14
          generalize σ 15 = tt15
          generalize σ 16 = tt16
          generalize σ 17 = tt17
          generalize σ 18 = tt18
          generalize σ 19 = tt19
          generalize σ 20 = tt20
          generalize σ 21 = tt21
          generalize σ 22 = tt22
          generalize σ 23 = tt23
          generalize σ 24 = tt24
          generalize σ 25 = tt25
          generalize σ 26 = tt26
          generalize σ 27 = tt27
          generalize σ 28 = tt28
          generalize σ 29 = tt29
          generalize σ 30 = tt30
          generalize σ 31 = tt31
          generalize σ 32 = tt32
          generalize σ 33 = tt33
          generalize σ 34 = tt34
          generalize σ 35 = tt35
          generalize σ 36 = tt36
          generalize σ 37 = tt37
          generalize σ 38 = tt38
          generalize σ 39 = tt39
          generalize σ 40 = tt40
          generalize σ 41 = tt41
          generalize σ 42 = tt42
          rw [show σ 43 = .bool true from hF 43 (by decide)]
          simp only [Act.put, List.setIfInBounds_toArray, List.set_cons_zero, List.set_cons_succ]
          have TG := hG
          clear hF hG hall
          clear σ
          have HE := hide (HTT.out.next TG)
          clear TG SOF HA HB HN HV HX HY
          go_wp2_with fail
          go_ret
          exact ⟨rfl, HE.out⟩
end Go.Proofs.YtakcgkohnomgjaaGreatDoor
