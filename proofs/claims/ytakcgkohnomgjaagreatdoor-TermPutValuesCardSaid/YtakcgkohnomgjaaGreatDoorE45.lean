/- Texts of one seat, put together: TermPutValues. -/
import Derived.Test.YtakcgkohnomgjaaGreatDoorE41
import Derived.Test.YtakcgkohnomgjaaGreatDoorE42
import Derived.Test.YtakcgkohnomgjaaGreatDoorE43
import Derived.Test.YtakcgkohnomgjaaGreatDoorE44
set_option linter.unusedVariables false
set_option linter.unusedSimpArgs false
/- TermPutValues: the walk. -/
namespace Go.Proofs.YtakcgkohnomgjaaGreatDoor
open Go.RowKit
open Tm

theorem nums_append (us vs : List IV) : nums (us ++ vs) = nums us ++ nums vs := List.map_append
theorem innerAt_out {us : List Int} {ts : List TV} {q : Nat} (h : ¬ q < ts.length) : innerAt us (pairs ts) q = us.getD q 0 := by
  unfold innerAt pairs
  rw [List.getElem?_eq_none (by rw [List.length_map]; omega)]
theorem TIn.parts3 {w : World} {A B : Option Addr} {n c m d k : Nat} {s : Bool} {L : List (Int × Int)} {K : Int} (h : TIn w (.agg #[.slice A n c, .bool s, .slice B m d]) L K k) : PIn w A n L k := by
  obtain ⟨A', n', c', s', B', m', d', e, h1, h2, h3, h4⟩ := h
  have e2 : A' = A ∧ n' = n ∧ c' = c ∧ s' = s ∧ B' = B ∧ m' = m ∧ d' = d := by simpa [eq_comm, and_assoc] using e
  obtain ⟨rfl, rfl, rfl, rfl, rfl, rfl, rfl⟩ := e2
  exact h1
theorem LRow.iin {w : World} {base n c : Nat} {A : Option Addr} {xs : List Int} (h : LRow 3 1 w base (.slice A n c) n (ints xs)) (hl : xs.length = n) : IIn w A n xs := by
  refine ⟨hl, fun hn => ?_⟩
  obtain ⟨g, rfl, -, -, hc⟩ := h.cell hn
  exact ⟨g, 0, rfl, fun j u hu => by rw [Nat.zero_add]; exact (hc j u hu).1⟩
theorem LRow.vals {w : World} {base n c k : Nat} {A : Option Addr} {us : List IV} (h : LRow 26 2 w base (.slice A n c) n (flatI us)) (hl : us.length = n) (hz : ∀ p ∈ us, ZIn w p.num p.Z k) : ValsIn w A n us k := by
  refine ⟨hl, fun hn => ?_, hz⟩
  obtain ⟨g, rfl, -, -, hc⟩ := h.cell hn
  exact ⟨g, 0, rfl, fun j u hu => by rw [Nat.zero_add]; exact (hc j u hu).1⟩
theorem place_length {vs : List Int} {ts : List TV} (h : ∀ t ∈ ts, t.L.length ≤ 30) (v : Int) : (place vs (pairs ts) v).1.length ≤ 30 := by
  unfold place
  cases firstAt v vs with
  | none => simp
  | some i =>
    dsimp only
    rw [List.getD_eq_getElem?_getD]
    unfold pairs
    rw [List.getElem?_map]
    cases hi : ts[i]? with
    | none => simp
    | some t => simpa using h t (List.mem_of_getElem? hi)
theorem putL_length {vs : List Int} {ts : List TV} (h : ∀ t ∈ ts, t.L.length ≤ 30) (P : List (Int × Int)) : (putL vs (pairs ts) P).length ≤ 30 * P.length := by
  induction P with
  | nil => simp [putL]
  | cons p ps ih =>
    rw [putL, List.length_append, List.length_map, List.length_cons]
    have := place_length (vs := vs) h p.1
    omega
theorem uptoI_range {m : Nat} (hm : m ≤ 8) : ∀ x ∈ uptoI m, -9223372036854775808 ≤ x ∧ x ≤ 9223372036854775807 := by
  intro x hx
  unfold uptoI at hx
  obtain ⟨i, hi, rfl⟩ := List.mem_map.1 hx
  have := List.mem_range.1 hi
  omega
def PVRel (W5 : World) (tn : Nat) (f : Nat → Int) (q : Nat) (s1 s2 : Value) (wr : World) : Prop :=
  LRow 3 1 wr W5.heap.size s1 (uptoI (min q tn)).length (ints (uptoI (min q tn))) ∧ ∃ us : List IV, LRow 26 2 wr W5.heap.size s2 us.length (flatI us) ∧ us.length = q ∧ (∀ p ∈ us, ZIn wr p.num p.Z 70) ∧ nums us = (List.range q).map f ∧ Below W5.heap.size W5 wr
theorem innerAt_in {us : List Int} {ts : List TV} {q : Nat} {t : TV} (h : ts[q]? = some t) : innerAt us (pairs ts) q = t.K + val us t.L := by
  unfold innerAt pairs
  rw [List.getElem?_map, h]
  rfl
theorem LRow.onlyB {T : TypeId} {sz n base g : Nat} {w w' : World} {v : Value} {xs : List Value} (h : LRow T sz w base v n xs) (ho : Only g w w') (hne : ∀ k, v.ownBlock = some k → k ≠ g) : LRow T sz w' base v n xs := by
  obtain ⟨hl, ⟨rfl, rfl⟩ | ⟨b, cap, cur, rfl, h1, h2, h3⟩⟩ := h
  · exact ⟨hl, .inl ⟨rfl, rfl⟩⟩
  · refine ⟨hl, .inr ⟨b, cap, cur, rfl, h1, ?_, h3⟩⟩
    rw [ho.gb.block b (Array.getElem?_eq_some_iff.1 h2).1 (fun e => hne b rfl (by injection e))]
    exact h2
theorem LRow.apart {T U : TypeId} {sz n base g : Nat} {w : World} {v : Value} {xs : List Value} {cs : Array Value} (h : LRow T sz w base v n xs) (hb : Box U w g cs) (hTU : T ≠ U) : ∀ k, v.ownBlock = some k → k ≠ g := by
  intro k hk e
  subst e
  obtain ⟨-, ⟨rfl, rfl⟩ | ⟨b, cap, cur, rfl, h1, h2, h3⟩⟩ := h
  · cases hk
  · have e' : b = k := by simpa [Value.ownBlock] using hk
    subst e'
    unfold Box at hb
    rw [h2] at hb
    injection hb with hb
    injection hb with k4 k5
    exact hTU k5
theorem Box.newI (w : World) (p : IV) : Box 26 (w.alloc (.cells #[.bool p.s, .slice p.B p.m p.d] 26)) w.heap.size p.cells.toArray := Box.new _ _ _
theorem Box.newI2 (w : World) (o : Obj) (p : IV) : Box 26 ((w.alloc o).alloc (.cells #[.bool p.s, .slice p.B p.m p.d] 26)) (w.heap.size + 1) p.cells.toArray := by
  have h := Box.newI (w.alloc o) p
  rwa [size_alloc] at h
theorem PVRel.stepB {W5 w8 w9 : World} {tn q : Nat} {f : Nat → Int} {s1 s2 v2 : Value} {us : List IV} {p : IV} (m1 : LRow 3 1 w8 W5.heap.size s1 (uptoI (min (q + 1) tn)).length (ints (uptoI (min (q + 1) tn)))) (m2 : LRow 26 2 w8 W5.heap.size s2 us.length (flatI us)) (hlu : us.length = q)
    (hz : ∀ p ∈ us, ZIn w8 p.num p.Z 70) (hn : nums us = (List.range q).map f) (hB : Below W5.heap.size W5 w8) (hp : ZIn w8 p.num p.Z 70) (hf : p.Z = f q) (l4 : LRow 26 2 w9 W5.heap.size v2 (us ++ [p]).length (flatI (us ++ [p]))) (g4 : w8.grownBy w9 s2.ownBlock) : PVRel W5 tn f (q + 1) s1 v2 w9 := by
  have hk := m2.kp g4
  refine ⟨m1.unlike m2 (by decide) g4, us ++ [p], l4, by simp [hlu], fun x hx => ?_, ?_, m2.old hB g4 (Nat.le_refl _) (Nat.le_refl _)⟩
  · rcases List.mem_append.1 hx with hx | hx
    · exact (hz x hx).kp hk
    · simp at hx; subst hx; exact hp.kp hk
  · rw [nums_append, hn, List.range_succ, List.map_append, List.map_cons, List.map_nil, ← hf]
    rfl
set_option maxRecDepth 100000 in
set_option maxHeartbeats 8000000 in
theorem termPutValues_walk (v : Value) (L : List (Int × Int)) (K : Int) (TA : Option Addr) (tn tc : Nat) (ts : List TV) (VA : Option Addr) (vn vc : Nat) (ivs : List IV) (w0 : World) (hv : TIn w0 v L K big) (hts : TermsIn w0 TA tn ts big) (htc1 : tn ≤ tc) (htc2 : tc ≤ 9223372036854775807) (hvs : ValsIn w0 VA vn ivs big) (hvc1 : vn ≤ vc) (hvc2 : vc ≤ 9223372036854775807) :
    Calls Tryz.prog 5 #[v, .slice TA tn tc, .slice VA vn vc] w0 (YesPost w0) := by
  have hv0 := hv
  have htn : tn ≤ 9223372036854775807 := by omega
  have hvn : vn ≤ 9223372036854775807 := by omega
  obtain ⟨A, n, c, s, B, m, d, rfl, hp, hc1, hc2, hK⟩ := hv
  have HLn := hide hp.len
  have HTS := hide hts
  have HVV := hide hvs
  have HVL := hide hvs.1
  have HTL := hide hts.1
  obtain ⟨z0, z1, -⟩ := bstart1 28 w0 #[.slice A n c, .bool s, .slice B m d]
  have H1 := hide hv0
  clear hv0 hp hK hts hvs
  go_enter Tryz.func5, Tryz.ntmps5
  go_wp2_with fail
  refine (putting_yes _).mono ?_
  rintro e w1 ⟨rfl, b1⟩
  go_wp2_with fail
  refine (looking_yes _).mono ?_
  rintro e w2 ⟨rfl, b2⟩
  have q0 := (z0.next b1).next b2
  have T2 := hide ((z1.next b1).next b2)
  have x0 := q0.c0
  have x1 := q0.c1
  have x2 := q0.c2
  have Q0 := hide q0
  clear z0 z1 b1 b2 q0
  by_cases h12 : (12 : Int) < n
  · go_wp2_with fail
    go_ret
    exact ⟨rfl, T2.out⟩
  have H12 := hide h12
  have bA := bl_alloc w2 (.cells #[.slice A n c, .bool s, .slice B m d] 28)
  have hbx : Box 28 (w2.alloc (.cells #[.slice A n c, .bool s, .slice B m d] 28)) w2.heap.size (flatT [⟨A, n, c, s, B, m, d, L, K⟩]).toArray := Box.new _ _ _
  have hfw := few_any (some ⟨w2.heap.size, 0, none⟩) 1 1 _ _ (TermsIn.box (k := big) hbx (fun t ht => by
    simp only [List.mem_cons, List.not_mem_nil, or_false] at ht
    subst ht
    exact (H1.out.below T2.out).below bA)) (by decide)
  have Q1 := hide (Q0.out.next bA)
  have T3 := hide (T2.out.next bA)
  clear hbx bA
  go_wp2_with fail
  refine hfw.mono ?_
  rintro e w3 ⟨r, rfl, hr, b3⟩
  have HR := hide hr
  have T4 := hide (T3.out.next b3)
  have Q2 := hide (Q1.out.next b3)
  have HB3 := hide b3
  clear x0 x1 x2 hfw hr b3
  cases r with
  | false =>
    go_wp2_with fail
    go_ret
    exact ⟨rfl, T4.out⟩
  | true =>
    have F1 := hide (HR.out rfl ⟨A, n, c, s, B, m, d, L, K⟩ (by simp))
    have HA := hide (show TIn w3 (.agg #[.slice A n c, .bool s, .slice B m d]) L K 20 from F1.out.2.below HB3.out)
    have HL := hide (show L.length ≤ 12 by rw [HLn.out]; have := H12.out; omega)
    have hft := few_any TA tn tc ts w3 (HTS.out.below T4.out) htn
    go_wp2_with fail
    refine hft.mono ?_
    rintro e w4 ⟨r2, rfl, hr2, b4⟩
    have HR2 := hide hr2
    have T5 := hide (T4.out.next b4)
    have HA := hide (HA.out.below b4)
    have Q3 := hide (Q2.out.next b4)
    have HB4 := hide b4
    clear hft hr2 b4
    cases r2 with
    | false =>
      go_wp2_with fail
      go_ret
      exact ⟨rfl, T5.out⟩
    | true =>
      by_cases h8 : (8 : Int) < tn
      · go_wp2_with fail
        go_ret
        exact ⟨rfl, T5.out⟩
      by_cases h9 : (8 : Int) < vn
      · go_wp2_with fail
        go_ret
        exact ⟨rfl, T5.out⟩
      have HTT := hide (show TermsIn w4 TA tn ts 20 ∧ ∀ t ∈ ts, t.L.length ≤ 30 from by
        have h1 := HTS.out.below T5.out
        refine ⟨⟨h1.1, h1.2.1, fun t ht => (HR2.out rfl t ht).2.below HB4.out⟩, fun t ht => ?_⟩
        have h2 := HR2.out rfl t ht
        obtain ⟨A', n', c', s', B', m', d', e, h3, -⟩ := h2.2
        have h4 : t.n = n' := by have e2 : Value.agg #[.slice t.A t.n t.c, .bool t.s, .slice t.B t.m t.d] = .agg #[.slice A' n' c', .bool s', .slice B' m' d'] := e; simp at e2; exact e2.1.2.1
        rw [h3.len, ← h4]
        exact h2.1)
      go_wp2_with fail
      have HS := hide (show ∀ i x, i < 0 → ivs[i]? = some x → x.m ≤ 20 from fun i x h => by omega)
      have HS1 := hide (Below.refl w4.heap.size w4)
      go_loopw [48] (fun i wr => ∃ q : Nat, q ≤ vn ∧ i = .int .i64 q ∧ Hid (∀ i x, i < q → ivs[i]? = some x → x.m ≤ 20) ∧ Hid (Below w4.heap.size w4 wr)) (fun i _ => vn - (intOf i).toNat)
      case atStart => exact ⟨0, Nat.zero_le _, rfl, HS, HS1⟩
      case round =>
        obtain ⟨q, hq, rfl, HGr, HBr⟩ := hrel
        by_cases hqn : q < vn
        · obtain ⟨vb, vo, iv, rfl, hiv, e0, e1, hzi⟩ := ((HVV.out.below T5.out).below HBr.out).at_ hqn
          have hpm := hzi.bounds
          have HIV := hide hiv
          rw [Nat.mul_comm 2 q] at e0 e1
          rw [← Nat.add_assoc] at e1
          clear hzi hiv
          by_cases hp20 : (20 : Int) < iv.m
          · go_wp2_with fail
            go_ret
            exact ⟨rfl, (T5.out.next HBr.out).next (bl_alloc _ _)⟩
          · go_wp2_with fail
            go_roundw
            case rel => exact ⟨q + 1, by omega, by go_num, fun i x hi hx => by
              by_cases hir : i < q
              · exact HGr.out i x hir hx
              · obtain rfl : i = q := by omega
                rw [HIV.out] at hx
                injection hx with hx
                subst hx
                omega, hide (HBr.out.next (bl_alloc _ _))⟩
            case measure => simp [intOf] <;> omega
        obtain rfl : q = vn := by omega
        obtain ⟨W5, hW5⟩ : ∃ W5, W5 = wr := ⟨_, rfl⟩
        subst hW5
        have HT5 := hide (T5.out.next HBr.out)
        have HA := hide (HA.out.below HBr.out)
        have HTS5 := hide (HTT.out.1.below HBr.out)
        have Q5 := hide (Q3.out.next HBr.out)
        have HV5 := hide (show ValsIn W5 VA q ivs 20 from by
          have h1 := (HVV.out.below T5.out).below HBr.out
          refine ⟨h1.1, h1.2.1, fun p hp => ?_⟩
          obtain ⟨y, hy, hyp⟩ := List.mem_iff_getElem.1 hp
          exact (h1.2.2 p hp).cut (HGr.out y p (by rw [← h1.1]; exact hy) (by rw [List.getElem?_eq_getElem hy, hyp])))
        clear HS HS1 HGr HBr
        generalize hvq : q = vn at *
        clear hvq
        have PV0 := hide (show PVRel W5 tn (innerAt (nums ivs) (pairs ts)) 0 (.slice (some ⟨W5.heap.size, 0, none⟩) 0 0) (.slice (some ⟨W5.heap.size + 1, 0, none⟩) 0 0) ((W5.alloc (.cells #[] 3)).alloc (.cells #[] 26)) from by
          have a1 : LRow 3 1 (W5.alloc (.cells #[] 3)) W5.heap.size (.slice (some ⟨W5.heap.size, 0, none⟩) 0 0) 0 [] := LRow.made #[] 0 (Nat.le_refl _) (by unfold maxLen; omega) rfl (fun u hu => by simp at hu)
          have a2 : LRow 26 2 ((W5.alloc (.cells #[] 3)).alloc (.cells #[] 26)) W5.heap.size (.slice (some ⟨(W5.alloc (.cells #[] 3)).heap.size, 0, none⟩) 0 0) 0 [] := LRow.made #[] 0 (by rw [size_alloc]; omega) (by unfold maxLen; omega) rfl (fun u hu => by simp at hu)
          rw [size_alloc] at a2
          have h0 : uptoI (min 0 tn) = [] := by rw [Nat.zero_min]; rfl
          rw [PVRel, h0]
          exact ⟨a1.below (bl_alloc _ _), [], a2, rfl, (fun p hp => by simp at hp), rfl, (bl_alloc _ _).next (bl_alloc _ _)⟩)
        go_wp2_with fail
        go_loopw [9, 10, 11] (fun s1 s2 i wr => ∃ (q : Nat) (u1 u2 : Value), q ≤ 8 ∧ i = .int .i64 q ∧ u1 = s1 ∧ u2 = s2 ∧ Hid (PVRel W5 tn (innerAt (nums ivs) (pairs ts)) q u1 u2 wr)) (fun _ _ i _ => 8 - (intOf i).toNat)
        case atStart => exact ⟨0, _, _, by omega, rfl, rfl, rfl, PV0⟩
        case round =>
          obtain ⟨q, u1, u2, hq, rfl, rfl, rfl, HR⟩ := hrel
          obtain ⟨l1, us, l2, hlu, hzu, hnu, hB⟩ := HR.out
          by_cases hq8 : q < 8
          · obtain ⟨y0, y1, -⟩ := bstart1 26 wr #[.bool false, .slice none 0 0]
            have hle : us.length + 1 ≤ 1099511627776 := by omega
            by_cases hqt0 : q < tn
            · by_cases hqv : q < vn
              · skip
                obtain ⟨vb, vo, iv, hVA, hiv, e0, e1, hzi⟩ := (HV5.out.below hB).at_ hqv
                subst hVA
                rw [Nat.mul_comm 2 q] at e0 e1
                rw [← Nat.add_assoc] at e1
                have e2 := (y1.cell (p := ⟨vb, vo + q * 2, none⟩) (World.block_lt_of_cell? _ _ e0)).trans e0
                have e3 := (y1.cell (p := ⟨vb, vo + q * 2 + 1, none⟩) (World.block_lt_of_cell? _ _ e1)).trans e1
                have HIV := hide hiv
                have HZI := hide hzi
                have H3 := bl_alloc wr (.cells #[.bool iv.s, .slice iv.B iv.m iv.d] 26)
                obtain ⟨tb, tq, tt, hTA, hti, c0, c1, c2, htt⟩ := HTS5.out.at_ hqt0
                subst hTA
                have hup : uptoI (min (q + 1) tn) = uptoI (min q tn) ++ [(q : Int)] := by rw [show min (q + 1) tn = q + 1 by omega, show min q tn = q by omega]; exact uptoI_succ q
                have hli : (uptoI (min q tn)).length ≤ 1099511627 := by rw [uptoI_length]; omega
                have htl := HTT.out.2 tt (List.mem_of_getElem? hti)
                have kz : Blk (wr.alloc (.cells #[.bool iv.s, .slice iv.B iv.m iv.d] 26)) wr.heap.size #[.bool iv.s, .slice iv.B iv.m iv.d] := Box.new _ _ _
                have hbz := Nat.le_trans hB.size (Nat.le_trans H3.size (bl_alloc (wr.alloc (.cells #[.bool iv.s, .slice iv.B iv.m iv.d] 26)) (.cells #[.int .i64 (q : Int)] 3)).size)
                have m1 := (l1.below H3).below (bl_alloc (wr.alloc (.cells #[.bool iv.s, .slice iv.B iv.m iv.d] 26)) (.cells #[.int .i64 (q : Int)] 3))
                have m2 := (l2.below H3).below (bl_alloc (wr.alloc (.cells #[.bool iv.s, .slice iv.B iv.m iv.d] 26)) (.cells #[.int .i64 (q : Int)] 3))
                have mB := hB.trans ((H3.next (bl_alloc (wr.alloc (.cells #[.bool iv.s, .slice iv.B iv.m iv.d] 26)) (.cells #[.int .i64 (q : Int)] 3))).mono hB.size)
                have mz := fun p hp => ((hzu p hp).below H3).below (bl_alloc (wr.alloc (.cells #[.bool iv.s, .slice iv.B iv.m iv.d] 26)) (.cells #[.int .i64 (q : Int)] 3))
                have mk := Blk.next kz (bl_alloc (wr.alloc (.cells #[.bool iv.s, .slice iv.B iv.m iv.d] 26)) (.cells #[.int .i64 (q : Int)] 3))
                have hne1 : some wr.heap.size ≠ u1.ownBlock := fun e => by have := (l1.lt _ e.symm).2; omega
                have hne2 : ∀ k, u2.ownBlock = some k → k ≠ wr.heap.size := fun k e => by have := (l2.lt k e).2; omega
                go_wp2_with (at_builtin; refine wpList_append_int rfl _ _ rfl W5.heap.size _ (uptoI (min q tn)) rfl m1 _ (q : Int) rfl (cellI2 _ _ _ _) hli hbz ?_; intro v1 w5 l3 g3; have h5 := m1.old mB g3 (Nat.le_refl _) (Nat.le_refl _); have n2 := m2.unlike m1 (by decide) g3; have nz := fun p hp => (mz p hp).kp (m1.kp g3); have nk := Box.grown mk g3 hne1; have d0 := (h5.cell (p := ⟨tb, tq + q * 3, none⟩) (World.block_lt_of_cell? _ _ c0)).trans c0; have d1 := (h5.cell (p := ⟨tb, tq + q * 3 + 1, none⟩) (World.block_lt_of_cell? _ _ c1)).trans c1; have d2 := (h5.cell (p := ⟨tb, tq + q * 3 + 2, none⟩) (World.block_lt_of_cell? _ _ c2)).trans c2)
                have hval := tvalue_any (.agg #[.slice tt.A tt.n tt.c, .bool tt.s, .slice tt.B tt.m tt.d]) tt.L tt.K 20 20 _ vn vc ivs w5 (htt.below h5) (HV5.out.below h5) hvn (by omega) (by decide) (by decide)
                refine hval.mono ?_
                rintro e w6 ⟨v6, rfl, r6, b6⟩
                obtain ⟨s6, A6, n6, c6, rfl⟩ := r6.form
                have k6 : Blk w6 wr.heap.size _ := Blk.next nk b6
                go_wp2_with (first
                  | (with_reducible refine wpList_store_z rfl _ _ rfl wr.heap.size _ _ _ _ rfl rfl _ _ k6 ?_; intro w7 k7 o7; have k70 := Blk.c0 k7; have k71 := Blk.c1 k7; have p2 := (n2.below b6).onlyB o7 hne2; have q3 : LRow 3 1 w7 W5.heap.size v1 (uptoI (min (q + 1) tn)).length (ints (uptoI (min (q + 1) tn))) := (by rw [hup]; exact (l3.below b6).onlyB o7 (LRow.apart l3 nk (by decide))); have p7 := fun p hp => ((nz p hp).below b6).kp (Blk.kpI k6 o7); have b7 := (h5.trans (b6.mono h5.size)).trans (o7.below (Nat.le_trans h5.size b6.size) hB.size); have z7 := (r6.only k6 o7).in_.mono (show 20 + 20 + tt.L.length ≤ 70 by omega))
                  | (at_builtin; refine wpList_append_apiInt rfl _ _ rfl W5.heap.size _ us rfl (p2.below (bl_alloc _ _)) _ ⟨s6, A6, n6, c6, tt.K + val (nums ivs) tt.L⟩ rfl (Box.newI _ ⟨s6, A6, n6, c6, tt.K + val (nums ivs) tt.L⟩) hle (Nat.le_trans b7.size (bl_alloc _ _).size) ?_; intro v2 w9 l4 g4; have HE := hide (PVRel.stepB (f := innerAt (nums ivs) (pairs ts)) (q3.below (bl_alloc _ _)) (p2.below (bl_alloc _ _)) hlu (fun p hp => (p7 p hp).below (bl_alloc _ _)) hnu (b7.trans ((bl_alloc _ _).mono b7.size)) (z7.below (bl_alloc _ _)) (innerAt_in hti).symm l4 g4)))
                go_roundw
                case rel => exact ⟨q + 1, _, _, by omega, by go_num, rfl, rfl, HE⟩
                case measure => simp [intOf] <;> omega
              · skip
                have k3 : Blk _ wr.heap.size #[.bool false, .slice none 0 0] := y0
                have H3 := y1
                obtain ⟨tb, tq, tt, hTA, hti, c0, c1, c2, htt⟩ := HTS5.out.at_ hqt0
                subst hTA
                have hup : uptoI (min (q + 1) tn) = uptoI (min q tn) ++ [(q : Int)] := by rw [show min (q + 1) tn = q + 1 by omega, show min q tn = q by omega]; exact uptoI_succ q
                have hli : (uptoI (min q tn)).length ≤ 1099511627 := by rw [uptoI_length]; omega
                have htl := HTT.out.2 tt (List.mem_of_getElem? hti)
                have kz : Blk (wr.alloc (.cells #[.bool false, .slice none 0 0] 26)) wr.heap.size #[.bool false, .slice none 0 0] := Box.new _ _ _
                have hbz := Nat.le_trans hB.size (Nat.le_trans H3.size (bl_alloc (wr.alloc (.cells #[.bool false, .slice none 0 0] 26)) (.cells #[.int .i64 (q : Int)] 3)).size)
                have m1 := (l1.below H3).below (bl_alloc (wr.alloc (.cells #[.bool false, .slice none 0 0] 26)) (.cells #[.int .i64 (q : Int)] 3))
                have m2 := (l2.below H3).below (bl_alloc (wr.alloc (.cells #[.bool false, .slice none 0 0] 26)) (.cells #[.int .i64 (q : Int)] 3))
                have mB := hB.trans ((H3.next (bl_alloc (wr.alloc (.cells #[.bool false, .slice none 0 0] 26)) (.cells #[.int .i64 (q : Int)] 3))).mono hB.size)
                have mz := fun p hp => ((hzu p hp).below H3).below (bl_alloc (wr.alloc (.cells #[.bool false, .slice none 0 0] 26)) (.cells #[.int .i64 (q : Int)] 3))
                have mk := Blk.next kz (bl_alloc (wr.alloc (.cells #[.bool false, .slice none 0 0] 26)) (.cells #[.int .i64 (q : Int)] 3))
                have hne1 : some wr.heap.size ≠ u1.ownBlock := fun e => by have := (l1.lt _ e.symm).2; omega
                have hne2 : ∀ k, u2.ownBlock = some k → k ≠ wr.heap.size := fun k e => by have := (l2.lt k e).2; omega
                go_wp2_with (at_builtin; refine wpList_append_int rfl _ _ rfl W5.heap.size _ (uptoI (min q tn)) rfl m1 _ (q : Int) rfl (cellI2 _ _ _ _) hli hbz ?_; intro v1 w5 l3 g3; have h5 := m1.old mB g3 (Nat.le_refl _) (Nat.le_refl _); have n2 := m2.unlike m1 (by decide) g3; have nz := fun p hp => (mz p hp).kp (m1.kp g3); have nk := Box.grown mk g3 hne1; have d0 := (h5.cell (p := ⟨tb, tq + q * 3, none⟩) (World.block_lt_of_cell? _ _ c0)).trans c0; have d1 := (h5.cell (p := ⟨tb, tq + q * 3 + 1, none⟩) (World.block_lt_of_cell? _ _ c1)).trans c1; have d2 := (h5.cell (p := ⟨tb, tq + q * 3 + 2, none⟩) (World.block_lt_of_cell? _ _ c2)).trans c2)
                have hval := tvalue_any (.agg #[.slice tt.A tt.n tt.c, .bool tt.s, .slice tt.B tt.m tt.d]) tt.L tt.K 20 20 _ vn vc ivs w5 (htt.below h5) (HV5.out.below h5) hvn (by omega) (by decide) (by decide)
                refine hval.mono ?_
                rintro e w6 ⟨v6, rfl, r6, b6⟩
                obtain ⟨s6, A6, n6, c6, rfl⟩ := r6.form
                have k6 : Blk w6 wr.heap.size _ := Blk.next nk b6
                go_wp2_with (first
                  | (with_reducible refine wpList_store_z rfl _ _ rfl wr.heap.size _ _ _ _ rfl rfl _ _ k6 ?_; intro w7 k7 o7; have k70 := Blk.c0 k7; have k71 := Blk.c1 k7; have p2 := (n2.below b6).onlyB o7 hne2; have q3 : LRow 3 1 w7 W5.heap.size v1 (uptoI (min (q + 1) tn)).length (ints (uptoI (min (q + 1) tn))) := (by rw [hup]; exact (l3.below b6).onlyB o7 (LRow.apart l3 nk (by decide))); have p7 := fun p hp => ((nz p hp).below b6).kp (Blk.kpI k6 o7); have b7 := (h5.trans (b6.mono h5.size)).trans (o7.below (Nat.le_trans h5.size b6.size) hB.size); have z7 := (r6.only k6 o7).in_.mono (show 20 + 20 + tt.L.length ≤ 70 by omega))
                  | (at_builtin; refine wpList_append_apiInt rfl _ _ rfl W5.heap.size _ us rfl (p2.below (bl_alloc _ _)) _ ⟨s6, A6, n6, c6, tt.K + val (nums ivs) tt.L⟩ rfl (Box.newI _ ⟨s6, A6, n6, c6, tt.K + val (nums ivs) tt.L⟩) hle (Nat.le_trans b7.size (bl_alloc _ _).size) ?_; intro v2 w9 l4 g4; have HE := hide (PVRel.stepB (f := innerAt (nums ivs) (pairs ts)) (q3.below (bl_alloc _ _)) (p2.below (bl_alloc _ _)) hlu (fun p hp => (p7 p hp).below (bl_alloc _ _)) hnu (b7.trans ((bl_alloc _ _).mono b7.size)) (z7.below (bl_alloc _ _)) (innerAt_in hti).symm l4 g4)))
                go_roundw
                case rel => exact ⟨q + 1, _, _, by omega, by go_num, rfl, rfl, HE⟩
                case measure => simp [intOf] <;> omega
            · have hqt : ¬ q < ts.length := by rw [HTL.out]; exact hqt0
              by_cases hqv : q < vn
              · skip
                obtain ⟨vb, vo, iv, hVA, hiv, e0, e1, hzi⟩ := (HV5.out.below hB).at_ hqv
                subst hVA
                rw [Nat.mul_comm 2 q] at e0 e1
                rw [← Nat.add_assoc] at e1
                have e2 := (y1.cell (p := ⟨vb, vo + q * 2, none⟩) (World.block_lt_of_cell? _ _ e0)).trans e0
                have e3 := (y1.cell (p := ⟨vb, vo + q * 2 + 1, none⟩) (World.block_lt_of_cell? _ _ e1)).trans e1
                have HIV := hide hiv
                have HZI := hide hzi
                have H3 := bl_alloc wr (.cells #[.bool iv.s, .slice iv.B iv.m iv.d] 26)
                have hmin : min (q + 1) tn = min q tn := by omega
                have l1' := l1
                rw [← hmin] at l1'
                have hf : iv.Z = innerAt (nums ivs) (pairs ts) q := by rw [innerAt_out hqt, nums_getD ivs q iv HIV.out]
                go_wp2_with (first
                  | (at_builtin; refine wpList_append_apiInt rfl _ _ rfl W5.heap.size _ us rfl ((l2.below H3).below (bl_alloc _ _)) _ ⟨iv.s, iv.B, iv.m, iv.d, iv.Z⟩ rfl (Box.newI2 _ _ ⟨iv.s, iv.B, iv.m, iv.d, iv.Z⟩) hle (Nat.le_trans hB.size (Nat.le_trans H3.size (bl_alloc _ _).size)) ?_; intro v2 w9 l4 g4; have HE := hide (PVRel.stepB (f := innerAt (nums ivs) (pairs ts)) ((l1'.below H3).below (bl_alloc _ _)) ((l2.below H3).below (bl_alloc _ _)) hlu (fun p hp => ((hzu p hp).below H3).below (bl_alloc _ _)) hnu (hB.trans ((H3.next (bl_alloc _ _)).mono hB.size)) (((HZI.out.below H3).mono (by omega)).below (bl_alloc _ _)) hf l4 g4)))
                go_roundw
                case rel => exact ⟨q + 1, _, _, by omega, by go_num, rfl, rfl, HE⟩
                case measure => simp [intOf] <;> omega
              · skip
                have k3 : Blk _ wr.heap.size #[.bool false, .slice none 0 0] := y0
                have H3 := y1
                have hmin : min (q + 1) tn = min q tn := by omega
                have l1' := l1
                rw [← hmin] at l1'
                have hf : (0 : Int) = innerAt (nums ivs) (pairs ts) q := by rw [innerAt_out hqt, nums_out ivs q (by have := HVL.out; omega)]
                go_wp2_with (first
                  | (at_builtin; refine wpList_append_apiInt rfl _ _ rfl W5.heap.size _ us rfl ((l2.below H3).below (bl_alloc _ _)) _ ⟨false, none, 0, 0, 0⟩ rfl (Box.newI2 _ _ ⟨false, none, 0, 0, 0⟩) hle (Nat.le_trans hB.size (Nat.le_trans H3.size (bl_alloc _ _).size)) ?_; intro v2 w9 l4 g4; have HE := hide (PVRel.stepB (f := innerAt (nums ivs) (pairs ts)) ((l1'.below H3).below (bl_alloc _ _)) ((l2.below H3).below (bl_alloc _ _)) hlu (fun p hp => ((hzu p hp).below H3).below (bl_alloc _ _)) hnu (hB.trans ((H3.next (bl_alloc _ _)).mono hB.size)) ((show ZIn _ (.agg #[.bool false, .slice none 0 0]) 0 70 from (ZRes.zero _ 70).in_).below (bl_alloc _ _)) hf l4 g4)))
                go_roundw
                case rel => exact ⟨q + 1, _, _, by omega, by go_num, rfl, rfl, HE⟩
                case measure => simp [intOf] <;> omega
          obtain rfl : q = 8 := by omega
          obtain ⟨W6, hW6⟩ : ∃ W6, W6 = wr := ⟨_, rfl⟩
          subst hW6
          have hm8 : min 8 tn = tn := by omega
          rw [hm8] at l1
          obtain ⟨B1, c1, hv1, h11, h12, -⟩ := l1.len
          obtain ⟨B2, c2, hv2, h21, h22, -⟩ := l2.len
          subst hv1 hv2
          have HI := hide (LRow.iin l1 rfl)
          have HU := hide (LRow.vals l2 rfl hzu)
          have HNU := hide hnu
          have HT6 := hide (HT5.out.next hB)
          have HA := hide (HA.out.below hB)
          have HTS6 := hide (HTS5.out.below hB)
          have HV := hide (HV5.out.below hB)
          have Q6 := hide (Q5.out.next hB)
          have x0 := Q6.out.c0
          generalize hN8 : us.length = N8 at *
          have HN8 := hide (show N8 = 8 by omega)
          clear l1 l2 hzu hnu hB HR hlu hN8
          have HS := hide (show ∀ p ∈ L.take 0, p.1 ≤ 7 from fun p hp => by simp at hp)
          have HS1 := hide (Below.refl W6.heap.size W6)
          go_wp2_with fail
          go_loopw [93] (fun i wr => ∃ q : Nat, q ≤ n ∧ i = .int .i64 q ∧ Hid (∀ p ∈ L.take q, p.1 ≤ 7) ∧ Hid (Below W6.heap.size W6 wr)) (fun i _ => n - (intOf i).toNat)
          case atStart => exact ⟨0, Nat.zero_le _, rfl, HS, HS1⟩
          case round =>
            obtain ⟨q, hq, rfl, HGr, HBr⟩ := hrel
            by_cases hqn : q < n
            · obtain ⟨bb, o, p, rfl, hlt, hLp, d0, d1, d2, hz⟩ := ((TIn.parts3 HA.out).below HBr.out).at_ hqn
              have HLp := hide hLp
              clear hz hLp
              by_cases hp7 : (7 : Int) < p.v
              · go_wp2_with fail
                go_ret
                exact ⟨rfl, (HT6.out.next HBr.out).next (bl_alloc _ _)⟩
              · go_wp2_with fail
                go_roundw
                case rel => exact ⟨q + 1, by omega, by go_num, hide (fun y hy => by
                  rw [List.take_add_one, HLp.out] at hy
                  rcases List.mem_append.1 hy with hy | hy
                  · exact HGr.out y hy
                  · simp at hy; subst hy; dsimp only; omega), hide (HBr.out.next (bl_alloc _ _))⟩
                case measure => simp [intOf] <;> omega
            obtain rfl : q = n := by omega
            have HF := hide (show ∀ p ∈ L, p.1 ≤ 7 from fun p hp => HGr.out p (by rw [List.take_of_length_le (by rw [HLn.out]; exact Nat.le_refl _)]; exact hp))
            have HTr := hide (HT6.out.next HBr.out)
            have HA := hide (HA.out.below HBr.out)
            have HTS7 := hide (HTS6.out.below HBr.out)
            have HV := hide (HV.out.below HBr.out)
            have HU := hide (HU.out.below HBr.out)
            have HI := hide (HI.out.below HBr.out)
            have Q7 := hide (Q6.out.next HBr.out)
            clear HGr HBr HS HS1 x0
            obtain ⟨PL, hPL⟩ : ∃ PL, PL = norm (putL (uptoI tn) (pairs ts) (norm L)) := ⟨_, rfl⟩
            obtain ⟨PK, hPK⟩ : ∃ PK, PK = K + putK (uptoI tn) (pairs ts) (norm L) := ⟨_, rfl⟩
            have HPL := hide (show PL.length ≤ 1000 by
              have h1 := norm_length (putL (uptoI tn) (pairs ts) (norm L))
              have h2 := putL_length (vs := uptoI tn) HTT.out.2 (norm L)
              have h3 := norm_length L
              have h4 := HL.out
              rw [hPL]
              omega)
            have hEQ : PK + val (nums ivs) PL = K + val (nums us) L := by
              have h1 := put_values (nums ivs) (pairs ts) K L HF.out
              have h2 : (pairs ts).length = tn := by unfold pairs; rw [List.length_map, HTL.out]
              rw [h2] at h1
              rw [hPL, hPK, h1, HNU.out]
            have HPA := hide (fun W (h : Below wr.heap.size wr W) => (show Calls Tryz.prog 41 #[.agg #[.slice A q c, .bool s, .slice B m d], .slice B1 (uptoI tn).length c1, .slice TA tn tc] W (TPost PL PK 1010040 W) from by
              rw [hPL, hPK]
              exact tputAll_any _ L K 20 B1 (uptoI tn).length c1 (uptoI tn) TA tn tc ts 20 W (HA.out.below h) (HI.out.below h) (by rw [uptoI_length]; omega) (uptoI_range (by omega)) (HTS7.out.below h) htn (fun t ht => Nat.le_trans (HTT.out.2 t ht) (by decide)) (by have := HL.out; omega) (fun p hp => by have := HF.out p hp; omega) (by decide) (by decide)))
            unfold TPost at HPA
            have HCM := hide (fun W (v u : Value) (z : ZRes W v (PK + val (nums ivs) PL) (1010040 + 20 + PL.length)) (y : ZRes W u (K + val (nums us) L) (20 + 70 + L.length)) => (show Calls Tryz.prog 40 #[v, u] W (fun e w' => e = .returned (.int .i64 0) ∧ Below W.heap.size W w') from by
              have h1 := rzcmp_z v u _ _ 1012000 W (z.in_.mono (by have := HPL.out; omega)) (y.in_.mono (by have := HL.out; omega)) (by decide)
              unfold CmpZPost at h1
              rw [show sgn3 (PK + val (nums ivs) PL) (K + val (nums us) L) = 0 from cmpZ_zero.2 hEQ] at h1
              exact h1))
            have SOF := hide (show ∀ W, Below wr.heap.size wr W → (W.cell? ⟨w0.heap.size, 0, none⟩ = some (.slice A q c) ∧ W.cell? ⟨w0.heap.size, 1, none⟩ = some (.bool s) ∧ W.cell? ⟨w0.heap.size, 2, none⟩ = some (.slice B m d)) from fun W h => ⟨(Q7.out.next h).c0, (Q7.out.next h).c1, (Q7.out.next h).c2⟩)
            clear hPL hPK hEQ
            go_wp2_with fail
            refine wp_drawn (by kernel_rfl) (by kernel_rfl) (by kernel_rfl) (fun w w' => Below w.heap.size w w') (fun j v w => match j with | 0 => v = .agg #[.slice A q c, .bool s, .slice B m d] | 1 => v = .slice B1 (uptoI tn).length c1 | 2 => v = .slice TA tn tc | 3 => TRes w v PL PK 1010040 | 4 => v = .slice VA vn vc | 5 => ZRes w v (PK + val (nums ivs) PL) (1010040 + 20 + PL.length) | 6 => v = .agg #[.slice A q c, .bool s, .slice B m d] | 7 => v = .slice B2 N8 c2 | 8 => ZRes w v (K + val (nums us) L) (20 + 70 + L.length) | 9 => v = .int .i64 0 | 10 => v = .bool true | 11 => v = .bool true | _ => True) (fun _ _ w => Below wr.heap.size wr w) ?_ (fun _ => bl_drewN wr 1) ?_ ?_
            · intro j v w w' hT h
              match j, h with
              | 0, h => exact h
              | 1, h => exact h
              | 2, h => exact h
              | 3, h => exact h.below hT
              | 4, h => exact h
              | 5, h => exact h.below hT
              | 6, h => exact h
              | 7, h => exact h
              | 8, h => exact h.below hT
              | 9, h => exact h
              | 10, h => exact h
              | 11, h => exact h
              | j + 12, h => trivial
            · refine ⟨?_, ?_, ?_, ?_, ?_, ?_, ?_, ?_, ?_, ?_, ?_, ?_, trivial⟩
              · intro listed σ w a hin hout hl hc hp hG hF
                refine Guarded.none rfl ?_
                have e3 : a.tmps.getD 3 undef = .pointer (some ⟨w0.heap.size, 0, none⟩) := hout 3 (outB_spec (by kernel_rfl))
                have CC := SOF.out w hG; obtain ⟨C0, C1, C2⟩ := CC
                refine Does.val (.agg #[.slice A q c, .bool s, .slice B m d]) (w' := w) ?_ ⟨Below.refl _ _, rfl, hG⟩
                go_simp
              · intro listed σ w a hin hout hl hc hp hG hF
                refine Guarded.none rfl ?_
                have e9 : a.tmps.getD 9 undef = .slice B1 (uptoI tn).length c1 := hout 9 (outB_spec (by kernel_rfl))
                refine Does.val (.slice B1 (uptoI tn).length c1) (w' := w) ?_ ⟨Below.refl _ _, rfl, hG⟩
                simp only [Array.getD_eq_getD_getElem?] at e9
                go_simp
              · intro listed σ w a hin hout hl hc hp hG hF
                refine Guarded.none rfl ?_
                have e1 : a.tmps.getD 1 undef = .slice TA tn tc := hout 1 (outB_spec (by kernel_rfl))
                refine Does.val (.slice TA tn tc) (w' := w) ?_ ⟨Below.refl _ _, rfl, hG⟩
                simp only [Array.getD_eq_getD_getElem?] at e1
                go_simp
              · intro listed σ w a hin hout hl hc hp hG hF
                refine Guarded.none rfl ?_
                have e101 : a.tmps.getD 101 undef = .agg #[.slice A q c, .bool s, .slice B m d] := (hin 0 101 rfl (hp ⟨0, .data⟩ (by simp) rfl)).trans (hF 0 (hp ⟨0, .data⟩ (by simp) rfl))
                have e102 : a.tmps.getD 102 undef = .slice B1 (uptoI tn).length c1 := (hin 1 102 rfl (hp ⟨1, .data⟩ (by simp) rfl)).trans (hF 1 (hp ⟨1, .data⟩ (by simp) rfl))
                have e103 : a.tmps.getD 103 undef = .slice TA tn tc := (hin 2 103 rfl (hp ⟨2, .data⟩ (by simp) rfl)).trans (hF 2 (hp ⟨2, .data⟩ (by simp) rfl))
                refine Does.call ?_ (HPA.out w hG) ?_
                · go_simp
                · rintro e w' ⟨v, rfl, z, hb⟩
                  exact ⟨_, rfl, hb, z, hG.next hb⟩
              · intro listed σ w a hin hout hl hc hp hG hF
                refine Guarded.none rfl ?_
                have e2 : a.tmps.getD 2 undef = .slice VA vn vc := hout 2 (outB_spec (by kernel_rfl))
                refine Does.val (.slice VA vn vc) (w' := w) ?_ ⟨Below.refl _ _, rfl, hG⟩
                simp only [Array.getD_eq_getD_getElem?] at e2
                go_simp
              · intro listed σ w a hin hout hl hc hp hG hF
                refine Guarded.none rfl ?_
                have e104 := hin 3 104 rfl (hp ⟨3, .data⟩ (by simp) rfl)
                have z3 := hF 3 (hp ⟨3, .data⟩ (by simp) rfl)
                have e105 : a.tmps.getD 105 undef = .slice VA vn vc := (hin 4 105 rfl (hp ⟨4, .data⟩ (by simp) rfl)).trans (hF 4 (hp ⟨4, .data⟩ (by simp) rfl))
                refine Does.call ?_ (tvalue_any _ PL PK 1010040 20 VA vn vc ivs w z3.in_ (HV.out.below hG) hvn (by have := HPL.out; omega) (by decide) (by decide)) ?_
                · go_simp
                · rintro e w' ⟨v, rfl, z, hb⟩
                  exact ⟨_, rfl, hb, z, hG.next hb⟩
              · intro listed σ w a hin hout hl hc hp hG hF
                refine Guarded.none rfl ?_
                have e3 : a.tmps.getD 3 undef = .pointer (some ⟨w0.heap.size, 0, none⟩) := hout 3 (outB_spec (by kernel_rfl))
                have CC := SOF.out w hG; obtain ⟨C0, C1, C2⟩ := CC
                refine Does.val (.agg #[.slice A q c, .bool s, .slice B m d]) (w' := w) ?_ ⟨Below.refl _ _, rfl, hG⟩
                go_simp
              · intro listed σ w a hin hout hl hc hp hG hF
                refine Guarded.none rfl ?_
                have e10 : a.tmps.getD 10 undef = .slice B2 N8 c2 := hout 10 (outB_spec (by kernel_rfl))
                refine Does.val (.slice B2 N8 c2) (w' := w) ?_ ⟨Below.refl _ _, rfl, hG⟩
                simp only [Array.getD_eq_getD_getElem?] at e10
                go_simp
              · intro listed σ w a hin hout hl hc hp hG hF
                refine Guarded.none rfl ?_
                have e107 : a.tmps.getD 107 undef = .agg #[.slice A q c, .bool s, .slice B m d] := (hin 6 107 rfl (hp ⟨6, .data⟩ (by simp) rfl)).trans (hF 6 (hp ⟨6, .data⟩ (by simp) rfl))
                have e108 : a.tmps.getD 108 undef = .slice B2 N8 c2 := (hin 7 108 rfl (hp ⟨7, .data⟩ (by simp) rfl)).trans (hF 7 (hp ⟨7, .data⟩ (by simp) rfl))
                refine Does.call ?_ (tvalue_any _ L K 20 70 B2 N8 c2 us w (HA.out.below hG) (HU.out.below hG) (by have := HN8.out; omega) (by have := HL.out; omega) (by decide) (by decide)) ?_
                · go_simp
                · rintro e w' ⟨v, rfl, z, hb⟩
                  exact ⟨_, rfl, hb, z, hG.next hb⟩
              · intro listed σ w a hin hout hl hc hp hG hF
                refine Guarded.none rfl ?_
                have e106 := hin 5 106 rfl (hp ⟨5, .data⟩ (by simp) rfl)
                have z5 := hF 5 (hp ⟨5, .data⟩ (by simp) rfl)
                have e109 := hin 8 109 rfl (hp ⟨8, .data⟩ (by simp) rfl)
                have z8 := hF 8 (hp ⟨8, .data⟩ (by simp) rfl)
                refine Does.call ?_ (HCM.out w _ _ z5 z8) ?_
                · go_simp
                · rintro e w' ⟨rfl, hb⟩
                  exact ⟨_, rfl, hb, rfl, hG.next hb⟩
              · intro listed σ w a hin hout hl hc hp hG hF
                refine Guarded.none rfl ?_
                have e110 : a.tmps.getD 110 undef = .int .i64 0 := (hin 9 110 rfl (hp ⟨9, .data⟩ (by simp) rfl)).trans (hF 9 (hp ⟨9, .data⟩ (by simp) rfl))
                refine Does.val (.bool true) (w' := w) ?_ ⟨Below.refl _ _, rfl, hG⟩
                simp only [Array.getD_eq_getD_getElem?] at e110
                go_simp
              · intro listed σ w a hin hout hl hc hp hG hF
                refine Guarded.none rfl ?_
                have e111 : a.tmps.getD 111 undef = .bool true := (hin 10 111 rfl (hp ⟨10, .data⟩ (by simp) rfl)).trans (hF 10 (hp ⟨10, .data⟩ (by simp) rfl))
                refine Does.val (.bool true) (w' := w) ?_ ⟨Below.refl _ _, rfl, hG⟩
                simp only [Array.getD_eq_getD_getElem?] at e111
                go_simp
            · intro listed σ W9 hall hG hF
              rw [show mid _ σ listed _ = (Act.put (Act.put (Act.put (Act.put (Act.put (Act.put (Act.put (Act.put (Act.put (Act.put (Act.put (Act.put _ (some 101) (σ 0)) (some 102) (σ 1)) (some 103) (σ 2)) (some 104) (σ 3)) (some 105) (σ 4)) (some 106) (σ 5)) (some 107) (σ 6)) (some 108) (σ 7)) (some 109) (σ 8)) (some 110) (σ 9)) (some 111) (σ 10)) (some 6) (σ 11)) from (mid_all hall).trans rfl]
              generalize σ 0 = tt0
              generalize σ 1 = tt1
              generalize σ 2 = tt2
              generalize σ 3 = tt3
              generalize σ 4 = tt4
              generalize σ 5 = tt5
              generalize σ 6 = tt6
              generalize σ 7 = tt7
              generalize σ 8 = tt8
              generalize σ 9 = tt9
              generalize σ 10 = tt10
              rw [show σ 11 = .bool true from hF 11 (by decide)]
              simp only [Act.put, List.setIfInBounds_toArray, List.set_cons_zero, List.set_cons_succ]
              have TG := hG
              clear hF hG hall
              clear σ
              have HE := hide (HTr.out.next TG)
              clear TG SOF HPA HCM
              go_wp2_with fail
              go_ret
              exact ⟨rfl, HE.out⟩
end Go.Proofs.YtakcgkohnomgjaaGreatDoor
