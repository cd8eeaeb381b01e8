/- Texts of one seat, put together: ExprR3. -/
import Derived.Test.YtneiajkcikcnnaaDoorB17
import Derived.Test.YtneiajkcikcnnaaDoorB13
set_option linter.unusedVariables false
/- plumblineref11.Sum. -/
namespace Go.Proofs.YtneiajkcikcnnaaDoor
open Go.RowKit
open Lx Ex

theorem results_ts {fn : Func} {p q t : Tmp} (h : fn.results = #[.cell p 37, .tmp q, .tmp t]) (tmps : Array Value) (w : World) (g : Nat) (a b c d : Value)
    (hq : tmps.getD p undef = .pointer (some ⟨g, 0, none⟩)) (hg : Box 37 w g #[a, b, c, d]) : (results fn tmps).run Tryd.prog w = .ok (.tuple #[.agg #[a, b, c, d], tmps.getD q undef, tmps.getD t undef]) w := by
  have hq' : tmps[p]?.getD undef = .pointer (some ⟨g, 0, none⟩) := by simpa using hq
  simp [results, h, hq', asAddr, run_loadVar_row w g 37 37 #[a, b, c, d] (0, 0) _ hg Tryd.underlying37 rfl (by kernel_rfl)]
theorem bodyPost_ts {fn : Func} {R : Ending → World → Prop} {ac : Act} {w : World} {g p q t : Nat} {a b c d u v : Value} (hres : fn.results = #[.cell p 37, .tmp q, .tmp t]) (hp : ac.tmps.getD p undef = .pointer (some ⟨g, 0, none⟩))
    (hu : ac.tmps.getD q undef = u) (hv : ac.tmps.getD t undef = v) (hb : Box 37 w g #[a, b, c, d]) (hd : ac.defers = []) (hR : R (.returned (.tuple #[.agg #[a, b, c, d], u, v])) w) : bodyPost Tryd.prog fn R .ret ac w :=
  bodyPost_ret (by rw [results_ts hres _ _ g a b c d hp hb, hu, hv]) hd hR
theorem lrow_ne {v : Value} {g : Nat} (h : ∀ q, v.ownBlock = some q → q < g) : v.ownBlock = none ∨ v.ownBlock ≠ some g := by
  cases hv : v.ownBlock with
  | none => exact Or.inl rfl
  | some k => exact Or.inr (fun e => by injection e with e; have := h k hv; omega)
theorem Box.set_2 {T : TypeId} {w : World} {g : Nat} {x y z : Value} (h : Box T w g #[x, y, z]) (z' : Value) : Box T (w.setCell ⟨g, 2, none⟩ z') g #[x, y, z'] := by
  unfold Box at h ⊢
  simp [World.setCell, Array.getElem?_modify, h]
theorem field_rtext (a c d : Value) (s : ByteArray) (w : World) : (Instr.field 58 (.agg #[a, .string s, c, d]) 1).run Tryd.prog w = .ok (.string s) w := by
  kernel_rfl
/-- What plumblineref11.Sum hands back. -/
def RSumPost (D : CD) (i : Nat) (w : World) (e : Ending) (w' : World) : Prop :=
  match sumP D.kn (rd D.ts i) with
  | .ok l r1 => ∃ (i' : Nat) (A : Option Addr) (c : Nat), e = .returned (.tuple #[.agg #[.slice D.A D.n D.c, .int .i64 (i' : Int), .slice D.V D.m D.d, .bool D.known], .slice A l.length c, .int .i64 0]) ∧ l.length ≤ c ∧ c ≤ 9223372036854775807 ∧ MIn (From w.heap.size) w' A l.length l ∧ Stands D i r1 i' ∧ Below w.heap.size w w'
  | .err c r1 => ∃ i' : Nat, e = .returned (.tuple #[.agg #[.slice D.A D.n D.c, .int .i64 (i' : Int), .slice D.V D.m D.d, .bool D.known], .slice none 0 0, .int .i64 (c : Nat)]) ∧ c ≠ 0 ∧ Stands D i r1 i' ∧ Below w.heap.size w w'
  | .fuel => False
theorem RSumPost.ok {D : CD} {i i' : Nat} {w w' : World} {l : List Mn} {v : Value} {r1 : List PT} (h : sumP D.kn (rd D.ts i) = .ok l r1) (hv : LRow 76 3 w' (w.heap.size + 2) v l.length (flatM l)) (hs : Stands D i r1 i') (hw : Below w.heap.size w w') : RSumPost D i w (.returned (.tuple #[.agg #[.slice D.A D.n D.c, .int .i64 (i' : Int), .slice D.V D.m D.d, .bool D.known], v, .int .i64 0])) w' := by
  unfold RSumPost; rw [h]
  obtain ⟨A, c, rfl, h1, h2, h3⟩ := LRow.min hv
  exact ⟨i', A, c, rfl, h1, h2, h3.mono (by omega), hs, hw⟩
theorem RSumPost.err {D : CD} {i i' c : Nat} {w w' : World} {r1 : List PT} (h : sumP D.kn (rd D.ts i) = .err c r1) (hc : c ≠ 0) (hs : Stands D i r1 i') (hw : Below w.heap.size w w') : RSumPost D i w (.returned (.tuple #[.agg #[.slice D.A D.n D.c, .int .i64 (i' : Int), .slice D.V D.m D.d, .bool D.known], .slice none 0 0, .int .i64 (c : Nat)])) w' := by
  unfold RSumPost; rw [h]; exact ⟨i', rfl, hc, hs, hw⟩
/-- Between two rounds of plumblineref11.Sum. -/
structure RSumRel (D : CD) (i : Nat) (w wr : World) (v : Value) (neg : Bool) (i' m : Nat) (acc : List Mn) : Prop where
  row : LRow 76 3 wr (w.heap.size + 2) v acc.length (flatM acc)
  tape : Box 37 wr w.heap.size #[.slice D.A D.n D.c, .int .i64 (i' : Int), .slice D.V D.m D.d, .bool D.known]
  res : Box 37 wr (w.heap.size + 1) #[.slice none 0 0, .int .i64 0, .slice none 0 0, .bool false]
  bel : Below w.heap.size w wr
  st : Stands D i (rd D.ts i') i'
  eq : sumP D.kn (rd D.ts i) = sumGo D.kn m neg acc (rd D.ts i')
  more : (rd D.ts i').length < m
  few : acc.length ≤ 64
theorem rnum_ne {s : ByteArray} (h : rnumB s = true) : s ≠ ⟨#[]⟩ := fun e => by rw [e] at h; exact absurd h (by decide +kernel)
set_option maxRecDepth 100000 in
set_option maxHeartbeats 64000000 in
theorem rsum_any (D : CD) (i : Nat) (w : World) (h : Tp D w i) : Calls Tryd.prog 8 #[.agg #[.slice D.A D.n D.c, .int .i64 (i : Int), .slice D.V D.m D.d, .bool D.known]] w (RSumPost D i w) := by
  have HTG := hide h.good
  have HF := hide h.fits
  have HTP := hide (fun j W (hb : Below w.heap.size w W) (hf : j + (rd D.ts j).length ≤ 1099511627776) => (⟨h.kin.below hb, h.sin.below hb, h.good, hf⟩ : Tp D W j))
  have HIS := hide (fun j s W (hb : Below w.heap.size w W) (hf : j + (rd D.ts j).length ≤ 1099511627776) => is11_any D j s W (HTP.out j W hb hf))
  have HIN := hide (fun j W (hb : Below w.heap.size w W) (hf : j + (rd D.ts j).length ≤ 1099511627776) => isName11_any D j W (HTP.out j W hb hf))
  have HNT := hide (fun j W (hb : Below w.heap.size w W) (hf : j + (rd D.ts j).length ≤ 1099511627776) => next_any D j W (HTP.out j W hb hf))
  have HIC := hide (fun s W (hb : Below w.heap.size w W) => in_any D.V D.m D.d D.vars s W (h.sin.below hb) (by have := h.good.md; have := h.good.dm; omega))
  unfold BoolW at HIS HIN
  obtain ⟨n0, hn0⟩ : ∃ n0, n0 = isT ⟨#[45]⟩ (rd D.ts i) := ⟨_, rfl⟩
  obtain ⟨i0, hi0⟩ : ∃ i0, i0 = (if n0 = true then i + 1 else i) := ⟨_, rfl⟩
  have HR0 := hide (show ∀ wx, LRow 76 3 wx (w.heap.size + 2) (.slice (some ⟨w.heap.size + 2, 0, none⟩) 0 0) 0 [] → Box 37 wx w.heap.size #[.slice D.A D.n D.c, .int .i64 (i0 : Int), .slice D.V D.m D.d, .bool D.known] → Box 37 wx (w.heap.size + 1) #[.slice none 0 0, .int .i64 0, .slice none 0 0, .bool false] → Below w.heap.size w wx → RSumRel D i w wx (.slice (some ⟨w.heap.size + 2, 0, none⟩) 0 0) n0 i0 ((rd D.ts i).length + 1) [] from by
    intro wx h1 h2 h3 h4
    cases hs : n0 with
    | false =>
      rw [hs] at hn0 hi0
      obtain rfl : i0 = i := hi0
      exact ⟨h1, h2, h3, h4, Stands.refl _ _, by unfold sumP; rw [if_neg (by rw [← hn0]; decide)], Nat.lt_succ_self _, by decide⟩
    | true =>
      rw [hs] at hn0 hi0
      obtain rfl : i0 = i + 1 := hi0
      have hk := isT_step h.good.ends hn0.symm
      exact ⟨h1, h2, h3, h4, ⟨rfl, by omega⟩, by unfold sumP; rw [if_pos hn0.symm, hk.1], by omega, by decide⟩)
  have HN0 := hide hn0
  have HI0 := hide hi0
  obtain ⟨x0, x1, x2, x3⟩ := bstart2 37 37 w #[.slice D.A D.n D.c, .int .i64 (i : Int), .slice D.V D.m D.d, .bool D.known] #[.slice none 0 0, .int .i64 0, .slice none 0 0, .bool false]
  have x4 := bl_alloc ((w.alloc (.cells #[.slice D.A D.n D.c, .int .i64 (i : Int), .slice D.V D.m D.d, .bool D.known] 37)).alloc (.cells #[.slice none 0 0, .int .i64 0, .slice none 0 0, .bool false] 37)) (.cells #[] 76)
  have L0 := hide (show LRow 76 3 (((w.alloc (.cells #[.slice D.A D.n D.c, .int .i64 (i : Int), .slice D.V D.m D.d, .bool D.known] 37)).alloc (.cells #[.slice none 0 0, .int .i64 0, .slice none 0 0, .bool false] 37)).alloc (.cells #[] 76)) (w.heap.size + 2) (.slice (some ⟨w.heap.size + 2, 0, none⟩) 0 0) 0 [] from by
    have := LRow.lit (T := 76) (sz := 3) (w := (w.alloc (.cells #[.slice D.A D.n D.c, .int .i64 (i : Int), .slice D.V D.m D.d, .bool D.known] 37)).alloc (.cells #[.slice none 0 0, .int .i64 0, .slice none 0 0, .bool false] 37)) (base := w.heap.size + 2) #[] 0 (by omega) (by decide) rfl (fun u hu => by cases hu)
    rw [x3] at this
    exact this)
  have T0 := hide (x0.next x4)
  have R0 := hide (x1.next x4)
  have B0 := hide (x2.next x4)
  have u0 := T0.out.cell 0 _ rfl
  have u1 := T0.out.cell 1 _ rfl
  have u2 := T0.out.cell 2 _ rfl
  have u3 := T0.out.cell 3 _ rfl
  clear x0 x1 x2 x4 h hn0 hi0
  go_enter Tryd.func8, Tryd.ntmps8
  go_wp2_with fail
  generalize hW0 : ((w.alloc (.cells #[.slice D.A D.n D.c, .int .i64 (i : Int), .slice D.V D.m D.d, .bool D.known] 37)).alloc (.cells #[.slice none 0 0, .int .i64 0, .slice none 0 0, .bool false] 37)).alloc (.cells #[] 76) = W0 at *
  clear hW0 x3
  have hq := HIS.out i ⟨#[45]⟩ _ B0.out HF.out
  rw [← HN0.out] at hq
  refine hq.mono ?_
  rintro e W1 ⟨rfl, bq⟩
  have T1 := hide (T0.out.next bq)
  have R1 := hide (R0.out.next bq)
  have B1 := hide (B0.out.next bq)
  have L1 := hide (L0.out.below bq)
  clear T0 R0 B0 L0 bq hq u0 u1 u2 u3
  go_upto_if 12 with fail
  go_cut [6] (fun s6 wx => s6 = .bool n0 ∧ Hid (RSumRel D i w wx (.slice (some ⟨w.heap.size + 2, 0, none⟩) 0 0) n0 i0 ((rd D.ts i).length + 1) []))
  case first =>
    have u0 := T1.out.cell 0 _ rfl
    have u1 := T1.out.cell 1 _ rfl
    have u2 := T1.out.cell 2 _ rfl
    have u3 := T1.out.cell 3 _ rfl
    cases n0 with
    | true =>
      have hi0 : i0 = i + 1 := HI0.out
      subst hi0
      go_wp2_with fail
      have hq := on_any D i W1 (by have := HF.out; omega)
      unfold OnPost at hq
      refine hq.mono ?_
      rintro e W2 ⟨rfl, bq⟩
      have xT := T1.out.next bq
      have R2 := hide (R1.out.next bq)
      have B2 := hide (B1.out.next bq)
      have L2 := hide (L1.out.below bq)
      clear bq hq u0 u1 u2 u3
      go_wp2_with ((with_reducible refine wpList_store_box rfl 37 _ _ rfl w.heap.size #[.slice D.A D.n D.c, .int .i64 ((i : Int) + 1 : Int), .slice D.V D.m D.d, .bool D.known] rfl rfl _ xT (by kernel_rfl) rfl (by simp [Value.oneCell']) ?_); intro W3 kq ho)
      have HRR := hide (HR0.out W3 (L2.out.other ho (Or.inl (by omega))) kq (R2.out.other ho (by omega)) (B2.out.trans (ho.below B2.out.size (by omega))))
      simp only [Act.put]
      go_meet
      case rel => exact ⟨rfl, HRR⟩
    | false =>
      have hi0 : i0 = i := HI0.out
      subst hi0
      have HRR := hide (HR0.out W1 L1.out T1.out R1.out B1.out)
      go_wp2_with fail
      go_meet
      case rel => exact ⟨rfl, HRR⟩
  case rest =>
    obtain ⟨rfl, R0⟩ := hcut
    clear T1 R1 B1 L1 HR0 HN0 HI0
    go_wp2_with fail
    go_loopw [5, 6] (fun a b wr => ∃ neg i' m acc, b = .bool neg ∧ Hid (RSumRel D i w wr a neg i' m acc)) (fun a _ _ => 65 - lenOf a)
    case atStart => exact ⟨_, _, _, _, rfl, R0⟩
    case round =>
      obtain ⟨neg, i', m, acc, rfl, HR⟩ := hrel
      obtain ⟨A, c, rfl, hc1, hc2, -⟩ := HR.out.row.len
      have hf64 := HR.out.few
      generalize hn : acc.length = n at hc1 hf64 HR ⊢
      have HN := hide hn
      have HF0 := hide (HR.out.st.fits HF.out)
      have HST0 := hide HR.out.st
      have HMORE := hide HR.out.more
      have HEQ := hide HR.out.eq
      have B0 := hide HR.out.bel
      have T0 := hide HR.out.tape
      have R0 := hide HR.out.res
      have L0 := hide HR.out.row
      have hnx := HNT.out i' _ B0.out HF0.out
      unfold AtPost at hnx
      have hwf := HTG.out.hd_wf i'
      have hM := mono_rd D i' false
      have HMM := hide (fun full => mono_rd D i' full)
      have hm0 : 0 < m := Nat.lt_of_le_of_lt (Nat.zero_le _) HMORE.out
      clear HR hn
      by_cases h3 : (hd D.ts i').kind = 3
      · have hrn := hwf h3
        rw [h3] at hnx
        have HNX := hide hnx
        have hne := rnum_ne hrn
        have ge1 : ((hd D.ts i').text.toList == ([] : List UInt8)) = false := by
          have := toList_ne hne
          simpa using this
        have ge2 : ((hd D.ts i').text.toList != ([] : List UInt8)) = true := by
          rw [bne, ge1]; rfl
        have h5 : (hd D.ts i').kind ≠ 5 := by omega
        have HK1 := hide (rd_step HTG.out.ends h5)
        have HF1 := hide (show i' + 1 + (rd D.ts (i' + 1)).length ≤ 1099511627776 from by have := HF0.out; have := HK1.out; omega)
        by_cases hf : n = 64
        · subst hf
          have hmo : monoP D.kn (acc.length == 64) false (rd D.ts i') = .err 3 (rd D.ts i') := by rw [(show (acc.length == 64) = true from by rw [HN.out]; rfl), HMM.out, mono_num _ _ _ _ h3, if_pos rfl, ← rd_cons]
          have HP := hide (fun w9 (hb9 : Below w.heap.size w w9) => RSumPost.err (c := 3) (i' := i') (HEQ.out.trans (sumGo_err D.kn neg acc hm0 hmo)) (by decide) HST0.out hb9)
          clear hmo hM hwf h3 h5 hrn hne
          have HNXX := HNX.out
          have u0 := T0.out.cell 0 _ rfl
          have u1 := T0.out.cell 1 _ rfl
          have u2 := T0.out.cell 2 _ rfl
          have u3 := T0.out.cell 3 _ rfl
          go_wp2_with fail
          refine HNX.out.mono ?_
          rintro e v1 ⟨rfl, bq⟩
          have B1 := hide (B0.out.next bq)
          have L1 := hide (L0.out.below bq)
          have R1 := hide (R0.out.next bq)
          have T1 := hide (T0.out.next bq)
          clear B0 L0 R0 T0 bq
          clear u0 u1 u2 u3
          go_upto_region 6 with fail
          have bq := bl_alloc v1 (.cells #[.int .i64 3, .string (hd D.ts i').text, .int .i64 ((hd D.ts i').line : Int), .int .i64 ((hd D.ts i').col : Int)] 58)
          have sq : (v1.alloc (.cells #[.int .i64 3, .string (hd D.ts i').text, .int .i64 ((hd D.ts i').line : Int), .int .i64 ((hd D.ts i').col : Int)] 58)).heap.size = v1.heap.size + 1 := World.size_alloc _ _
          have zN : w.heap.size + 1 < v1.heap.size := R1.out.lt
          have B2 := hide (B1.out.next bq)
          have L2 := hide (L1.out.below bq)
          have R2 := hide (R1.out.next bq)
          have T2 := hide (T1.out.next bq)
          have N2 := hide (Box.new 58 v1 #[.int .i64 3, .string (hd D.ts i').text, .int .i64 ((hd D.ts i').line : Int), .int .i64 ((hd D.ts i').col : Int)])
          generalize hvn : v1.alloc (.cells #[.int .i64 3, .string (hd D.ts i').text, .int .i64 ((hd D.ts i').line : Int), .int .i64 ((hd D.ts i').col : Int)] 58) = v2 at *
          have zq2 : v1.heap.size < v2.heap.size := by omega
          clear hvn bq sq
          clear B1 L1 R1 T1
          have n0 := N2.out.cell 0 _ rfl
          have n1 := N2.out.cell 1 _ rfl
          have n2 := N2.out.cell 2 _ rfl
          have n3 := N2.out.cell 3 _ rfl
          have u0 := T2.out.cell 0 _ rfl
          have u1 := T2.out.cell 1 _ rfl
          have u2 := T2.out.cell 2 _ rfl
          have u3 := T2.out.cell 3 _ rfl
          have xR := R2.out
          go_wp2_with ((with_reducible refine wpList_store_box rfl 37 _ _ rfl (w.heap.size + 1) #[.slice D.A D.n D.c, .int .i64 ((i' : Int) : Int), .slice D.V D.m D.d, .bool D.known] rfl rfl _ xR (by kernel_rfl) rfl (by simp [Value.oneCell']) ?_); intro w9 k9 ho9)
          refine bodyPost_ts rfl rfl rfl rfl k9 rfl ?_
          exact HP.out _ (B2.out.trans (ho9.below B2.out.size (by omega)))
        · have g64 : ((n : Int) == 64) = false := by simp; omega
          cases hst : isT ⟨#[42]⟩ (rd D.ts (i' + 1)) with
          | false =>
            have hmo : monoP D.kn (acc.length == 64) false (rd D.ts i') = .ok ⟨(hd D.ts i').text, ⟨#[]⟩, false⟩ (rd D.ts (i' + 1)) := by rw [(show (acc.length == 64) = false from by rw [HN.out]; exact beq_eq_false_iff_ne.2 hf), HMM.out, mono_num _ _ _ _ h3, if_neg (by decide), ← HK1.out.1, if_neg (by rw [hst]; decide)]; rfl
            have HE := hide (HEQ.out.trans (sumGo_ok D.kn neg acc hm0 hmo))
            have HLN := hide (mono_len hmo)
            have HST := hide (HST0.out.trans' (i2 := i' + 1) rfl (by have := HK1.out; omega))
            clear hmo hM hwf h3 h5 hrn hne
            have u0 := T0.out.cell 0 _ rfl
            have u1 := T0.out.cell 1 _ rfl
            have u2 := T0.out.cell 2 _ rfl
            have u3 := T0.out.cell 3 _ rfl
            go_wp2_with fail
            refine HNX.out.mono ?_
            rintro e v1 ⟨rfl, bq⟩
            have B1 := hide (B0.out.next bq)
            have L1 := hide (L0.out.below bq)
            have R1 := hide (R0.out.next bq)
            have T1 := hide (T0.out.next bq)
            clear B0 L0 R0 T0 bq
            clear u0 u1 u2 u3
            go_upto_region 6 with fail
            have bq := bl_alloc v1 (.cells #[.int .i64 3, .string (hd D.ts i').text, .int .i64 ((hd D.ts i').line : Int), .int .i64 ((hd D.ts i').col : Int)] 58)
            have sq : (v1.alloc (.cells #[.int .i64 3, .string (hd D.ts i').text, .int .i64 ((hd D.ts i').line : Int), .int .i64 ((hd D.ts i').col : Int)] 58)).heap.size = v1.heap.size + 1 := World.size_alloc _ _
            have zN : w.heap.size + 1 < v1.heap.size := R1.out.lt
            have B2 := hide (B1.out.next bq)
            have L2 := hide (L1.out.below bq)
            have R2 := hide (R1.out.next bq)
            have T2 := hide (T1.out.next bq)
            have N2 := hide (Box.new 58 v1 #[.int .i64 3, .string (hd D.ts i').text, .int .i64 ((hd D.ts i').line : Int), .int .i64 ((hd D.ts i').col : Int)])
            generalize hvn : v1.alloc (.cells #[.int .i64 3, .string (hd D.ts i').text, .int .i64 ((hd D.ts i').line : Int), .int .i64 ((hd D.ts i').col : Int)] 58) = v2 at *
            have zq2 : v1.heap.size < v2.heap.size := by omega
            clear hvn bq sq
            clear B1 L1 R1 T1
            have n0 := N2.out.cell 0 _ rfl
            have n1 := N2.out.cell 1 _ rfl
            have n2 := N2.out.cell 2 _ rfl
            have n3 := N2.out.cell 3 _ rfl
            go_upto_region 13 with fail
            clear n0 n1 n2 n3
            have bq := bl_alloc v2 (.cells #[.bool neg, .string (hd D.ts i').text, .string ⟨#[]⟩] 76)
            have sq : (v2.alloc (.cells #[.bool neg, .string (hd D.ts i').text, .string ⟨#[]⟩] 76)).heap.size = v2.heap.size + 1 := World.size_alloc _ _
            have zM : w.heap.size + 1 < v2.heap.size := R2.out.lt
            have zNM : v1.heap.size < v2.heap.size := N2.out.lt
            have LM := hide (fun q (hq : (Value.slice A n c).ownBlock = some q) => (L2.out.lt q hq).2)
            have B3 := hide (B2.out.next bq)
            have L3 := hide (L2.out.below bq)
            have N3 := hide (N2.out.next bq)
            have R3 := hide (R2.out.next bq)
            have T3 := hide (T2.out.next bq)
            have M3 := hide (Box.new 76 v2 #[.bool neg, .string (hd D.ts i').text, .string ⟨#[]⟩])
            generalize hvn : v2.alloc (.cells #[.bool neg, .string (hd D.ts i').text, .string ⟨#[]⟩] 76) = v3 at *
            have zq3 : v2.heap.size < v3.heap.size := by omega
            clear hvn bq sq
            clear B2 L2 N2 R2 T2
            have u0 := T3.out.cell 0 _ rfl
            have u1 := T3.out.cell 1 _ rfl
            have u2 := T3.out.cell 2 _ rfl
            have u3 := T3.out.cell 3 _ rfl
            go_wp2_with fail
            have hq := on_any D i' v3 (by have := HF0.out; omega)
            unfold OnPost at hq
            refine hq.mono ?_
            rintro e v4 ⟨rfl, bq⟩
            have B4 := hide (B3.out.next bq)
            have L4 := hide (L3.out.below bq)
            have M4 := hide (M3.out.next bq)
            have N4 := hide (N3.out.next bq)
            have R4 := hide (R3.out.next bq)
            have T4 := hide (T3.out.next bq)
            clear B3 L3 M3 N3 R3 T3 bq hq
            have xT := T4.out
            go_upto_region 14 with ((with_reducible refine wpList_store_box rfl 37 _ _ rfl w.heap.size #[.slice D.A D.n D.c, .int .i64 ((i' : Int) + 1 : Int), .slice D.V D.m D.d, .bool D.known] rfl rfl _ xT (by kernel_rfl) rfl (by simp [Value.oneCell']) ?_); intro v5 kq ho)
            clear xT
            have T5 := hide kq
            have B5 := hide (B4.out.trans (ho.below B4.out.size (by omega)))
            have L5 := hide (L4.out.other ho (Or.inl (by omega)))
            have M5 := hide (M4.out.other ho (by omega))
            have N5 := hide (N4.out.other ho (by omega))
            have R5 := hide (R4.out.other ho (by omega))
            clear B4 L4 M4 N4 R4 T4 kq ho
            clear u0 u1 u2 u3
            have m1 := M5.out.cell 1 _ rfl
            have u0 := T5.out.cell 0 _ rfl
            have u1 := T5.out.cell 1 _ rfl
            have u2 := T5.out.cell 2 _ rfl
            have u3 := T5.out.cell 3 _ rfl
            go_wp2_with fail
            have hq := HIS.out (i' + 1) ⟨#[42]⟩ _ B5.out HF1.out
            rw [hst] at hq
            rw [show (((i' + 1) : Nat) : Int) = (i' : Int) + 1 from by omega] at hq
            refine hq.mono ?_
            rintro e v6 ⟨rfl, bq⟩
            have B6 := hide (B5.out.next bq)
            have L6 := hide (L5.out.below bq)
            have M6 := hide (M5.out.next bq)
            have N6 := hide (N5.out.next bq)
            have R6 := hide (R5.out.next bq)
            have T6 := hide (T5.out.next bq)
            clear B5 L5 M5 N5 R5 T5 bq hq
            clear u0 u1 u2 u3
            clear m1
            have m0 := M6.out.cell 0 _ rfl
            have m1 := M6.out.cell 1 _ rfl
            have m2 := M6.out.cell 2 _ rfl
            have bq := bl_alloc v6 (.cells #[.bool neg, .string (hd D.ts i').text, .string ⟨#[]⟩] 76)
            have B7 := hide (B6.out.next bq)
            have L7 := hide (L6.out.below bq)
            have M7 := hide (M6.out.next bq)
            have N7 := hide (N6.out.next bq)
            have R7 := hide (R6.out.next bq)
            have T7 := hide (T6.out.next bq)
            have hbx := heap_alloc_new v6 (.cells #[.bool neg, .string (hd D.ts i').text, .string ⟨#[]⟩] 76)
            have HBX := hide hbx
            clear bq hbx
            have hln := HN.out
            have zs := R7.out.lt
            go_upto_region 24 with (at_builtin; refine wpList_append_mono rfl _ _ rfl (w.heap.size + 2) _ acc rfl L7.out v6.heap.size ⟨(hd D.ts i').text, ⟨#[]⟩, neg⟩ rfl HBX.out (by omega) (by omega) ?_; intro vv v8 l5 g5)
            obtain ⟨A3, c3, rfl, hd1, hd2, -⟩ := l5.len
            have B8 := hide (L7.out.old B7.out g5 (by omega) (Nat.le_refl _))
            have L8 := hide l5
            have R8 := hide (R7.out.grown g5 (fun e => by have := L7.out.lt _ e.symm; omega))
            have T8 := hide (T7.out.grown g5 (fun e => by have := L7.out.lt _ e.symm; omega))
            generalize hn3 : (acc ++ [⟨(hd D.ts i').text, ⟨#[]⟩, neg⟩] : List Mn).length = n3 at hd1 L8 ⊢
            have hn4 : n3 = n + 1 := by rw [← hn3, List.length_append, HN.out]; rfl
            subst hn4
            have HN3 := hide hn3
            clear l5 g5 hn3 HBX hln m0 m1 m2 B7 L7 M7 N7 R7 T7 B6 L6 M6 N6 R6 T6
            cases hs : isT ⟨#[45]⟩ (rd D.ts (i' + 1)) with
            | true =>
              have HK := hide (show rd D.ts (i' + 2) = (rd D.ts (i' + 1)).tail ∧ (rd D.ts (i' + 2)).length + 1 = (rd D.ts (i' + 1)).length from ⟨(isT_step HTG.out.ends hs).1, (isT_step HTG.out.ends hs).2.1⟩)
              have EQ := hide (HE.out.trans (if_pos hs))
              rw [← HK.out.1] at EQ
              have HF2 := hide (show i' + 2 + (rd D.ts (i' + 2)).length ≤ 1099511627776 from by have := HF1.out; have := HK.out; omega)
              have u0 := T8.out.cell 0 _ rfl
              have u1 := T8.out.cell 1 _ rfl
              have u2 := T8.out.cell 2 _ rfl
              have u3 := T8.out.cell 3 _ rfl
              go_wp2_with fail
              have hq := HIS.out (i' + 1) ⟨#[45]⟩ _ B8.out HF1.out
              rw [hs] at hq
              rw [show (((i' + 1) : Nat) : Int) = (i' : Int) + 1 from by omega] at hq
              refine hq.mono ?_
              rintro e v9 ⟨rfl, bq⟩
              have B9 := hide (B8.out.next bq)
              have L9 := hide (L8.out.below bq)
              have R9 := hide (R8.out.next bq)
              have T9 := hide (T8.out.next bq)
              clear B8 L8 R8 T8 bq hq
              clear u0 u1 u2 u3
              have u0 := T9.out.cell 0 _ rfl
              have u1 := T9.out.cell 1 _ rfl
              have u2 := T9.out.cell 2 _ rfl
              have u3 := T9.out.cell 3 _ rfl
              go_wp2_with fail
              have hq := on_any D (i' + 1) v9 (by have := HF1.out; omega)
              unfold OnPost at hq
              rw [show (((i' + 1) : Nat) : Int) = (i' : Int) + 1 from by omega] at hq
              refine hq.mono ?_
              rintro e v10 ⟨rfl, bq⟩
              have B10 := hide (B9.out.next bq)
              have L10 := hide (L9.out.below bq)
              have R10 := hide (R9.out.next bq)
              have T10 := hide (T9.out.next bq)
              clear B9 L9 R9 T9 bq hq
              clear u0 u1 u2 u3
              have xT := T10.out
              rw [show ((i' : Int) + 1 + 1) = (i' : Int) + 2 from by omega]
              go_wp2_with ((with_reducible refine wpList_store_box rfl 37 _ _ rfl w.heap.size #[.slice D.A D.n D.c, .int .i64 ((i' : Int) + 2 : Int), .slice D.V D.m D.d, .bool D.known] rfl rfl _ xT (by kernel_rfl) rfl (by simp [Value.oneCell']) ?_); intro v11 kq ho)
              clear xT
              have B11 := hide (B10.out.trans (ho.below B10.out.size (by omega)))
              have L11 := hide (L10.out.other ho (Or.inl (by omega)))
              have R11 := hide (R10.out.other ho (by omega))
              have HRR := hide (show RSumRel D i w v11 (.slice A3 (n + 1) c3) true (i' + 2) (m - 1) (acc ++ [⟨(hd D.ts i').text, ⟨#[]⟩, neg⟩]) from
                ⟨by rw [HN3.out]; exact L11.out, by rw [show (((i' + 2 : Nat)) : Int) = (i' : Int) + 2 from by omega]; exact kq, R11.out, B11.out, HST.out.trans' rfl (by have := HK.out; omega), EQ.out, by have := HMORE.out; have := HK.out; have := HLN.out; omega, by rw [HN3.out]; omega⟩)
              simp only [Act.put]
              go_roundw
              case rel => exact ⟨_, _, _, _, rfl, HRR⟩
              case measure => simp [lenOf]; omega
            | false =>
              cases hp : isT ⟨#[43]⟩ (rd D.ts (i' + 1)) with
              | true =>
                have HK := hide (show rd D.ts (i' + 2) = (rd D.ts (i' + 1)).tail ∧ (rd D.ts (i' + 2)).length + 1 = (rd D.ts (i' + 1)).length from ⟨(isT_step HTG.out.ends hp).1, (isT_step HTG.out.ends hp).2.1⟩)
                have EQ := hide (HE.out.trans ((if_neg (by rw [hs]; decide)).trans (if_pos hp)))
                rw [← HK.out.1] at EQ
                have HF2 := hide (show i' + 2 + (rd D.ts (i' + 2)).length ≤ 1099511627776 from by have := HF1.out; have := HK.out; omega)
                have u0 := T8.out.cell 0 _ rfl
                have u1 := T8.out.cell 1 _ rfl
                have u2 := T8.out.cell 2 _ rfl
                have u3 := T8.out.cell 3 _ rfl
                go_wp2_with fail
                have hq := HIS.out (i' + 1) ⟨#[45]⟩ _ B8.out HF1.out
                rw [hs] at hq
                rw [show (((i' + 1) : Nat) : Int) = (i' : Int) + 1 from by omega] at hq
                refine hq.mono ?_
                rintro e v9 ⟨rfl, bq⟩
                have B9 := hide (B8.out.next bq)
                have L9 := hide (L8.out.below bq)
                have R9 := hide (R8.out.next bq)
                have T9 := hide (T8.out.next bq)
                clear B8 L8 R8 T8 bq hq
                clear u0 u1 u2 u3
                have u0 := T9.out.cell 0 _ rfl
                have u1 := T9.out.cell 1 _ rfl
                have u2 := T9.out.cell 2 _ rfl
                have u3 := T9.out.cell 3 _ rfl
                go_wp2_with fail
                have hq := HIS.out (i' + 1) ⟨#[43]⟩ _ B9.out HF1.out
                rw [hp] at hq
                rw [show (((i' + 1) : Nat) : Int) = (i' : Int) + 1 from by omega] at hq
                refine hq.mono ?_
                rintro e v10 ⟨rfl, bq⟩
                have B10 := hide (B9.out.next bq)
                have L10 := hide (L9.out.below bq)
                have R10 := hide (R9.out.next bq)
                have T10 := hide (T9.out.next bq)
                clear B9 L9 R9 T9 bq hq
                clear u0 u1 u2 u3
                have u0 := T10.out.cell 0 _ rfl
                have u1 := T10.out.cell 1 _ rfl
                have u2 := T10.out.cell 2 _ rfl
                have u3 := T10.out.cell 3 _ rfl
                go_wp2_with fail
                have hq := on_any D (i' + 1) v10 (by have := HF1.out; omega)
                unfold OnPost at hq
                rw [show (((i' + 1) : Nat) : Int) = (i' : Int) + 1 from by omega] at hq
                refine hq.mono ?_
                rintro e v11 ⟨rfl, bq⟩
                have B11 := hide (B10.out.next bq)
                have L11 := hide (L10.out.below bq)
                have R11 := hide (R10.out.next bq)
                have T11 := hide (T10.out.next bq)
                clear B10 L10 R10 T10 bq hq
                clear u0 u1 u2 u3
                have xT := T11.out
                rw [show ((i' : Int) + 1 + 1) = (i' : Int) + 2 from by omega]
                go_wp2_with ((with_reducible refine wpList_store_box rfl 37 _ _ rfl w.heap.size #[.slice D.A D.n D.c, .int .i64 ((i' : Int) + 2 : Int), .slice D.V D.m D.d, .bool D.known] rfl rfl _ xT (by kernel_rfl) rfl (by simp [Value.oneCell']) ?_); intro v12 kq ho)
                clear xT
                have B12 := hide (B11.out.trans (ho.below B11.out.size (by omega)))
                have L12 := hide (L11.out.other ho (Or.inl (by omega)))
                have R12 := hide (R11.out.other ho (by omega))
                have HRR := hide (show RSumRel D i w v12 (.slice A3 (n + 1) c3) false (i' + 2) (m - 1) (acc ++ [⟨(hd D.ts i').text, ⟨#[]⟩, neg⟩]) from
                  ⟨by rw [HN3.out]; exact L12.out, by rw [show (((i' + 2 : Nat)) : Int) = (i' : Int) + 2 from by omega]; exact kq, R12.out, B12.out, HST.out.trans' rfl (by have := HK.out; omega), EQ.out, by have := HMORE.out; have := HK.out; have := HLN.out; omega, by rw [HN3.out]; omega⟩)
                simp only [Act.put]
                go_roundw
                case rel => exact ⟨_, _, _, _, rfl, HRR⟩
                case measure => simp [lenOf]; omega
              | false =>
                have EQ := hide (HE.out.trans ((if_neg (by rw [hs]; decide)).trans (if_neg (by rw [hp]; decide))))
                have u0 := T8.out.cell 0 _ rfl
                have u1 := T8.out.cell 1 _ rfl
                have u2 := T8.out.cell 2 _ rfl
                have u3 := T8.out.cell 3 _ rfl
                go_wp2_with fail
                have hq := HIS.out (i' + 1) ⟨#[45]⟩ _ B8.out HF1.out
                rw [hs] at hq
                rw [show (((i' + 1) : Nat) : Int) = (i' : Int) + 1 from by omega] at hq
                refine hq.mono ?_
                rintro e v9 ⟨rfl, bq⟩
                have B9 := hide (B8.out.next bq)
                have L9 := hide (L8.out.below bq)
                have R9 := hide (R8.out.next bq)
                have T9 := hide (T8.out.next bq)
                clear B8 L8 R8 T8 bq hq
                clear u0 u1 u2 u3
                have u0 := T9.out.cell 0 _ rfl
                have u1 := T9.out.cell 1 _ rfl
                have u2 := T9.out.cell 2 _ rfl
                have u3 := T9.out.cell 3 _ rfl
                go_wp2_with fail
                have hq := HIS.out (i' + 1) ⟨#[43]⟩ _ B9.out HF1.out
                rw [hp] at hq
                rw [show (((i' + 1) : Nat) : Int) = (i' : Int) + 1 from by omega] at hq
                refine hq.mono ?_
                rintro e v10 ⟨rfl, bq⟩
                have B10 := hide (B9.out.next bq)
                have L10 := hide (L9.out.below bq)
                have R10 := hide (R9.out.next bq)
                have T10 := hide (T9.out.next bq)
                clear B9 L9 R9 T9 bq hq
                clear u0 u1 u2 u3
                have u0 := T10.out.cell 0 _ rfl
                have u1 := T10.out.cell 1 _ rfl
                have u2 := T10.out.cell 2 _ rfl
                have u3 := T10.out.cell 3 _ rfl
                have HP := hide (fun w9 (hb9 : Below w.heap.size w w9) (hl9 : LRow 76 3 w9 (w.heap.size + 2) (.slice A3 (n + 1) c3) (n + 1) (flatM (acc ++ [⟨(hd D.ts i').text, ⟨#[]⟩, neg⟩]))) => RSumPost.ok (D := D) (i := i) (i' := (i' + 1)) (by rw [EQ.out]) (by rw [HN3.out]; exact hl9) HST.out hb9)
                have xR := R10.out
                rw [show (((i' + 1) : Nat) : Int) = (i' : Int) + 1 from by omega] at HP
                go_wp2_with ((with_reducible refine wpList_store_box rfl 37 _ _ rfl (w.heap.size + 1) #[.slice D.A D.n D.c, .int .i64 ((i' : Int) + 1 : Int), .slice D.V D.m D.d, .bool D.known] rfl rfl _ xR (by kernel_rfl) rfl (by simp [Value.oneCell']) ?_); intro w9 k9 ho9)
                refine bodyPost_ts rfl rfl rfl rfl k9 rfl ?_
                exact HP.out _ (B10.out.trans (ho9.below B10.out.size (by omega))) (L10.out.other ho9 (Or.inl (by omega)))
          | true =>
            have HK2 := hide (show rd D.ts (i' + 2) = (rd D.ts (i' + 1)).tail ∧ (rd D.ts (i' + 2)).length + 1 = (rd D.ts (i' + 1)).length from ⟨(isT_step HTG.out.ends hst).1, (isT_step HTG.out.ends hst).2.1⟩)
            have HF2 := hide (show i' + 2 + (rd D.ts (i' + 2)).length ≤ 1099511627776 from by have := HF1.out; have := HK2.out; omega)
            have e2 : (rd D.ts (i' + 1)).tail = rd D.ts (i' + 2) := HK2.out.1.symm
            have hmo0 : monoP D.kn (acc.length == 64) false (rd D.ts i') = if isName (pt (hd D.ts (i' + 2))) = true then (if D.kn (hd D.ts (i' + 2)).text = true then .ok ⟨(hd D.ts i').text, (hd D.ts (i' + 2)).text, false⟩ (rd D.ts (i' + 2)).tail else .err 110 (rd D.ts (i' + 2))) else .err 101 (rd D.ts (i' + 2)) := by
              rw [(show (acc.length == 64) = false from by rw [HN.out]; exact beq_eq_false_iff_ne.2 hf), HMM.out, mono_num _ _ _ _ h3, if_neg (by decide), ← HK1.out.1, if_pos hst, e2, rd_cons D.ts (i' + 2)]
              rfl
            have HST2 := hide (HST0.out.trans' (i2 := i' + 2) rfl (by have := HK1.out; have := HK2.out; omega))
            clear hM hwf h3 h5 hrn hne e2
            cases hnm : isName (pt (hd D.ts (i' + 2))) with
            | false =>
              have hmo := hmo0
              rw [if_neg (by rw [hnm]; decide)] at hmo
              have HP := hide (fun w9 (hb9 : Below w.heap.size w w9) => RSumPost.err (c := 101) (i' := (i' + 2)) (HEQ.out.trans (sumGo_err D.kn neg acc hm0 hmo)) (by decide) HST2.out hb9)
              rw [show (((i' + 2) : Nat) : Int) = (i' : Int) + 2 from by omega] at HP
              clear hmo hmo0
              have u0 := T0.out.cell 0 _ rfl
              have u1 := T0.out.cell 1 _ rfl
              have u2 := T0.out.cell 2 _ rfl
              have u3 := T0.out.cell 3 _ rfl
              go_wp2_with fail
              refine HNX.out.mono ?_
              rintro e v1 ⟨rfl, bq⟩
              have B1 := hide (B0.out.next bq)
              have L1 := hide (L0.out.below bq)
              have R1 := hide (R0.out.next bq)
              have T1 := hide (T0.out.next bq)
              clear B0 L0 R0 T0 bq
              clear u0 u1 u2 u3
              go_upto_region 6 with fail
              have bq := bl_alloc v1 (.cells #[.int .i64 3, .string (hd D.ts i').text, .int .i64 ((hd D.ts i').line : Int), .int .i64 ((hd D.ts i').col : Int)] 58)
              have sq : (v1.alloc (.cells #[.int .i64 3, .string (hd D.ts i').text, .int .i64 ((hd D.ts i').line : Int), .int .i64 ((hd D.ts i').col : Int)] 58)).heap.size = v1.heap.size + 1 := World.size_alloc _ _
              have zN : w.heap.size + 1 < v1.heap.size := R1.out.lt
              have B2 := hide (B1.out.next bq)
              have L2 := hide (L1.out.below bq)
              have R2 := hide (R1.out.next bq)
              have T2 := hide (T1.out.next bq)
              have N2 := hide (Box.new 58 v1 #[.int .i64 3, .string (hd D.ts i').text, .int .i64 ((hd D.ts i').line : Int), .int .i64 ((hd D.ts i').col : Int)])
              generalize hvn : v1.alloc (.cells #[.int .i64 3, .string (hd D.ts i').text, .int .i64 ((hd D.ts i').line : Int), .int .i64 ((hd D.ts i').col : Int)] 58) = v2 at *
              have zq2 : v1.heap.size < v2.heap.size := by omega
              clear hvn bq sq
              clear B1 L1 R1 T1
              have n0 := N2.out.cell 0 _ rfl
              have n1 := N2.out.cell 1 _ rfl
              have n2 := N2.out.cell 2 _ rfl
              have n3 := N2.out.cell 3 _ rfl
              go_upto_region 13 with fail
              clear n0 n1 n2 n3
              have bq := bl_alloc v2 (.cells #[.bool neg, .string (hd D.ts i').text, .string ⟨#[]⟩] 76)
              have sq : (v2.alloc (.cells #[.bool neg, .string (hd D.ts i').text, .string ⟨#[]⟩] 76)).heap.size = v2.heap.size + 1 := World.size_alloc _ _
              have zM : w.heap.size + 1 < v2.heap.size := R2.out.lt
              have zNM : v1.heap.size < v2.heap.size := N2.out.lt
              have LM := hide (fun q (hq : (Value.slice A n c).ownBlock = some q) => (L2.out.lt q hq).2)
              have B3 := hide (B2.out.next bq)
              have L3 := hide (L2.out.below bq)
              have N3 := hide (N2.out.next bq)
              have R3 := hide (R2.out.next bq)
              have T3 := hide (T2.out.next bq)
              have M3 := hide (Box.new 76 v2 #[.bool neg, .string (hd D.ts i').text, .string ⟨#[]⟩])
              generalize hvn : v2.alloc (.cells #[.bool neg, .string (hd D.ts i').text, .string ⟨#[]⟩] 76) = v3 at *
              have zq3 : v2.heap.size < v3.heap.size := by omega
              clear hvn bq sq
              clear B2 L2 N2 R2 T2
              have u0 := T3.out.cell 0 _ rfl
              have u1 := T3.out.cell 1 _ rfl
              have u2 := T3.out.cell 2 _ rfl
              have u3 := T3.out.cell 3 _ rfl
              go_wp2_with fail
              have hq := on_any D i' v3 (by have := HF0.out; omega)
              unfold OnPost at hq
              refine hq.mono ?_
              rintro e v4 ⟨rfl, bq⟩
              have B4 := hide (B3.out.next bq)
              have L4 := hide (L3.out.below bq)
              have M4 := hide (M3.out.next bq)
              have N4 := hide (N3.out.next bq)
              have R4 := hide (R3.out.next bq)
              have T4 := hide (T3.out.next bq)
              clear B3 L3 M3 N3 R3 T3 bq hq
              have xT := T4.out
              go_upto_region 14 with ((with_reducible refine wpList_store_box rfl 37 _ _ rfl w.heap.size #[.slice D.A D.n D.c, .int .i64 ((i' : Int) + 1 : Int), .slice D.V D.m D.d, .bool D.known] rfl rfl _ xT (by kernel_rfl) rfl (by simp [Value.oneCell']) ?_); intro v5 kq ho)
              clear xT
              have T5 := hide kq
              have B5 := hide (B4.out.trans (ho.below B4.out.size (by omega)))
              have L5 := hide (L4.out.other ho (Or.inl (by omega)))
              have M5 := hide (M4.out.other ho (by omega))
              have N5 := hide (N4.out.other ho (by omega))
              have R5 := hide (R4.out.other ho (by omega))
              clear B4 L4 M4 N4 R4 T4 kq ho
              clear u0 u1 u2 u3
              have m1 := M5.out.cell 1 _ rfl
              have u0 := T5.out.cell 0 _ rfl
              have u1 := T5.out.cell 1 _ rfl
              have u2 := T5.out.cell 2 _ rfl
              have u3 := T5.out.cell 3 _ rfl
              go_wp2_with fail
              have hq := HIS.out (i' + 1) ⟨#[42]⟩ _ B5.out HF1.out
              rw [hst] at hq
              rw [show (((i' + 1) : Nat) : Int) = (i' : Int) + 1 from by omega] at hq
              refine hq.mono ?_
              rintro e v6 ⟨rfl, bq⟩
              have B6 := hide (B5.out.next bq)
              have L6 := hide (L5.out.below bq)
              have M6 := hide (M5.out.next bq)
              have N6 := hide (N5.out.next bq)
              have R6 := hide (R5.out.next bq)
              have T6 := hide (T5.out.next bq)
              clear B5 L5 M5 N5 R5 T5 bq hq
              clear u0 u1 u2 u3
              clear m1
              have m1 := M6.out.cell 1 _ rfl
              have u0 := T6.out.cell 0 _ rfl
              have u1 := T6.out.cell 1 _ rfl
              have u2 := T6.out.cell 2 _ rfl
              have u3 := T6.out.cell 3 _ rfl
              go_wp2_with fail
              have hq := on_any D (i' + 1) v6 (by have := HF1.out; omega)
              unfold OnPost at hq
              rw [show (((i' + 1) : Nat) : Int) = (i' : Int) + 1 from by omega] at hq
              refine hq.mono ?_
              rintro e v7 ⟨rfl, bq⟩
              have B7 := hide (B6.out.next bq)
              have L7 := hide (L6.out.below bq)
              have M7 := hide (M6.out.next bq)
              have N7 := hide (N6.out.next bq)
              have R7 := hide (R6.out.next bq)
              have T7 := hide (T6.out.next bq)
              clear B6 L6 M6 N6 R6 T6 bq hq
              have xT := T7.out
              rw [show ((i' : Int) + 1 + 1) = (i' : Int) + 2 from by omega]
              go_upto_region 17 with ((with_reducible refine wpList_store_box rfl 37 _ _ rfl w.heap.size #[.slice D.A D.n D.c, .int .i64 ((i' : Int) + 2 : Int), .slice D.V D.m D.d, .bool D.known] rfl rfl _ xT (by kernel_rfl) rfl (by simp [Value.oneCell']) ?_); intro v8 kq ho)
              clear xT
              have T8 := hide kq
              have B8 := hide (B7.out.trans (ho.below B7.out.size (by omega)))
              have L8 := hide (L7.out.other ho (Or.inl (by omega)))
              have M8 := hide (M7.out.other ho (by omega))
              have N8 := hide (N7.out.other ho (by omega))
              have R8 := hide (R7.out.other ho (by omega))
              clear B7 L7 M7 N7 R7 T7 kq ho
              clear u0 u1 u2 u3 m1
              have u0 := T8.out.cell 0 _ rfl
              have u1 := T8.out.cell 1 _ rfl
              have u2 := T8.out.cell 2 _ rfl
              have u3 := T8.out.cell 3 _ rfl
              go_wp2_with fail
              have hq := HIN.out (i' + 2) _ B8.out HF2.out
              rw [hnm] at hq
              rw [show (((i' + 2) : Nat) : Int) = (i' : Int) + 2 from by omega] at hq
              refine hq.mono ?_
              rintro e v9 ⟨rfl, bq⟩
              have B9 := hide (B8.out.next bq)
              have L9 := hide (L8.out.below bq)
              have M9 := hide (M8.out.next bq)
              have N9 := hide (N8.out.next bq)
              have R9 := hide (R8.out.next bq)
              have T9 := hide (T8.out.next bq)
              clear B8 L8 M8 N8 R8 T8 bq hq
              clear u0 u1 u2 u3
              have u0 := T9.out.cell 0 _ rfl
              have u1 := T9.out.cell 1 _ rfl
              have u2 := T9.out.cell 2 _ rfl
              have u3 := T9.out.cell 3 _ rfl
              have xR := R9.out
              go_wp2_with ((with_reducible refine wpList_store_box rfl 37 _ _ rfl (w.heap.size + 1) #[.slice D.A D.n D.c, .int .i64 ((i' : Int) + 2 : Int), .slice D.V D.m D.d, .bool D.known] rfl rfl _ xR (by kernel_rfl) rfl (by simp [Value.oneCell']) ?_); intro w9 k9 ho9)
              refine bodyPost_ts rfl rfl rfl rfl k9 rfl ?_
              exact HP.out _ (B9.out.trans (ho9.below B9.out.size (by omega)))
            | true =>
              rw [if_pos hnm] at hmo0
              have HKN := hide (show rd D.ts (i' + 3) = (rd D.ts (i' + 2)).tail ∧ (rd D.ts (i' + 3)).length + 1 = (rd D.ts (i' + 2)).length from ⟨(rd_step HTG.out.ends (name_kind hnm)).1, (rd_step HTG.out.ends (name_kind hnm)).2.1⟩)
              have HF3 := hide (show i' + 3 + (rd D.ts (i' + 3)).length ≤ 1099511627776 from by have := HF2.out; have := HKN.out; omega)
              cases hknown : D.known with
              | false =>
                have hmo := hmo0
                rw [if_pos (by unfold CD.kn; rw [hknown]; rfl), ← HKN.out.1] at hmo
                have HE := hide (HEQ.out.trans (sumGo_ok D.kn neg acc hm0 hmo))
                have HLN := hide (mono_len hmo)
                have HST := hide (HST2.out.trans' (i2 := i' + 3) rfl (by have := HKN.out; omega))
                clear hmo hmo0
                have HKNO := hide hknown
                clear hknown
                have u0 := T0.out.cell 0 _ rfl
                have u1 := T0.out.cell 1 _ rfl
                have u2 := T0.out.cell 2 _ rfl
                have u3 := T0.out.cell 3 _ rfl
                go_wp2_with fail
                refine HNX.out.mono ?_
                rintro e v1 ⟨rfl, bq⟩
                have B1 := hide (B0.out.next bq)
                have L1 := hide (L0.out.below bq)
                have R1 := hide (R0.out.next bq)
                have T1 := hide (T0.out.next bq)
                clear B0 L0 R0 T0 bq
                clear u0 u1 u2 u3
                go_upto_region 6 with fail
                have bq := bl_alloc v1 (.cells #[.int .i64 3, .string (hd D.ts i').text, .int .i64 ((hd D.ts i').line : Int), .int .i64 ((hd D.ts i').col : Int)] 58)
                have sq : (v1.alloc (.cells #[.int .i64 3, .string (hd D.ts i').text, .int .i64 ((hd D.ts i').line : Int), .int .i64 ((hd D.ts i').col : Int)] 58)).heap.size = v1.heap.size + 1 := World.size_alloc _ _
                have zN : w.heap.size + 1 < v1.heap.size := R1.out.lt
                have B2 := hide (B1.out.next bq)
                have L2 := hide (L1.out.below bq)
                have R2 := hide (R1.out.next bq)
                have T2 := hide (T1.out.next bq)
                have N2 := hide (Box.new 58 v1 #[.int .i64 3, .string (hd D.ts i').text, .int .i64 ((hd D.ts i').line : Int), .int .i64 ((hd D.ts i').col : Int)])
                generalize hvn : v1.alloc (.cells #[.int .i64 3, .string (hd D.ts i').text, .int .i64 ((hd D.ts i').line : Int), .int .i64 ((hd D.ts i').col : Int)] 58) = v2 at *
                have zq2 : v1.heap.size < v2.heap.size := by omega
                clear hvn bq sq
                clear B1 L1 R1 T1
                have n0 := N2.out.cell 0 _ rfl
                have n1 := N2.out.cell 1 _ rfl
                have n2 := N2.out.cell 2 _ rfl
                have n3 := N2.out.cell 3 _ rfl
                go_upto_region 13 with fail
                clear n0 n1 n2 n3
                have bq := bl_alloc v2 (.cells #[.bool neg, .string (hd D.ts i').text, .string ⟨#[]⟩] 76)
                have sq : (v2.alloc (.cells #[.bool neg, .string (hd D.ts i').text, .string ⟨#[]⟩] 76)).heap.size = v2.heap.size + 1 := World.size_alloc _ _
                have zM : w.heap.size + 1 < v2.heap.size := R2.out.lt
                have zNM : v1.heap.size < v2.heap.size := N2.out.lt
                have LM := hide (fun q (hq : (Value.slice A n c).ownBlock = some q) => (L2.out.lt q hq).2)
                have B3 := hide (B2.out.next bq)
                have L3 := hide (L2.out.below bq)
                have N3 := hide (N2.out.next bq)
                have R3 := hide (R2.out.next bq)
                have T3 := hide (T2.out.next bq)
                have M3 := hide (Box.new 76 v2 #[.bool neg, .string (hd D.ts i').text, .string ⟨#[]⟩])
                generalize hvn : v2.alloc (.cells #[.bool neg, .string (hd D.ts i').text, .string ⟨#[]⟩] 76) = v3 at *
                have zq3 : v2.heap.size < v3.heap.size := by omega
                clear hvn bq sq
                clear B2 L2 N2 R2 T2
                have u0 := T3.out.cell 0 _ rfl
                have u1 := T3.out.cell 1 _ rfl
                have u2 := T3.out.cell 2 _ rfl
                have u3 := T3.out.cell 3 _ rfl
                go_wp2_with fail
                have hq := on_any D i' v3 (by have := HF0.out; omega)
                unfold OnPost at hq
                refine hq.mono ?_
                rintro e v4 ⟨rfl, bq⟩
                have B4 := hide (B3.out.next bq)
                have L4 := hide (L3.out.below bq)
                have M4 := hide (M3.out.next bq)
                have N4 := hide (N3.out.next bq)
                have R4 := hide (R3.out.next bq)
                have T4 := hide (T3.out.next bq)
                clear B3 L3 M3 N3 R3 T3 bq hq
                have xT := T4.out
                go_upto_region 14 with ((with_reducible refine wpList_store_box rfl 37 _ _ rfl w.heap.size #[.slice D.A D.n D.c, .int .i64 ((i' : Int) + 1 : Int), .slice D.V D.m D.d, .bool D.known] rfl rfl _ xT (by kernel_rfl) rfl (by simp [Value.oneCell']) ?_); intro v5 kq ho)
                clear xT
                have T5 := hide kq
                have B5 := hide (B4.out.trans (ho.below B4.out.size (by omega)))
                have L5 := hide (L4.out.other ho (Or.inl (by omega)))
                have M5 := hide (M4.out.other ho (by omega))
                have N5 := hide (N4.out.other ho (by omega))
                have R5 := hide (R4.out.other ho (by omega))
                clear B4 L4 M4 N4 R4 T4 kq ho
                clear u0 u1 u2 u3
                have m1 := M5.out.cell 1 _ rfl
                have u0 := T5.out.cell 0 _ rfl
                have u1 := T5.out.cell 1 _ rfl
                have u2 := T5.out.cell 2 _ rfl
                have u3 := T5.out.cell 3 _ rfl
                go_wp2_with fail
                have hq := HIS.out (i' + 1) ⟨#[42]⟩ _ B5.out HF1.out
                rw [hst] at hq
                rw [show (((i' + 1) : Nat) : Int) = (i' : Int) + 1 from by omega] at hq
                refine hq.mono ?_
                rintro e v6 ⟨rfl, bq⟩
                have B6 := hide (B5.out.next bq)
                have L6 := hide (L5.out.below bq)
                have M6 := hide (M5.out.next bq)
                have N6 := hide (N5.out.next bq)
                have R6 := hide (R5.out.next bq)
                have T6 := hide (T5.out.next bq)
                clear B5 L5 M5 N5 R5 T5 bq hq
                clear u0 u1 u2 u3
                clear m1
                have m1 := M6.out.cell 1 _ rfl
                have u0 := T6.out.cell 0 _ rfl
                have u1 := T6.out.cell 1 _ rfl
                have u2 := T6.out.cell 2 _ rfl
                have u3 := T6.out.cell 3 _ rfl
                go_wp2_with fail
                have hq := on_any D (i' + 1) v6 (by have := HF1.out; omega)
                unfold OnPost at hq
                rw [show (((i' + 1) : Nat) : Int) = (i' : Int) + 1 from by omega] at hq
                refine hq.mono ?_
                rintro e v7 ⟨rfl, bq⟩
                have B7 := hide (B6.out.next bq)
                have L7 := hide (L6.out.below bq)
                have M7 := hide (M6.out.next bq)
                have N7 := hide (N6.out.next bq)
                have R7 := hide (R6.out.next bq)
                have T7 := hide (T6.out.next bq)
                clear B6 L6 M6 N6 R6 T6 bq hq
                have xT := T7.out
                rw [show ((i' : Int) + 1 + 1) = (i' : Int) + 2 from by omega]
                go_upto_region 17 with ((with_reducible refine wpList_store_box rfl 37 _ _ rfl w.heap.size #[.slice D.A D.n D.c, .int .i64 ((i' : Int) + 2 : Int), .slice D.V D.m D.d, .bool D.known] rfl rfl _ xT (by kernel_rfl) rfl (by simp [Value.oneCell']) ?_); intro v8 kq ho)
                clear xT
                have T8 := hide kq
                have B8 := hide (B7.out.trans (ho.below B7.out.size (by omega)))
                have L8 := hide (L7.out.other ho (Or.inl (by omega)))
                have M8 := hide (M7.out.other ho (by omega))
                have N8 := hide (N7.out.other ho (by omega))
                have R8 := hide (R7.out.other ho (by omega))
                clear B7 L7 M7 N7 R7 T7 kq ho
                clear u0 u1 u2 u3 m1
                have u0 := T8.out.cell 0 _ rfl
                have u1 := T8.out.cell 1 _ rfl
                have u2 := T8.out.cell 2 _ rfl
                have u3 := T8.out.cell 3 _ rfl
                go_wp2_with fail
                have hq := HIN.out (i' + 2) _ B8.out HF2.out
                rw [hnm] at hq
                rw [show (((i' + 2) : Nat) : Int) = (i' : Int) + 2 from by omega] at hq
                refine hq.mono ?_
                rintro e v9 ⟨rfl, bq⟩
                have B9 := hide (B8.out.next bq)
                have L9 := hide (L8.out.below bq)
                have M9 := hide (M8.out.next bq)
                have N9 := hide (N8.out.next bq)
                have R9 := hide (R8.out.next bq)
                have T9 := hide (T8.out.next bq)
                clear B8 L8 M8 N8 R8 T8 bq hq
                clear u0 u1 u2 u3
                have u0 := T9.out.cell 0 _ rfl
                have u1 := T9.out.cell 1 _ rfl
                have u2 := T9.out.cell 2 _ rfl
                have u3 := T9.out.cell 3 _ rfl
                go_wp2_with fail
                have hq := HNT.out (i' + 2) _ B9.out HF2.out
                unfold AtPost at hq
                rw [show (((i' + 2) : Nat) : Int) = (i' : Int) + 2 from by omega] at hq
                refine hq.mono ?_
                rintro e v10 ⟨rfl, bq⟩
                have B10 := hide (B9.out.next bq)
                have L10 := hide (L9.out.below bq)
                have M10 := hide (M9.out.next bq)
                have N10 := hide (N9.out.next bq)
                have R10 := hide (R9.out.next bq)
                have T10 := hide (T9.out.next bq)
                clear B9 L9 M9 N9 R9 T9 bq hq
                clear u0 u1 u2 u3
                have m2 := M10.out.cell 2 _ rfl
                have mf := M10.out.fr 2
                have HFD := fun a c d s W => field_rtext a c d s W
                go_upto_region 20 with fail
                clear m2 mf HFD
                have ho := only_set v10 v2.heap.size 2 (.string (hd D.ts (i' + 2)).text)
                have M11 := hide (Box.set_2 M10.out (.string (hd D.ts (i' + 2)).text))
                generalize hvn : v10.setCell ⟨v2.heap.size, 2, none⟩ (.string (hd D.ts (i' + 2)).text) = v11 at *
                clear hvn
                have B11 := hide (B10.out.trans (ho.below B10.out.size (by omega)))
                have L11 := hide (L10.out.kept ho.gb (lrow_ne (fun q hq => LM.out q hq)))
                have N11 := hide (N10.out.other ho (by omega))
                have R11 := hide (R10.out.other ho (by omega))
                have T11 := hide (T10.out.other ho (by omega))
                clear B10 L10 M10 N10 R10 T10 ho
                have u0 := T11.out.cell 0 _ rfl
                have u1 := T11.out.cell 1 _ rfl
                have u2 := T11.out.cell 2 _ rfl
                have u3 := T11.out.cell 3 _ rfl
                have m2 := M11.out.cell 2 _ rfl
                clear u3
                have u3 : v11.cell? ⟨w.heap.size, 3, none⟩ = some (.bool false) := (by have := T11.out.cell 3 _ rfl; rw [HKNO.out] at this; exact this)
                go_upto_region 22 with fail
                clear u0 u1 u2 u3 m2
                have u0 := T11.out.cell 0 _ rfl
                have u1 := T11.out.cell 1 _ rfl
                have u2 := T11.out.cell 2 _ rfl
                have u3 := T11.out.cell 3 _ rfl
                go_wp2_with fail
                have hq := on_any D (i' + 2) v11 (by have := HF2.out; omega)
                unfold OnPost at hq
                rw [show (((i' + 2) : Nat) : Int) = (i' : Int) + 2 from by omega] at hq
                refine hq.mono ?_
                rintro e v12 ⟨rfl, bq⟩
                have B12 := hide (B11.out.next bq)
                have L12 := hide (L11.out.below bq)
                have M12 := hide (M11.out.next bq)
                have N12 := hide (N11.out.next bq)
                have R12 := hide (R11.out.next bq)
                have T12 := hide (T11.out.next bq)
                clear B11 L11 M11 N11 R11 T11 bq hq
                have xT := T12.out
                rw [show ((i' : Int) + 2 + 1) = (i' : Int) + 3 from by omega]
                go_upto_region 23 with ((with_reducible refine wpList_store_box rfl 37 _ _ rfl w.heap.size #[.slice D.A D.n D.c, .int .i64 ((i' : Int) + 3 : Int), .slice D.V D.m D.d, .bool D.known] rfl rfl _ xT (by kernel_rfl) rfl (by simp [Value.oneCell']) ?_); intro v13 kq ho)
                clear xT
                have T13 := hide kq
                have B13 := hide (B12.out.trans (ho.below B12.out.size (by omega)))
                have L13 := hide (L12.out.other ho (Or.inl (by omega)))
                have M13 := hide (M12.out.other ho (by omega))
                have N13 := hide (N12.out.other ho (by omega))
                have R13 := hide (R12.out.other ho (by omega))
                clear B12 L12 M12 N12 R12 T12 kq ho
                clear u0 u1 u2 u3
                have m0 := M13.out.cell 0 _ rfl
                have m1 := M13.out.cell 1 _ rfl
                have m2 := M13.out.cell 2 _ rfl
                have bq := bl_alloc v13 (.cells #[.bool neg, .string (hd D.ts i').text, .string (hd D.ts (i' + 2)).text] 76)
                have B14 := hide (B13.out.next bq)
                have L14 := hide (L13.out.below bq)
                have M14 := hide (M13.out.next bq)
                have N14 := hide (N13.out.next bq)
                have R14 := hide (R13.out.next bq)
                have T14 := hide (T13.out.next bq)
                have hbx := heap_alloc_new v13 (.cells #[.bool neg, .string (hd D.ts i').text, .string (hd D.ts (i' + 2)).text] 76)
                have HBX := hide hbx
                clear bq hbx
                have hln := HN.out
                have zs := R14.out.lt
                go_upto_region 24 with (at_builtin; refine wpList_append_mono rfl _ _ rfl (w.heap.size + 2) _ acc rfl L14.out v13.heap.size ⟨(hd D.ts i').text, (hd D.ts (i' + 2)).text, neg⟩ rfl HBX.out (by omega) (by omega) ?_; intro vv v15 l5 g5)
                obtain ⟨A3, c3, rfl, hd1, hd2, -⟩ := l5.len
                have B15 := hide (L14.out.old B14.out g5 (by omega) (Nat.le_refl _))
                have L15 := hide l5
                have R15 := hide (R14.out.grown g5 (fun e => by have := L14.out.lt _ e.symm; omega))
                have T15 := hide (T14.out.grown g5 (fun e => by have := L14.out.lt _ e.symm; omega))
                generalize hn3 : (acc ++ [⟨(hd D.ts i').text, (hd D.ts (i' + 2)).text, neg⟩] : List Mn).length = n3 at hd1 L15 ⊢
                have hn4 : n3 = n + 1 := by rw [← hn3, List.length_append, HN.out]; rfl
                subst hn4
                have HN3 := hide hn3
                clear l5 g5 hn3 HBX hln m0 m1 m2 B14 L14 M14 N14 R14 T14 B13 L13 M13 N13 R13 T13
                cases hs : isT ⟨#[45]⟩ (rd D.ts (i' + 3)) with
                | true =>
                  have HK := hide (show rd D.ts (i' + 4) = (rd D.ts (i' + 3)).tail ∧ (rd D.ts (i' + 4)).length + 1 = (rd D.ts (i' + 3)).length from ⟨(isT_step HTG.out.ends hs).1, (isT_step HTG.out.ends hs).2.1⟩)
                  have EQ := hide (HE.out.trans (if_pos hs))
                  rw [← HK.out.1] at EQ
                  have HF4 := hide (show i' + 4 + (rd D.ts (i' + 4)).length ≤ 1099511627776 from by have := HF3.out; have := HK.out; omega)
                  have u0 := T15.out.cell 0 _ rfl
                  have u1 := T15.out.cell 1 _ rfl
                  have u2 := T15.out.cell 2 _ rfl
                  have u3 := T15.out.cell 3 _ rfl
                  go_wp2_with fail
                  have hq := HIS.out (i' + 3) ⟨#[45]⟩ _ B15.out HF3.out
                  rw [hs] at hq
                  rw [show (((i' + 3) : Nat) : Int) = (i' : Int) + 3 from by omega] at hq
                  refine hq.mono ?_
                  rintro e v16 ⟨rfl, bq⟩
                  have B16 := hide (B15.out.next bq)
                  have L16 := hide (L15.out.below bq)
                  have R16 := hide (R15.out.next bq)
                  have T16 := hide (T15.out.next bq)
                  clear B15 L15 R15 T15 bq hq
                  clear u0 u1 u2 u3
                  have u0 := T16.out.cell 0 _ rfl
                  have u1 := T16.out.cell 1 _ rfl
                  have u2 := T16.out.cell 2 _ rfl
                  have u3 := T16.out.cell 3 _ rfl
                  go_wp2_with fail
                  have hq := on_any D (i' + 3) v16 (by have := HF3.out; omega)
                  unfold OnPost at hq
                  rw [show (((i' + 3) : Nat) : Int) = (i' : Int) + 3 from by omega] at hq
                  refine hq.mono ?_
                  rintro e v17 ⟨rfl, bq⟩
                  have B17 := hide (B16.out.next bq)
                  have L17 := hide (L16.out.below bq)
                  have R17 := hide (R16.out.next bq)
                  have T17 := hide (T16.out.next bq)
                  clear B16 L16 R16 T16 bq hq
                  clear u0 u1 u2 u3
                  have xT := T17.out
                  rw [show ((i' : Int) + 3 + 1) = (i' : Int) + 4 from by omega]
                  go_wp2_with ((with_reducible refine wpList_store_box rfl 37 _ _ rfl w.heap.size #[.slice D.A D.n D.c, .int .i64 ((i' : Int) + 4 : Int), .slice D.V D.m D.d, .bool D.known] rfl rfl _ xT (by kernel_rfl) rfl (by simp [Value.oneCell']) ?_); intro v18 kq ho)
                  clear xT
                  have B18 := hide (B17.out.trans (ho.below B17.out.size (by omega)))
                  have L18 := hide (L17.out.other ho (Or.inl (by omega)))
                  have R18 := hide (R17.out.other ho (by omega))
                  have HRR := hide (show RSumRel D i w v18 (.slice A3 (n + 1) c3) true (i' + 4) (m - 1) (acc ++ [⟨(hd D.ts i').text, (hd D.ts (i' + 2)).text, neg⟩]) from
                    ⟨by rw [HN3.out]; exact L18.out, by rw [show (((i' + 4 : Nat)) : Int) = (i' : Int) + 4 from by omega]; exact kq, R18.out, B18.out, HST.out.trans' rfl (by have := HK.out; omega), EQ.out, by have := HMORE.out; have := HK.out; have := HLN.out; omega, by rw [HN3.out]; omega⟩)
                  simp only [Act.put]
                  go_roundw
                  case rel => exact ⟨_, _, _, _, rfl, HRR⟩
                  case measure => simp [lenOf]; omega
                | false =>
                  cases hp : isT ⟨#[43]⟩ (rd D.ts (i' + 3)) with
                  | true =>
                    have HK := hide (show rd D.ts (i' + 4) = (rd D.ts (i' + 3)).tail ∧ (rd D.ts (i' + 4)).length + 1 = (rd D.ts (i' + 3)).length from ⟨(isT_step HTG.out.ends hp).1, (isT_step HTG.out.ends hp).2.1⟩)
                    have EQ := hide (HE.out.trans ((if_neg (by rw [hs]; decide)).trans (if_pos hp)))
                    rw [← HK.out.1] at EQ
                    have HF4 := hide (show i' + 4 + (rd D.ts (i' + 4)).length ≤ 1099511627776 from by have := HF3.out; have := HK.out; omega)
                    have u0 := T15.out.cell 0 _ rfl
                    have u1 := T15.out.cell 1 _ rfl
                    have u2 := T15.out.cell 2 _ rfl
                    have u3 := T15.out.cell 3 _ rfl
                    go_wp2_with fail
                    have hq := HIS.out (i' + 3) ⟨#[45]⟩ _ B15.out HF3.out
                    rw [hs] at hq
                    rw [show (((i' + 3) : Nat) : Int) = (i' : Int) + 3 from by omega] at hq
                    refine hq.mono ?_
                    rintro e v16 ⟨rfl, bq⟩
                    have B16 := hide (B15.out.next bq)
                    have L16 := hide (L15.out.below bq)
                    have R16 := hide (R15.out.next bq)
                    have T16 := hide (T15.out.next bq)
                    clear B15 L15 R15 T15 bq hq
                    clear u0 u1 u2 u3
                    have u0 := T16.out.cell 0 _ rfl
                    have u1 := T16.out.cell 1 _ rfl
                    have u2 := T16.out.cell 2 _ rfl
                    have u3 := T16.out.cell 3 _ rfl
                    go_wp2_with fail
                    have hq := HIS.out (i' + 3) ⟨#[43]⟩ _ B16.out HF3.out
                    rw [hp] at hq
                    rw [show (((i' + 3) : Nat) : Int) = (i' : Int) + 3 from by omega] at hq
                    refine hq.mono ?_
                    rintro e v17 ⟨rfl, bq⟩
                    have B17 := hide (B16.out.next bq)
                    have L17 := hide (L16.out.below bq)
                    have R17 := hide (R16.out.next bq)
                    have T17 := hide (T16.out.next bq)
                    clear B16 L16 R16 T16 bq hq
                    clear u0 u1 u2 u3
                    have u0 := T17.out.cell 0 _ rfl
                    have u1 := T17.out.cell 1 _ rfl
                    have u2 := T17.out.cell 2 _ rfl
                    have u3 := T17.out.cell 3 _ rfl
                    go_wp2_with fail
                    have hq := on_any D (i' + 3) v17 (by have := HF3.out; omega)
                    unfold OnPost at hq
                    rw [show (((i' + 3) : Nat) : Int) = (i' : Int) + 3 from by omega] at hq
                    refine hq.mono ?_
                    rintro e v18 ⟨rfl, bq⟩
                    have B18 := hide (B17.out.next bq)
                    have L18 := hide (L17.out.below bq)
                    have R18 := hide (R17.out.next bq)
                    have T18 := hide (T17.out.next bq)
                    clear B17 L17 R17 T17 bq hq
                    clear u0 u1 u2 u3
                    have xT := T18.out
                    rw [show ((i' : Int) + 3 + 1) = (i' : Int) + 4 from by omega]
                    go_wp2_with ((with_reducible refine wpList_store_box rfl 37 _ _ rfl w.heap.size #[.slice D.A D.n D.c, .int .i64 ((i' : Int) + 4 : Int), .slice D.V D.m D.d, .bool D.known] rfl rfl _ xT (by kernel_rfl) rfl (by simp [Value.oneCell']) ?_); intro v19 kq ho)
                    clear xT
                    have B19 := hide (B18.out.trans (ho.below B18.out.size (by omega)))
                    have L19 := hide (L18.out.other ho (Or.inl (by omega)))
                    have R19 := hide (R18.out.other ho (by omega))
                    have HRR := hide (show RSumRel D i w v19 (.slice A3 (n + 1) c3) false (i' + 4) (m - 1) (acc ++ [⟨(hd D.ts i').text, (hd D.ts (i' + 2)).text, neg⟩]) from
                      ⟨by rw [HN3.out]; exact L19.out, by rw [show (((i' + 4 : Nat)) : Int) = (i' : Int) + 4 from by omega]; exact kq, R19.out, B19.out, HST.out.trans' rfl (by have := HK.out; omega), EQ.out, by have := HMORE.out; have := HK.out; have := HLN.out; omega, by rw [HN3.out]; omega⟩)
                    simp only [Act.put]
                    go_roundw
                    case rel => exact ⟨_, _, _, _, rfl, HRR⟩
                    case measure => simp [lenOf]; omega
                  | false =>
                    have EQ := hide (HE.out.trans ((if_neg (by rw [hs]; decide)).trans (if_neg (by rw [hp]; decide))))
                    have u0 := T15.out.cell 0 _ rfl
                    have u1 := T15.out.cell 1 _ rfl
                    have u2 := T15.out.cell 2 _ rfl
                    have u3 := T15.out.cell 3 _ rfl
                    go_wp2_with fail
                    have hq := HIS.out (i' + 3) ⟨#[45]⟩ _ B15.out HF3.out
                    rw [hs] at hq
                    rw [show (((i' + 3) : Nat) : Int) = (i' : Int) + 3 from by omega] at hq
                    refine hq.mono ?_
                    rintro e v16 ⟨rfl, bq⟩
                    have B16 := hide (B15.out.next bq)
                    have L16 := hide (L15.out.below bq)
                    have R16 := hide (R15.out.next bq)
                    have T16 := hide (T15.out.next bq)
                    clear B15 L15 R15 T15 bq hq
                    clear u0 u1 u2 u3
                    have u0 := T16.out.cell 0 _ rfl
                    have u1 := T16.out.cell 1 _ rfl
                    have u2 := T16.out.cell 2 _ rfl
                    have u3 := T16.out.cell 3 _ rfl
                    go_wp2_with fail
                    have hq := HIS.out (i' + 3) ⟨#[43]⟩ _ B16.out HF3.out
                    rw [hp] at hq
                    rw [show (((i' + 3) : Nat) : Int) = (i' : Int) + 3 from by omega] at hq
                    refine hq.mono ?_
                    rintro e v17 ⟨rfl, bq⟩
                    have B17 := hide (B16.out.next bq)
                    have L17 := hide (L16.out.below bq)
                    have R17 := hide (R16.out.next bq)
                    have T17 := hide (T16.out.next bq)
                    clear B16 L16 R16 T16 bq hq
                    clear u0 u1 u2 u3
                    have u0 := T17.out.cell 0 _ rfl
                    have u1 := T17.out.cell 1 _ rfl
                    have u2 := T17.out.cell 2 _ rfl
                    have u3 := T17.out.cell 3 _ rfl
                    have HP := hide (fun w9 (hb9 : Below w.heap.size w w9) (hl9 : LRow 76 3 w9 (w.heap.size + 2) (.slice A3 (n + 1) c3) (n + 1) (flatM (acc ++ [⟨(hd D.ts i').text, (hd D.ts (i' + 2)).text, neg⟩]))) => RSumPost.ok (D := D) (i := i) (i' := (i' + 3)) (by rw [EQ.out]) (by rw [HN3.out]; exact hl9) HST.out hb9)
                    have xR := R17.out
                    rw [show (((i' + 3) : Nat) : Int) = (i' : Int) + 3 from by omega] at HP
                    go_wp2_with ((with_reducible refine wpList_store_box rfl 37 _ _ rfl (w.heap.size + 1) #[.slice D.A D.n D.c, .int .i64 ((i' : Int) + 3 : Int), .slice D.V D.m D.d, .bool D.known] rfl rfl _ xR (by kernel_rfl) rfl (by simp [Value.oneCell']) ?_); intro w9 k9 ho9)
                    refine bodyPost_ts rfl rfl rfl rfl k9 rfl ?_
                    exact HP.out _ (B17.out.trans (ho9.below B17.out.size (by omega))) (L17.out.other ho9 (Or.inl (by omega)))
              | true =>
                cases hmem : memS (hd D.ts (i' + 2)).text D.vars with
                | true =>
                  have hmo := hmo0
                  rw [if_pos (by unfold CD.kn; rw [hknown, hmem]; rfl), ← HKN.out.1] at hmo
                  have HE := hide (HEQ.out.trans (sumGo_ok D.kn neg acc hm0 hmo))
                  have HLN := hide (mono_len hmo)
                  have HST := hide (HST2.out.trans' (i2 := i' + 3) rfl (by have := HKN.out; omega))
                  clear hmo hmo0
                  have HKNO := hide hknown
                  clear hknown
                  have HMEM := hide hmem
                  clear hmem
                  have u0 := T0.out.cell 0 _ rfl
                  have u1 := T0.out.cell 1 _ rfl
                  have u2 := T0.out.cell 2 _ rfl
                  have u3 := T0.out.cell 3 _ rfl
                  go_wp2_with fail
                  refine HNX.out.mono ?_
                  rintro e v1 ⟨rfl, bq⟩
                  have B1 := hide (B0.out.next bq)
                  have L1 := hide (L0.out.below bq)
                  have R1 := hide (R0.out.next bq)
                  have T1 := hide (T0.out.next bq)
                  clear B0 L0 R0 T0 bq
                  clear u0 u1 u2 u3
                  go_upto_region 6 with fail
                  have bq := bl_alloc v1 (.cells #[.int .i64 3, .string (hd D.ts i').text, .int .i64 ((hd D.ts i').line : Int), .int .i64 ((hd D.ts i').col : Int)] 58)
                  have sq : (v1.alloc (.cells #[.int .i64 3, .string (hd D.ts i').text, .int .i64 ((hd D.ts i').line : Int), .int .i64 ((hd D.ts i').col : Int)] 58)).heap.size = v1.heap.size + 1 := World.size_alloc _ _
                  have zN : w.heap.size + 1 < v1.heap.size := R1.out.lt
                  have B2 := hide (B1.out.next bq)
                  have L2 := hide (L1.out.below bq)
                  have R2 := hide (R1.out.next bq)
                  have T2 := hide (T1.out.next bq)
                  have N2 := hide (Box.new 58 v1 #[.int .i64 3, .string (hd D.ts i').text, .int .i64 ((hd D.ts i').line : Int), .int .i64 ((hd D.ts i').col : Int)])
                  generalize hvn : v1.alloc (.cells #[.int .i64 3, .string (hd D.ts i').text, .int .i64 ((hd D.ts i').line : Int), .int .i64 ((hd D.ts i').col : Int)] 58) = v2 at *
                  have zq2 : v1.heap.size < v2.heap.size := by omega
                  clear hvn bq sq
                  clear B1 L1 R1 T1
                  have n0 := N2.out.cell 0 _ rfl
                  have n1 := N2.out.cell 1 _ rfl
                  have n2 := N2.out.cell 2 _ rfl
                  have n3 := N2.out.cell 3 _ rfl
                  go_upto_region 13 with fail
                  clear n0 n1 n2 n3
                  have bq := bl_alloc v2 (.cells #[.bool neg, .string (hd D.ts i').text, .string ⟨#[]⟩] 76)
                  have sq : (v2.alloc (.cells #[.bool neg, .string (hd D.ts i').text, .string ⟨#[]⟩] 76)).heap.size = v2.heap.size + 1 := World.size_alloc _ _
                  have zM : w.heap.size + 1 < v2.heap.size := R2.out.lt
                  have zNM : v1.heap.size < v2.heap.size := N2.out.lt
                  have LM := hide (fun q (hq : (Value.slice A n c).ownBlock = some q) => (L2.out.lt q hq).2)
                  have B3 := hide (B2.out.next bq)
                  have L3 := hide (L2.out.below bq)
                  have N3 := hide (N2.out.next bq)
                  have R3 := hide (R2.out.next bq)
                  have T3 := hide (T2.out.next bq)
                  have M3 := hide (Box.new 76 v2 #[.bool neg, .string (hd D.ts i').text, .string ⟨#[]⟩])
                  generalize hvn : v2.alloc (.cells #[.bool neg, .string (hd D.ts i').text, .string ⟨#[]⟩] 76) = v3 at *
                  have zq3 : v2.heap.size < v3.heap.size := by omega
                  clear hvn bq sq
                  clear B2 L2 N2 R2 T2
                  have u0 := T3.out.cell 0 _ rfl
                  have u1 := T3.out.cell 1 _ rfl
                  have u2 := T3.out.cell 2 _ rfl
                  have u3 := T3.out.cell 3 _ rfl
                  go_wp2_with fail
                  have hq := on_any D i' v3 (by have := HF0.out; omega)
                  unfold OnPost at hq
                  refine hq.mono ?_
                  rintro e v4 ⟨rfl, bq⟩
                  have B4 := hide (B3.out.next bq)
                  have L4 := hide (L3.out.below bq)
                  have M4 := hide (M3.out.next bq)
                  have N4 := hide (N3.out.next bq)
                  have R4 := hide (R3.out.next bq)
                  have T4 := hide (T3.out.next bq)
                  clear B3 L3 M3 N3 R3 T3 bq hq
                  have xT := T4.out
                  go_upto_region 14 with ((with_reducible refine wpList_store_box rfl 37 _ _ rfl w.heap.size #[.slice D.A D.n D.c, .int .i64 ((i' : Int) + 1 : Int), .slice D.V D.m D.d, .bool D.known] rfl rfl _ xT (by kernel_rfl) rfl (by simp [Value.oneCell']) ?_); intro v5 kq ho)
                  clear xT
                  have T5 := hide kq
                  have B5 := hide (B4.out.trans (ho.below B4.out.size (by omega)))
                  have L5 := hide (L4.out.other ho (Or.inl (by omega)))
                  have M5 := hide (M4.out.other ho (by omega))
                  have N5 := hide (N4.out.other ho (by omega))
                  have R5 := hide (R4.out.other ho (by omega))
                  clear B4 L4 M4 N4 R4 T4 kq ho
                  clear u0 u1 u2 u3
                  have m1 := M5.out.cell 1 _ rfl
                  have u0 := T5.out.cell 0 _ rfl
                  have u1 := T5.out.cell 1 _ rfl
                  have u2 := T5.out.cell 2 _ rfl
                  have u3 := T5.out.cell 3 _ rfl
                  go_wp2_with fail
                  have hq := HIS.out (i' + 1) ⟨#[42]⟩ _ B5.out HF1.out
                  rw [hst] at hq
                  rw [show (((i' + 1) : Nat) : Int) = (i' : Int) + 1 from by omega] at hq
                  refine hq.mono ?_
                  rintro e v6 ⟨rfl, bq⟩
                  have B6 := hide (B5.out.next bq)
                  have L6 := hide (L5.out.below bq)
                  have M6 := hide (M5.out.next bq)
                  have N6 := hide (N5.out.next bq)
                  have R6 := hide (R5.out.next bq)
                  have T6 := hide (T5.out.next bq)
                  clear B5 L5 M5 N5 R5 T5 bq hq
                  clear u0 u1 u2 u3
                  clear m1
                  have m1 := M6.out.cell 1 _ rfl
                  have u0 := T6.out.cell 0 _ rfl
                  have u1 := T6.out.cell 1 _ rfl
                  have u2 := T6.out.cell 2 _ rfl
                  have u3 := T6.out.cell 3 _ rfl
                  go_wp2_with fail
                  have hq := on_any D (i' + 1) v6 (by have := HF1.out; omega)
                  unfold OnPost at hq
                  rw [show (((i' + 1) : Nat) : Int) = (i' : Int) + 1 from by omega] at hq
                  refine hq.mono ?_
                  rintro e v7 ⟨rfl, bq⟩
                  have B7 := hide (B6.out.next bq)
                  have L7 := hide (L6.out.below bq)
                  have M7 := hide (M6.out.next bq)
                  have N7 := hide (N6.out.next bq)
                  have R7 := hide (R6.out.next bq)
                  have T7 := hide (T6.out.next bq)
                  clear B6 L6 M6 N6 R6 T6 bq hq
                  have xT := T7.out
                  rw [show ((i' : Int) + 1 + 1) = (i' : Int) + 2 from by omega]
                  go_upto_region 17 with ((with_reducible refine wpList_store_box rfl 37 _ _ rfl w.heap.size #[.slice D.A D.n D.c, .int .i64 ((i' : Int) + 2 : Int), .slice D.V D.m D.d, .bool D.known] rfl rfl _ xT (by kernel_rfl) rfl (by simp [Value.oneCell']) ?_); intro v8 kq ho)
                  clear xT
                  have T8 := hide kq
                  have B8 := hide (B7.out.trans (ho.below B7.out.size (by omega)))
                  have L8 := hide (L7.out.other ho (Or.inl (by omega)))
                  have M8 := hide (M7.out.other ho (by omega))
                  have N8 := hide (N7.out.other ho (by omega))
                  have R8 := hide (R7.out.other ho (by omega))
                  clear B7 L7 M7 N7 R7 T7 kq ho
                  clear u0 u1 u2 u3 m1
                  have u0 := T8.out.cell 0 _ rfl
                  have u1 := T8.out.cell 1 _ rfl
                  have u2 := T8.out.cell 2 _ rfl
                  have u3 := T8.out.cell 3 _ rfl
                  go_wp2_with fail
                  have hq := HIN.out (i' + 2) _ B8.out HF2.out
                  rw [hnm] at hq
                  rw [show (((i' + 2) : Nat) : Int) = (i' : Int) + 2 from by omega] at hq
                  refine hq.mono ?_
                  rintro e v9 ⟨rfl, bq⟩
                  have B9 := hide (B8.out.next bq)
                  have L9 := hide (L8.out.below bq)
                  have M9 := hide (M8.out.next bq)
                  have N9 := hide (N8.out.next bq)
                  have R9 := hide (R8.out.next bq)
                  have T9 := hide (T8.out.next bq)
                  clear B8 L8 M8 N8 R8 T8 bq hq
                  clear u0 u1 u2 u3
                  have u0 := T9.out.cell 0 _ rfl
                  have u1 := T9.out.cell 1 _ rfl
                  have u2 := T9.out.cell 2 _ rfl
                  have u3 := T9.out.cell 3 _ rfl
                  go_wp2_with fail
                  have hq := HNT.out (i' + 2) _ B9.out HF2.out
                  unfold AtPost at hq
                  rw [show (((i' + 2) : Nat) : Int) = (i' : Int) + 2 from by omega] at hq
                  refine hq.mono ?_
                  rintro e v10 ⟨rfl, bq⟩
                  have B10 := hide (B9.out.next bq)
                  have L10 := hide (L9.out.below bq)
                  have M10 := hide (M9.out.next bq)
                  have N10 := hide (N9.out.next bq)
                  have R10 := hide (R9.out.next bq)
                  have T10 := hide (T9.out.next bq)
                  clear B9 L9 M9 N9 R9 T9 bq hq
                  clear u0 u1 u2 u3
                  have m2 := M10.out.cell 2 _ rfl
                  have mf := M10.out.fr 2
                  have HFD := fun a c d s W => field_rtext a c d s W
                  go_upto_region 20 with fail
                  clear m2 mf HFD
                  have ho := only_set v10 v2.heap.size 2 (.string (hd D.ts (i' + 2)).text)
                  have M11 := hide (Box.set_2 M10.out (.string (hd D.ts (i' + 2)).text))
                  generalize hvn : v10.setCell ⟨v2.heap.size, 2, none⟩ (.string (hd D.ts (i' + 2)).text) = v11 at *
                  clear hvn
                  have B11 := hide (B10.out.trans (ho.below B10.out.size (by omega)))
                  have L11 := hide (L10.out.kept ho.gb (lrow_ne (fun q hq => LM.out q hq)))
                  have N11 := hide (N10.out.other ho (by omega))
                  have R11 := hide (R10.out.other ho (by omega))
                  have T11 := hide (T10.out.other ho (by omega))
                  clear B10 L10 M10 N10 R10 T10 ho
                  have u0 := T11.out.cell 0 _ rfl
                  have u1 := T11.out.cell 1 _ rfl
                  have u2 := T11.out.cell 2 _ rfl
                  have u3 := T11.out.cell 3 _ rfl
                  have m2 := M11.out.cell 2 _ rfl
                  clear u3
                  have u3 : v11.cell? ⟨w.heap.size, 3, none⟩ = some (.bool true) := (by have := T11.out.cell 3 _ rfl; rw [HKNO.out] at this; exact this)
                  go_wp2_with fail
                  have hq := HIC.out (hd D.ts (i' + 2)).text _ B11.out
                  rw [HMEM.out] at hq
                  refine hq.mono ?_
                  rintro e vq ⟨rfl, rfl⟩
                  clear hq
                  go_upto_region 22 with fail
                  clear u0 u1 u2 u3 m2
                  have u0 := T11.out.cell 0 _ rfl
                  have u1 := T11.out.cell 1 _ rfl
                  have u2 := T11.out.cell 2 _ rfl
                  have u3 := T11.out.cell 3 _ rfl
                  go_wp2_with fail
                  have hq := on_any D (i' + 2) v11 (by have := HF2.out; omega)
                  unfold OnPost at hq
                  rw [show (((i' + 2) : Nat) : Int) = (i' : Int) + 2 from by omega] at hq
                  refine hq.mono ?_
                  rintro e v12 ⟨rfl, bq⟩
                  have B12 := hide (B11.out.next bq)
                  have L12 := hide (L11.out.below bq)
                  have M12 := hide (M11.out.next bq)
                  have N12 := hide (N11.out.next bq)
                  have R12 := hide (R11.out.next bq)
                  have T12 := hide (T11.out.next bq)
                  clear B11 L11 M11 N11 R11 T11 bq hq
                  have xT := T12.out
                  rw [show ((i' : Int) + 2 + 1) = (i' : Int) + 3 from by omega]
                  go_upto_region 23 with ((with_reducible refine wpList_store_box rfl 37 _ _ rfl w.heap.size #[.slice D.A D.n D.c, .int .i64 ((i' : Int) + 3 : Int), .slice D.V D.m D.d, .bool D.known] rfl rfl _ xT (by kernel_rfl) rfl (by simp [Value.oneCell']) ?_); intro v13 kq ho)
                  clear xT
                  have T13 := hide kq
                  have B13 := hide (B12.out.trans (ho.below B12.out.size (by omega)))
                  have L13 := hide (L12.out.other ho (Or.inl (by omega)))
                  have M13 := hide (M12.out.other ho (by omega))
                  have N13 := hide (N12.out.other ho (by omega))
                  have R13 := hide (R12.out.other ho (by omega))
                  clear B12 L12 M12 N12 R12 T12 kq ho
                  clear u0 u1 u2 u3
                  have m0 := M13.out.cell 0 _ rfl
                  have m1 := M13.out.cell 1 _ rfl
                  have m2 := M13.out.cell 2 _ rfl
                  have bq := bl_alloc v13 (.cells #[.bool neg, .string (hd D.ts i').text, .string (hd D.ts (i' + 2)).text] 76)
                  have B14 := hide (B13.out.next bq)
                  have L14 := hide (L13.out.below bq)
                  have M14 := hide (M13.out.next bq)
                  have N14 := hide (N13.out.next bq)
                  have R14 := hide (R13.out.next bq)
                  have T14 := hide (T13.out.next bq)
                  have hbx := heap_alloc_new v13 (.cells #[.bool neg, .string (hd D.ts i').text, .string (hd D.ts (i' + 2)).text] 76)
                  have HBX := hide hbx
                  clear bq hbx
                  have hln := HN.out
                  have zs := R14.out.lt
                  go_upto_region 24 with (at_builtin; refine wpList_append_mono rfl _ _ rfl (w.heap.size + 2) _ acc rfl L14.out v13.heap.size ⟨(hd D.ts i').text, (hd D.ts (i' + 2)).text, neg⟩ rfl HBX.out (by omega) (by omega) ?_; intro vv v15 l5 g5)
                  obtain ⟨A3, c3, rfl, hd1, hd2, -⟩ := l5.len
                  have B15 := hide (L14.out.old B14.out g5 (by omega) (Nat.le_refl _))
                  have L15 := hide l5
                  have R15 := hide (R14.out.grown g5 (fun e => by have := L14.out.lt _ e.symm; omega))
                  have T15 := hide (T14.out.grown g5 (fun e => by have := L14.out.lt _ e.symm; omega))
                  generalize hn3 : (acc ++ [⟨(hd D.ts i').text, (hd D.ts (i' + 2)).text, neg⟩] : List Mn).length = n3 at hd1 L15 ⊢
                  have hn4 : n3 = n + 1 := by rw [← hn3, List.length_append, HN.out]; rfl
                  subst hn4
                  have HN3 := hide hn3
                  clear l5 g5 hn3 HBX hln m0 m1 m2 B14 L14 M14 N14 R14 T14 B13 L13 M13 N13 R13 T13
                  cases hs : isT ⟨#[45]⟩ (rd D.ts (i' + 3)) with
                  | true =>
                    have HK := hide (show rd D.ts (i' + 4) = (rd D.ts (i' + 3)).tail ∧ (rd D.ts (i' + 4)).length + 1 = (rd D.ts (i' + 3)).length from ⟨(isT_step HTG.out.ends hs).1, (isT_step HTG.out.ends hs).2.1⟩)
                    have EQ := hide (HE.out.trans (if_pos hs))
                    rw [← HK.out.1] at EQ
                    have HF4 := hide (show i' + 4 + (rd D.ts (i' + 4)).length ≤ 1099511627776 from by have := HF3.out; have := HK.out; omega)
                    have u0 := T15.out.cell 0 _ rfl
                    have u1 := T15.out.cell 1 _ rfl
                    have u2 := T15.out.cell 2 _ rfl
                    have u3 := T15.out.cell 3 _ rfl
                    go_wp2_with fail
                    have hq := HIS.out (i' + 3) ⟨#[45]⟩ _ B15.out HF3.out
                    rw [hs] at hq
                    rw [show (((i' + 3) : Nat) : Int) = (i' : Int) + 3 from by omega] at hq
                    refine hq.mono ?_
                    rintro e v16 ⟨rfl, bq⟩
                    have B16 := hide (B15.out.next bq)
                    have L16 := hide (L15.out.below bq)
                    have R16 := hide (R15.out.next bq)
                    have T16 := hide (T15.out.next bq)
                    clear B15 L15 R15 T15 bq hq
                    clear u0 u1 u2 u3
                    have u0 := T16.out.cell 0 _ rfl
                    have u1 := T16.out.cell 1 _ rfl
                    have u2 := T16.out.cell 2 _ rfl
                    have u3 := T16.out.cell 3 _ rfl
                    go_wp2_with fail
                    have hq := on_any D (i' + 3) v16 (by have := HF3.out; omega)
                    unfold OnPost at hq
                    rw [show (((i' + 3) : Nat) : Int) = (i' : Int) + 3 from by omega] at hq
                    refine hq.mono ?_
                    rintro e v17 ⟨rfl, bq⟩
                    have B17 := hide (B16.out.next bq)
                    have L17 := hide (L16.out.below bq)
                    have R17 := hide (R16.out.next bq)
                    have T17 := hide (T16.out.next bq)
                    clear B16 L16 R16 T16 bq hq
                    clear u0 u1 u2 u3
                    have xT := T17.out
                    rw [show ((i' : Int) + 3 + 1) = (i' : Int) + 4 from by omega]
                    go_wp2_with ((with_reducible refine wpList_store_box rfl 37 _ _ rfl w.heap.size #[.slice D.A D.n D.c, .int .i64 ((i' : Int) + 4 : Int), .slice D.V D.m D.d, .bool D.known] rfl rfl _ xT (by kernel_rfl) rfl (by simp [Value.oneCell']) ?_); intro v18 kq ho)
                    clear xT
                    have B18 := hide (B17.out.trans (ho.below B17.out.size (by omega)))
                    have L18 := hide (L17.out.other ho (Or.inl (by omega)))
                    have R18 := hide (R17.out.other ho (by omega))
                    have HRR := hide (show RSumRel D i w v18 (.slice A3 (n + 1) c3) true (i' + 4) (m - 1) (acc ++ [⟨(hd D.ts i').text, (hd D.ts (i' + 2)).text, neg⟩]) from
                      ⟨by rw [HN3.out]; exact L18.out, by rw [show (((i' + 4 : Nat)) : Int) = (i' : Int) + 4 from by omega]; exact kq, R18.out, B18.out, HST.out.trans' rfl (by have := HK.out; omega), EQ.out, by have := HMORE.out; have := HK.out; have := HLN.out; omega, by rw [HN3.out]; omega⟩)
                    simp only [Act.put]
                    go_roundw
                    case rel => exact ⟨_, _, _, _, rfl, HRR⟩
                    case measure => simp [lenOf]; omega
                  | false =>
                    cases hp : isT ⟨#[43]⟩ (rd D.ts (i' + 3)) with
                    | true =>
                      have HK := hide (show rd D.ts (i' + 4) = (rd D.ts (i' + 3)).tail ∧ (rd D.ts (i' + 4)).length + 1 = (rd D.ts (i' + 3)).length from ⟨(isT_step HTG.out.ends hp).1, (isT_step HTG.out.ends hp).2.1⟩)
                      have EQ := hide (HE.out.trans ((if_neg (by rw [hs]; decide)).trans (if_pos hp)))
                      rw [← HK.out.1] at EQ
                      have HF4 := hide (show i' + 4 + (rd D.ts (i' + 4)).length ≤ 1099511627776 from by have := HF3.out; have := HK.out; omega)
                      have u0 := T15.out.cell 0 _ rfl
                      have u1 := T15.out.cell 1 _ rfl
                      have u2 := T15.out.cell 2 _ rfl
                      have u3 := T15.out.cell 3 _ rfl
                      go_wp2_with fail
                      have hq := HIS.out (i' + 3) ⟨#[45]⟩ _ B15.out HF3.out
                      rw [hs] at hq
                      rw [show (((i' + 3) : Nat) : Int) = (i' : Int) + 3 from by omega] at hq
                      refine hq.mono ?_
                      rintro e v16 ⟨rfl, bq⟩
                      have B16 := hide (B15.out.next bq)
                      have L16 := hide (L15.out.below bq)
                      have R16 := hide (R15.out.next bq)
                      have T16 := hide (T15.out.next bq)
                      clear B15 L15 R15 T15 bq hq
                      clear u0 u1 u2 u3
                      have u0 := T16.out.cell 0 _ rfl
                      have u1 := T16.out.cell 1 _ rfl
                      have u2 := T16.out.cell 2 _ rfl
                      have u3 := T16.out.cell 3 _ rfl
                      go_wp2_with fail
                      have hq := HIS.out (i' + 3) ⟨#[43]⟩ _ B16.out HF3.out
                      rw [hp] at hq
                      rw [show (((i' + 3) : Nat) : Int) = (i' : Int) + 3 from by omega] at hq
                      refine hq.mono ?_
                      rintro e v17 ⟨rfl, bq⟩
                      have B17 := hide (B16.out.next bq)
                      have L17 := hide (L16.out.below bq)
                      have R17 := hide (R16.out.next bq)
                      have T17 := hide (T16.out.next bq)
                      clear B16 L16 R16 T16 bq hq
                      clear u0 u1 u2 u3
                      have u0 := T17.out.cell 0 _ rfl
                      have u1 := T17.out.cell 1 _ rfl
                      have u2 := T17.out.cell 2 _ rfl
                      have u3 := T17.out.cell 3 _ rfl
                      go_wp2_with fail
                      have hq := on_any D (i' + 3) v17 (by have := HF3.out; omega)
                      unfold OnPost at hq
                      rw [show (((i' + 3) : Nat) : Int) = (i' : Int) + 3 from by omega] at hq
                      refine hq.mono ?_
                      rintro e v18 ⟨rfl, bq⟩
                      have B18 := hide (B17.out.next bq)
                      have L18 := hide (L17.out.below bq)
                      have R18 := hide (R17.out.next bq)
                      have T18 := hide (T17.out.next bq)
                      clear B17 L17 R17 T17 bq hq
                      clear u0 u1 u2 u3
                      have xT := T18.out
                      rw [show ((i' : Int) + 3 + 1) = (i' : Int) + 4 from by omega]
                      go_wp2_with ((with_reducible refine wpList_store_box rfl 37 _ _ rfl w.heap.size #[.slice D.A D.n D.c, .int .i64 ((i' : Int) + 4 : Int), .slice D.V D.m D.d, .bool D.known] rfl rfl _ xT (by kernel_rfl) rfl (by simp [Value.oneCell']) ?_); intro v19 kq ho)
                      clear xT
                      have B19 := hide (B18.out.trans (ho.below B18.out.size (by omega)))
                      have L19 := hide (L18.out.other ho (Or.inl (by omega)))
                      have R19 := hide (R18.out.other ho (by omega))
                      have HRR := hide (show RSumRel D i w v19 (.slice A3 (n + 1) c3) false (i' + 4) (m - 1) (acc ++ [⟨(hd D.ts i').text, (hd D.ts (i' + 2)).text, neg⟩]) from
                        ⟨by rw [HN3.out]; exact L19.out, by rw [show (((i' + 4 : Nat)) : Int) = (i' : Int) + 4 from by omega]; exact kq, R19.out, B19.out, HST.out.trans' rfl (by have := HK.out; omega), EQ.out, by have := HMORE.out; have := HK.out; have := HLN.out; omega, by rw [HN3.out]; omega⟩)
                      simp only [Act.put]
                      go_roundw
                      case rel => exact ⟨_, _, _, _, rfl, HRR⟩
                      case measure => simp [lenOf]; omega
                    | false =>
                      have EQ := hide (HE.out.trans ((if_neg (by rw [hs]; decide)).trans (if_neg (by rw [hp]; decide))))
                      have u0 := T15.out.cell 0 _ rfl
                      have u1 := T15.out.cell 1 _ rfl
                      have u2 := T15.out.cell 2 _ rfl
                      have u3 := T15.out.cell 3 _ rfl
                      go_wp2_with fail
                      have hq := HIS.out (i' + 3) ⟨#[45]⟩ _ B15.out HF3.out
                      rw [hs] at hq
                      rw [show (((i' + 3) : Nat) : Int) = (i' : Int) + 3 from by omega] at hq
                      refine hq.mono ?_
                      rintro e v16 ⟨rfl, bq⟩
                      have B16 := hide (B15.out.next bq)
                      have L16 := hide (L15.out.below bq)
                      have R16 := hide (R15.out.next bq)
                      have T16 := hide (T15.out.next bq)
                      clear B15 L15 R15 T15 bq hq
                      clear u0 u1 u2 u3
                      have u0 := T16.out.cell 0 _ rfl
                      have u1 := T16.out.cell 1 _ rfl
                      have u2 := T16.out.cell 2 _ rfl
                      have u3 := T16.out.cell 3 _ rfl
                      go_wp2_with fail
                      have hq := HIS.out (i' + 3) ⟨#[43]⟩ _ B16.out HF3.out
                      rw [hp] at hq
                      rw [show (((i' + 3) : Nat) : Int) = (i' : Int) + 3 from by omega] at hq
                      refine hq.mono ?_
                      rintro e v17 ⟨rfl, bq⟩
                      have B17 := hide (B16.out.next bq)
                      have L17 := hide (L16.out.below bq)
                      have R17 := hide (R16.out.next bq)
                      have T17 := hide (T16.out.next bq)
                      clear B16 L16 R16 T16 bq hq
                      clear u0 u1 u2 u3
                      have u0 := T17.out.cell 0 _ rfl
                      have u1 := T17.out.cell 1 _ rfl
                      have u2 := T17.out.cell 2 _ rfl
                      have u3 := T17.out.cell 3 _ rfl
                      have HP := hide (fun w9 (hb9 : Below w.heap.size w w9) (hl9 : LRow 76 3 w9 (w.heap.size + 2) (.slice A3 (n + 1) c3) (n + 1) (flatM (acc ++ [⟨(hd D.ts i').text, (hd D.ts (i' + 2)).text, neg⟩]))) => RSumPost.ok (D := D) (i := i) (i' := (i' + 3)) (by rw [EQ.out]) (by rw [HN3.out]; exact hl9) HST.out hb9)
                      have xR := R17.out
                      rw [show (((i' + 3) : Nat) : Int) = (i' : Int) + 3 from by omega] at HP
                      go_wp2_with ((with_reducible refine wpList_store_box rfl 37 _ _ rfl (w.heap.size + 1) #[.slice D.A D.n D.c, .int .i64 ((i' : Int) + 3 : Int), .slice D.V D.m D.d, .bool D.known] rfl rfl _ xR (by kernel_rfl) rfl (by simp [Value.oneCell']) ?_); intro w9 k9 ho9)
                      refine bodyPost_ts rfl rfl rfl rfl k9 rfl ?_
                      exact HP.out _ (B17.out.trans (ho9.below B17.out.size (by omega))) (L17.out.other ho9 (Or.inl (by omega)))
                | false =>
                  have hmo := hmo0
                  rw [if_neg (by unfold CD.kn; rw [hknown, hmem]; decide)] at hmo
                  have HP := hide (fun w9 (hb9 : Below w.heap.size w w9) => RSumPost.err (c := 110) (i' := (i' + 2)) (HEQ.out.trans (sumGo_err D.kn neg acc hm0 hmo)) (by decide) HST2.out hb9)
                  rw [show (((i' + 2) : Nat) : Int) = (i' : Int) + 2 from by omega] at HP
                  clear hmo hmo0
                  have HKNO := hide hknown
                  have HMEM := hide hmem
                  clear hknown hmem
                  have u0 := T0.out.cell 0 _ rfl
                  have u1 := T0.out.cell 1 _ rfl
                  have u2 := T0.out.cell 2 _ rfl
                  have u3 := T0.out.cell 3 _ rfl
                  go_wp2_with fail
                  refine HNX.out.mono ?_
                  rintro e v1 ⟨rfl, bq⟩
                  have B1 := hide (B0.out.next bq)
                  have L1 := hide (L0.out.below bq)
                  have R1 := hide (R0.out.next bq)
                  have T1 := hide (T0.out.next bq)
                  clear B0 L0 R0 T0 bq
                  clear u0 u1 u2 u3
                  go_upto_region 6 with fail
                  have bq := bl_alloc v1 (.cells #[.int .i64 3, .string (hd D.ts i').text, .int .i64 ((hd D.ts i').line : Int), .int .i64 ((hd D.ts i').col : Int)] 58)
                  have sq : (v1.alloc (.cells #[.int .i64 3, .string (hd D.ts i').text, .int .i64 ((hd D.ts i').line : Int), .int .i64 ((hd D.ts i').col : Int)] 58)).heap.size = v1.heap.size + 1 := World.size_alloc _ _
                  have zN : w.heap.size + 1 < v1.heap.size := R1.out.lt
                  have B2 := hide (B1.out.next bq)
                  have L2 := hide (L1.out.below bq)
                  have R2 := hide (R1.out.next bq)
                  have T2 := hide (T1.out.next bq)
                  have N2 := hide (Box.new 58 v1 #[.int .i64 3, .string (hd D.ts i').text, .int .i64 ((hd D.ts i').line : Int), .int .i64 ((hd D.ts i').col : Int)])
                  generalize hvn : v1.alloc (.cells #[.int .i64 3, .string (hd D.ts i').text, .int .i64 ((hd D.ts i').line : Int), .int .i64 ((hd D.ts i').col : Int)] 58) = v2 at *
                  have zq2 : v1.heap.size < v2.heap.size := by omega
                  clear hvn bq sq
                  clear B1 L1 R1 T1
                  have n0 := N2.out.cell 0 _ rfl
                  have n1 := N2.out.cell 1 _ rfl
                  have n2 := N2.out.cell 2 _ rfl
                  have n3 := N2.out.cell 3 _ rfl
                  go_upto_region 13 with fail
                  clear n0 n1 n2 n3
                  have bq := bl_alloc v2 (.cells #[.bool neg, .string (hd D.ts i').text, .string ⟨#[]⟩] 76)
                  have sq : (v2.alloc (.cells #[.bool neg, .string (hd D.ts i').text, .string ⟨#[]⟩] 76)).heap.size = v2.heap.size + 1 := World.size_alloc _ _
                  have zM : w.heap.size + 1 < v2.heap.size := R2.out.lt
                  have zNM : v1.heap.size < v2.heap.size := N2.out.lt
                  have LM := hide (fun q (hq : (Value.slice A n c).ownBlock = some q) => (L2.out.lt q hq).2)
                  have B3 := hide (B2.out.next bq)
                  have L3 := hide (L2.out.below bq)
                  have N3 := hide (N2.out.next bq)
                  have R3 := hide (R2.out.next bq)
                  have T3 := hide (T2.out.next bq)
                  have M3 := hide (Box.new 76 v2 #[.bool neg, .string (hd D.ts i').text, .string ⟨#[]⟩])
                  generalize hvn : v2.alloc (.cells #[.bool neg, .string (hd D.ts i').text, .string ⟨#[]⟩] 76) = v3 at *
                  have zq3 : v2.heap.size < v3.heap.size := by omega
                  clear hvn bq sq
                  clear B2 L2 N2 R2 T2
                  have u0 := T3.out.cell 0 _ rfl
                  have u1 := T3.out.cell 1 _ rfl
                  have u2 := T3.out.cell 2 _ rfl
                  have u3 := T3.out.cell 3 _ rfl
                  go_wp2_with fail
                  have hq := on_any D i' v3 (by have := HF0.out; omega)
                  unfold OnPost at hq
                  refine hq.mono ?_
                  rintro e v4 ⟨rfl, bq⟩
                  have B4 := hide (B3.out.next bq)
                  have L4 := hide (L3.out.below bq)
                  have M4 := hide (M3.out.next bq)
                  have N4 := hide (N3.out.next bq)
                  have R4 := hide (R3.out.next bq)
                  have T4 := hide (T3.out.next bq)
                  clear B3 L3 M3 N3 R3 T3 bq hq
                  have xT := T4.out
                  go_upto_region 14 with ((with_reducible refine wpList_store_box rfl 37 _ _ rfl w.heap.size #[.slice D.A D.n D.c, .int .i64 ((i' : Int) + 1 : Int), .slice D.V D.m D.d, .bool D.known] rfl rfl _ xT (by kernel_rfl) rfl (by simp [Value.oneCell']) ?_); intro v5 kq ho)
                  clear xT
                  have T5 := hide kq
                  have B5 := hide (B4.out.trans (ho.below B4.out.size (by omega)))
                  have L5 := hide (L4.out.other ho (Or.inl (by omega)))
                  have M5 := hide (M4.out.other ho (by omega))
                  have N5 := hide (N4.out.other ho (by omega))
                  have R5 := hide (R4.out.other ho (by omega))
                  clear B4 L4 M4 N4 R4 T4 kq ho
                  clear u0 u1 u2 u3
                  have m1 := M5.out.cell 1 _ rfl
                  have u0 := T5.out.cell 0 _ rfl
                  have u1 := T5.out.cell 1 _ rfl
                  have u2 := T5.out.cell 2 _ rfl
                  have u3 := T5.out.cell 3 _ rfl
                  go_wp2_with fail
                  have hq := HIS.out (i' + 1) ⟨#[42]⟩ _ B5.out HF1.out
                  rw [hst] at hq
                  rw [show (((i' + 1) : Nat) : Int) = (i' : Int) + 1 from by omega] at hq
                  refine hq.mono ?_
                  rintro e v6 ⟨rfl, bq⟩
                  have B6 := hide (B5.out.next bq)
                  have L6 := hide (L5.out.below bq)
                  have M6 := hide (M5.out.next bq)
                  have N6 := hide (N5.out.next bq)
                  have R6 := hide (R5.out.next bq)
                  have T6 := hide (T5.out.next bq)
                  clear B5 L5 M5 N5 R5 T5 bq hq
                  clear u0 u1 u2 u3
                  clear m1
                  have m1 := M6.out.cell 1 _ rfl
                  have u0 := T6.out.cell 0 _ rfl
                  have u1 := T6.out.cell 1 _ rfl
                  have u2 := T6.out.cell 2 _ rfl
                  have u3 := T6.out.cell 3 _ rfl
                  go_wp2_with fail
                  have hq := on_any D (i' + 1) v6 (by have := HF1.out; omega)
                  unfold OnPost at hq
                  rw [show (((i' + 1) : Nat) : Int) = (i' : Int) + 1 from by omega] at hq
                  refine hq.mono ?_
                  rintro e v7 ⟨rfl, bq⟩
                  have B7 := hide (B6.out.next bq)
                  have L7 := hide (L6.out.below bq)
                  have M7 := hide (M6.out.next bq)
                  have N7 := hide (N6.out.next bq)
                  have R7 := hide (R6.out.next bq)
                  have T7 := hide (T6.out.next bq)
                  clear B6 L6 M6 N6 R6 T6 bq hq
                  have xT := T7.out
                  rw [show ((i' : Int) + 1 + 1) = (i' : Int) + 2 from by omega]
                  go_upto_region 17 with ((with_reducible refine wpList_store_box rfl 37 _ _ rfl w.heap.size #[.slice D.A D.n D.c, .int .i64 ((i' : Int) + 2 : Int), .slice D.V D.m D.d, .bool D.known] rfl rfl _ xT (by kernel_rfl) rfl (by simp [Value.oneCell']) ?_); intro v8 kq ho)
                  clear xT
                  have T8 := hide kq
                  have B8 := hide (B7.out.trans (ho.below B7.out.size (by omega)))
                  have L8 := hide (L7.out.other ho (Or.inl (by omega)))
                  have M8 := hide (M7.out.other ho (by omega))
                  have N8 := hide (N7.out.other ho (by omega))
                  have R8 := hide (R7.out.other ho (by omega))
                  clear B7 L7 M7 N7 R7 T7 kq ho
                  clear u0 u1 u2 u3 m1
                  have u0 := T8.out.cell 0 _ rfl
                  have u1 := T8.out.cell 1 _ rfl
                  have u2 := T8.out.cell 2 _ rfl
                  have u3 := T8.out.cell 3 _ rfl
                  go_wp2_with fail
                  have hq := HIN.out (i' + 2) _ B8.out HF2.out
                  rw [hnm] at hq
                  rw [show (((i' + 2) : Nat) : Int) = (i' : Int) + 2 from by omega] at hq
                  refine hq.mono ?_
                  rintro e v9 ⟨rfl, bq⟩
                  have B9 := hide (B8.out.next bq)
                  have L9 := hide (L8.out.below bq)
                  have M9 := hide (M8.out.next bq)
                  have N9 := hide (N8.out.next bq)
                  have R9 := hide (R8.out.next bq)
                  have T9 := hide (T8.out.next bq)
                  clear B8 L8 M8 N8 R8 T8 bq hq
                  clear u0 u1 u2 u3
                  have u0 := T9.out.cell 0 _ rfl
                  have u1 := T9.out.cell 1 _ rfl
                  have u2 := T9.out.cell 2 _ rfl
                  have u3 := T9.out.cell 3 _ rfl
                  go_wp2_with fail
                  have hq := HNT.out (i' + 2) _ B9.out HF2.out
                  unfold AtPost at hq
                  rw [show (((i' + 2) : Nat) : Int) = (i' : Int) + 2 from by omega] at hq
                  refine hq.mono ?_
                  rintro e v10 ⟨rfl, bq⟩
                  have B10 := hide (B9.out.next bq)
                  have L10 := hide (L9.out.below bq)
                  have M10 := hide (M9.out.next bq)
                  have N10 := hide (N9.out.next bq)
                  have R10 := hide (R9.out.next bq)
                  have T10 := hide (T9.out.next bq)
                  clear B9 L9 M9 N9 R9 T9 bq hq
                  clear u0 u1 u2 u3
                  have m2 := M10.out.cell 2 _ rfl
                  have mf := M10.out.fr 2
                  have HFD := fun a c d s W => field_rtext a c d s W
                  go_upto_region 20 with fail
                  clear m2 mf HFD
                  have ho := only_set v10 v2.heap.size 2 (.string (hd D.ts (i' + 2)).text)
                  have M11 := hide (Box.set_2 M10.out (.string (hd D.ts (i' + 2)).text))
                  generalize hvn : v10.setCell ⟨v2.heap.size, 2, none⟩ (.string (hd D.ts (i' + 2)).text) = v11 at *
                  clear hvn
                  have B11 := hide (B10.out.trans (ho.below B10.out.size (by omega)))
                  have L11 := hide (L10.out.kept ho.gb (lrow_ne (fun q hq => LM.out q hq)))
                  have N11 := hide (N10.out.other ho (by omega))
                  have R11 := hide (R10.out.other ho (by omega))
                  have T11 := hide (T10.out.other ho (by omega))
                  clear B10 L10 M10 N10 R10 T10 ho
                  have u0 := T11.out.cell 0 _ rfl
                  have u1 := T11.out.cell 1 _ rfl
                  have u2 := T11.out.cell 2 _ rfl
                  have u3 := T11.out.cell 3 _ rfl
                  have m2 := M11.out.cell 2 _ rfl
                  clear u3
                  have u3 : v11.cell? ⟨w.heap.size, 3, none⟩ = some (.bool true) := (by have := T11.out.cell 3 _ rfl; rw [HKNO.out] at this; exact this)
                  go_wp2_with fail
                  have hq := HIC.out (hd D.ts (i' + 2)).text _ B11.out
                  rw [HMEM.out] at hq
                  refine hq.mono ?_
                  rintro e vq ⟨rfl, rfl⟩
                  clear hq
                  go_upto_region 21 with fail
                  clear u0 u1 u2 u3 m2
                  have u0 := T11.out.cell 0 _ rfl
                  have u1 := T11.out.cell 1 _ rfl
                  have u2 := T11.out.cell 2 _ rfl
                  have u3 := T11.out.cell 3 _ rfl
                  have xR := R11.out
                  go_wp2_with ((with_reducible refine wpList_store_box rfl 37 _ _ rfl (w.heap.size + 1) #[.slice D.A D.n D.c, .int .i64 ((i' : Int) + 2 : Int), .slice D.V D.m D.d, .bool D.known] rfl rfl _ xR (by kernel_rfl) rfl (by simp [Value.oneCell']) ?_); intro w9 k9 ho9)
                  refine bodyPost_ts rfl rfl rfl rfl k9 rfl ?_
                  exact HP.out _ (B11.out.trans (ho9.below B11.out.size (by omega)))
      · have g3 : (((hd D.ts i').kind : Int) != 3) = true := by simp; omega
        have g3b : (((hd D.ts i').kind : Int) == 3) = false := by simp; omega
        have HNX := hide hnx
        by_cases hf : n = 64
        · subst hf
          have hmo0 : monoP D.kn (acc.length == 64) false (rd D.ts i') = if isName (pt (hd D.ts i')) = true then .err 3 (rd D.ts i') else .err 101 (rd D.ts i') := by
            rw [(show (acc.length == 64) = true from by rw [HN.out]; rfl), HMM.out, mono_let _ _ _ _ h3, if_pos rfl, ← rd_cons]
          clear hM hwf h3
          cases hnm : isName (pt (hd D.ts i')) with
          | false =>
            rw [if_neg (by rw [hnm]; decide)] at hmo0
            have HP := hide (fun w9 (hb9 : Below w.heap.size w w9) => RSumPost.err (c := 101) (i' := i') (HEQ.out.trans (sumGo_err D.kn neg acc hm0 hmo0)) (by decide) HST0.out hb9)
            clear hmo0
            have u0 := T0.out.cell 0 _ rfl
            have u1 := T0.out.cell 1 _ rfl
            have u2 := T0.out.cell 2 _ rfl
            have u3 := T0.out.cell 3 _ rfl
            go_wp2_with fail
            refine HNX.out.mono ?_
            rintro e v1 ⟨rfl, bq⟩
            have B1 := hide (B0.out.next bq)
            have L1 := hide (L0.out.below bq)
            have R1 := hide (R0.out.next bq)
            have T1 := hide (T0.out.next bq)
            clear B0 L0 R0 T0 bq
            clear u0 u1 u2 u3
            go_upto_region 6 with fail
            have bq := bl_alloc v1 (.cells #[.int .i64 ((hd D.ts i').kind : Int), .string (hd D.ts i').text, .int .i64 ((hd D.ts i').line : Int), .int .i64 ((hd D.ts i').col : Int)] 58)
            have sq : (v1.alloc (.cells #[.int .i64 ((hd D.ts i').kind : Int), .string (hd D.ts i').text, .int .i64 ((hd D.ts i').line : Int), .int .i64 ((hd D.ts i').col : Int)] 58)).heap.size = v1.heap.size + 1 := World.size_alloc _ _
            have zN : w.heap.size + 1 < v1.heap.size := R1.out.lt
            have B2 := hide (B1.out.next bq)
            have L2 := hide (L1.out.below bq)
            have R2 := hide (R1.out.next bq)
            have T2 := hide (T1.out.next bq)
            have N2 := hide (Box.new 58 v1 #[.int .i64 ((hd D.ts i').kind : Int), .string (hd D.ts i').text, .int .i64 ((hd D.ts i').line : Int), .int .i64 ((hd D.ts i').col : Int)])
            generalize hvn : v1.alloc (.cells #[.int .i64 ((hd D.ts i').kind : Int), .string (hd D.ts i').text, .int .i64 ((hd D.ts i').line : Int), .int .i64 ((hd D.ts i').col : Int)] 58) = v2 at *
            have zq2 : v1.heap.size < v2.heap.size := by omega
            clear hvn bq sq
            clear B1 L1 R1 T1
            have n0 := N2.out.cell 0 _ rfl
            have n1 := N2.out.cell 1 _ rfl
            have n2 := N2.out.cell 2 _ rfl
            have n3 := N2.out.cell 3 _ rfl
            have u0 := T2.out.cell 0 _ rfl
            have u1 := T2.out.cell 1 _ rfl
            have u2 := T2.out.cell 2 _ rfl
            have u3 := T2.out.cell 3 _ rfl
            go_wp2_with fail
            have hq := HIN.out i' _ B2.out HF0.out
            rw [hnm] at hq
            refine hq.mono ?_
            rintro e v3 ⟨rfl, bq⟩
            have B3 := hide (B2.out.next bq)
            have L3 := hide (L2.out.below bq)
            have N3 := hide (N2.out.next bq)
            have R3 := hide (R2.out.next bq)
            have T3 := hide (T2.out.next bq)
            clear B2 L2 N2 R2 T2 bq hq
            clear u0 u1 u2 u3
            have u0 := T3.out.cell 0 _ rfl
            have u1 := T3.out.cell 1 _ rfl
            have u2 := T3.out.cell 2 _ rfl
            have u3 := T3.out.cell 3 _ rfl
            have xR := R3.out
            go_wp2_with ((with_reducible refine wpList_store_box rfl 37 _ _ rfl (w.heap.size + 1) #[.slice D.A D.n D.c, .int .i64 ((i' : Int) : Int), .slice D.V D.m D.d, .bool D.known] rfl rfl _ xR (by kernel_rfl) rfl (by simp [Value.oneCell']) ?_); intro w9 k9 ho9)
            refine bodyPost_ts rfl rfl rfl rfl k9 rfl ?_
            exact HP.out _ (B3.out.trans (ho9.below B3.out.size (by omega)))
          | true =>
            rw [if_pos hnm] at hmo0
            have HP := hide (fun w9 (hb9 : Below w.heap.size w w9) => RSumPost.err (c := 3) (i' := i') (HEQ.out.trans (sumGo_err D.kn neg acc hm0 hmo0)) (by decide) HST0.out hb9)
            clear hmo0
            have u0 := T0.out.cell 0 _ rfl
            have u1 := T0.out.cell 1 _ rfl
            have u2 := T0.out.cell 2 _ rfl
            have u3 := T0.out.cell 3 _ rfl
            go_wp2_with fail
            refine HNX.out.mono ?_
            rintro e v1 ⟨rfl, bq⟩
            have B1 := hide (B0.out.next bq)
            have L1 := hide (L0.out.below bq)
            have R1 := hide (R0.out.next bq)
            have T1 := hide (T0.out.next bq)
            clear B0 L0 R0 T0 bq
            clear u0 u1 u2 u3
            go_upto_region 6 with fail
            have bq := bl_alloc v1 (.cells #[.int .i64 ((hd D.ts i').kind : Int), .string (hd D.ts i').text, .int .i64 ((hd D.ts i').line : Int), .int .i64 ((hd D.ts i').col : Int)] 58)
            have sq : (v1.alloc (.cells #[.int .i64 ((hd D.ts i').kind : Int), .string (hd D.ts i').text, .int .i64 ((hd D.ts i').line : Int), .int .i64 ((hd D.ts i').col : Int)] 58)).heap.size = v1.heap.size + 1 := World.size_alloc _ _
            have zN : w.heap.size + 1 < v1.heap.size := R1.out.lt
            have B2 := hide (B1.out.next bq)
            have L2 := hide (L1.out.below bq)
            have R2 := hide (R1.out.next bq)
            have T2 := hide (T1.out.next bq)
            have N2 := hide (Box.new 58 v1 #[.int .i64 ((hd D.ts i').kind : Int), .string (hd D.ts i').text, .int .i64 ((hd D.ts i').line : Int), .int .i64 ((hd D.ts i').col : Int)])
            generalize hvn : v1.alloc (.cells #[.int .i64 ((hd D.ts i').kind : Int), .string (hd D.ts i').text, .int .i64 ((hd D.ts i').line : Int), .int .i64 ((hd D.ts i').col : Int)] 58) = v2 at *
            have zq2 : v1.heap.size < v2.heap.size := by omega
            clear hvn bq sq
            clear B1 L1 R1 T1
            have n0 := N2.out.cell 0 _ rfl
            have n1 := N2.out.cell 1 _ rfl
            have n2 := N2.out.cell 2 _ rfl
            have n3 := N2.out.cell 3 _ rfl
            have u0 := T2.out.cell 0 _ rfl
            have u1 := T2.out.cell 1 _ rfl
            have u2 := T2.out.cell 2 _ rfl
            have u3 := T2.out.cell 3 _ rfl
            go_wp2_with fail
            have hq := HIN.out i' _ B2.out HF0.out
            rw [hnm] at hq
            refine hq.mono ?_
            rintro e v3 ⟨rfl, bq⟩
            have B3 := hide (B2.out.next bq)
            have L3 := hide (L2.out.below bq)
            have N3 := hide (N2.out.next bq)
            have R3 := hide (R2.out.next bq)
            have T3 := hide (T2.out.next bq)
            clear B2 L2 N2 R2 T2 bq hq
            clear u0 u1 u2 u3
            have u0 := T3.out.cell 0 _ rfl
            have u1 := T3.out.cell 1 _ rfl
            have u2 := T3.out.cell 2 _ rfl
            have u3 := T3.out.cell 3 _ rfl
            have xR := R3.out
            go_wp2_with ((with_reducible refine wpList_store_box rfl 37 _ _ rfl (w.heap.size + 1) #[.slice D.A D.n D.c, .int .i64 ((i' : Int) : Int), .slice D.V D.m D.d, .bool D.known] rfl rfl _ xR (by kernel_rfl) rfl (by simp [Value.oneCell']) ?_); intro w9 k9 ho9)
            refine bodyPost_ts rfl rfl rfl rfl k9 rfl ?_
            exact HP.out _ (B3.out.trans (ho9.below B3.out.size (by omega)))
        · have g64 : ((n : Int) == 64) = false := by simp; omega
          have hmo0 : monoP D.kn (acc.length == 64) false (rd D.ts i') = if isName (pt (hd D.ts i')) = true then (if D.kn (hd D.ts i').text = true then .ok ⟨⟨#[]⟩, (hd D.ts i').text, false⟩ (rd D.ts i').tail else .err 110 (rd D.ts i')) else .err 101 (rd D.ts i') := by
            rw [(show (acc.length == 64) = false from by rw [HN.out]; exact beq_eq_false_iff_ne.2 hf), HMM.out, mono_let _ _ _ _ h3, ← rd_cons]
            rfl
          clear hM hwf h3
          cases hnm : isName (pt (hd D.ts i')) with
          | false =>
            rw [if_neg (by rw [hnm]; decide)] at hmo0
            have HP := hide (fun w9 (hb9 : Below w.heap.size w w9) => RSumPost.err (c := 101) (i' := i') (HEQ.out.trans (sumGo_err D.kn neg acc hm0 hmo0)) (by decide) HST0.out hb9)
            clear hmo0
            have u0 := T0.out.cell 0 _ rfl
            have u1 := T0.out.cell 1 _ rfl
            have u2 := T0.out.cell 2 _ rfl
            have u3 := T0.out.cell 3 _ rfl
            go_wp2_with fail
            refine HNX.out.mono ?_
            rintro e v1 ⟨rfl, bq⟩
            have B1 := hide (B0.out.next bq)
            have L1 := hide (L0.out.below bq)
            have R1 := hide (R0.out.next bq)
            have T1 := hide (T0.out.next bq)
            clear B0 L0 R0 T0 bq
            clear u0 u1 u2 u3
            go_upto_region 6 with fail
            have bq := bl_alloc v1 (.cells #[.int .i64 ((hd D.ts i').kind : Int), .string (hd D.ts i').text, .int .i64 ((hd D.ts i').line : Int), .int .i64 ((hd D.ts i').col : Int)] 58)
            have sq : (v1.alloc (.cells #[.int .i64 ((hd D.ts i').kind : Int), .string (hd D.ts i').text, .int .i64 ((hd D.ts i').line : Int), .int .i64 ((hd D.ts i').col : Int)] 58)).heap.size = v1.heap.size + 1 := World.size_alloc _ _
            have zN : w.heap.size + 1 < v1.heap.size := R1.out.lt
            have B2 := hide (B1.out.next bq)
            have L2 := hide (L1.out.below bq)
            have R2 := hide (R1.out.next bq)
            have T2 := hide (T1.out.next bq)
            have N2 := hide (Box.new 58 v1 #[.int .i64 ((hd D.ts i').kind : Int), .string (hd D.ts i').text, .int .i64 ((hd D.ts i').line : Int), .int .i64 ((hd D.ts i').col : Int)])
            generalize hvn : v1.alloc (.cells #[.int .i64 ((hd D.ts i').kind : Int), .string (hd D.ts i').text, .int .i64 ((hd D.ts i').line : Int), .int .i64 ((hd D.ts i').col : Int)] 58) = v2 at *
            have zq2 : v1.heap.size < v2.heap.size := by omega
            clear hvn bq sq
            clear B1 L1 R1 T1
            have n0 := N2.out.cell 0 _ rfl
            have n1 := N2.out.cell 1 _ rfl
            have n2 := N2.out.cell 2 _ rfl
            have n3 := N2.out.cell 3 _ rfl
            have u0 := T2.out.cell 0 _ rfl
            have u1 := T2.out.cell 1 _ rfl
            have u2 := T2.out.cell 2 _ rfl
            have u3 := T2.out.cell 3 _ rfl
            go_wp2_with fail
            have hq := HIN.out i' _ B2.out HF0.out
            rw [hnm] at hq
            refine hq.mono ?_
            rintro e v3 ⟨rfl, bq⟩
            have B3 := hide (B2.out.next bq)
            have L3 := hide (L2.out.below bq)
            have N3 := hide (N2.out.next bq)
            have R3 := hide (R2.out.next bq)
            have T3 := hide (T2.out.next bq)
            clear B2 L2 N2 R2 T2 bq hq
            clear u0 u1 u2 u3
            have u0 := T3.out.cell 0 _ rfl
            have u1 := T3.out.cell 1 _ rfl
            have u2 := T3.out.cell 2 _ rfl
            have u3 := T3.out.cell 3 _ rfl
            have xR := R3.out
            go_wp2_with ((with_reducible refine wpList_store_box rfl 37 _ _ rfl (w.heap.size + 1) #[.slice D.A D.n D.c, .int .i64 ((i' : Int) : Int), .slice D.V D.m D.d, .bool D.known] rfl rfl _ xR (by kernel_rfl) rfl (by simp [Value.oneCell']) ?_); intro w9 k9 ho9)
            refine bodyPost_ts rfl rfl rfl rfl k9 rfl ?_
            exact HP.out _ (B3.out.trans (ho9.below B3.out.size (by omega)))
          | true =>
            rw [if_pos hnm] at hmo0
            have HKN := hide (rd_step HTG.out.ends (name_kind hnm))
            have HF1 := hide (show i' + 1 + (rd D.ts (i' + 1)).length ≤ 1099511627776 from by have := HF0.out; have := HKN.out; omega)
            cases hknown : D.known with
            | false =>
              have hmo := hmo0
              rw [if_pos (by unfold CD.kn; rw [hknown]; rfl), ← HKN.out.1] at hmo
              have HE := hide (HEQ.out.trans (sumGo_ok D.kn neg acc hm0 hmo))
              have HLN := hide (mono_len hmo)
              have HST := hide (HST0.out.trans' (i2 := i' + 1) rfl (by have := HKN.out; omega))
              clear hmo hmo0
              have HKNO := hide hknown
              clear hknown
              have u0 := T0.out.cell 0 _ rfl
              have u1 := T0.out.cell 1 _ rfl
              have u2 := T0.out.cell 2 _ rfl
              have u3 := T0.out.cell 3 _ rfl
              go_wp2_with fail
              refine HNX.out.mono ?_
              rintro e v1 ⟨rfl, bq⟩
              have B1 := hide (B0.out.next bq)
              have L1 := hide (L0.out.below bq)
              have R1 := hide (R0.out.next bq)
              have T1 := hide (T0.out.next bq)
              clear B0 L0 R0 T0 bq
              clear u0 u1 u2 u3
              go_upto_region 6 with fail
              have bq := bl_alloc v1 (.cells #[.int .i64 ((hd D.ts i').kind : Int), .string (hd D.ts i').text, .int .i64 ((hd D.ts i').line : Int), .int .i64 ((hd D.ts i').col : Int)] 58)
              have sq : (v1.alloc (.cells #[.int .i64 ((hd D.ts i').kind : Int), .string (hd D.ts i').text, .int .i64 ((hd D.ts i').line : Int), .int .i64 ((hd D.ts i').col : Int)] 58)).heap.size = v1.heap.size + 1 := World.size_alloc _ _
              have zN : w.heap.size + 1 < v1.heap.size := R1.out.lt
              have B2 := hide (B1.out.next bq)
              have L2 := hide (L1.out.below bq)
              have R2 := hide (R1.out.next bq)
              have T2 := hide (T1.out.next bq)
              have N2 := hide (Box.new 58 v1 #[.int .i64 ((hd D.ts i').kind : Int), .string (hd D.ts i').text, .int .i64 ((hd D.ts i').line : Int), .int .i64 ((hd D.ts i').col : Int)])
              generalize hvn : v1.alloc (.cells #[.int .i64 ((hd D.ts i').kind : Int), .string (hd D.ts i').text, .int .i64 ((hd D.ts i').line : Int), .int .i64 ((hd D.ts i').col : Int)] 58) = v2 at *
              have zq2 : v1.heap.size < v2.heap.size := by omega
              clear hvn bq sq
              clear B1 L1 R1 T1
              have n0 := N2.out.cell 0 _ rfl
              have n1 := N2.out.cell 1 _ rfl
              have n2 := N2.out.cell 2 _ rfl
              have n3 := N2.out.cell 3 _ rfl
              have u0 := T2.out.cell 0 _ rfl
              have u1 := T2.out.cell 1 _ rfl
              have u2 := T2.out.cell 2 _ rfl
              have u3 := T2.out.cell 3 _ rfl
              go_wp2_with fail
              have hq := HIN.out i' _ B2.out HF0.out
              rw [hnm] at hq
              refine hq.mono ?_
              rintro e v3 ⟨rfl, bq⟩
              have B3 := hide (B2.out.next bq)
              have L3 := hide (L2.out.below bq)
              have N3 := hide (N2.out.next bq)
              have R3 := hide (R2.out.next bq)
              have T3 := hide (T2.out.next bq)
              clear B2 L2 N2 R2 T2 bq hq
              clear u0 u1 u2 u3
              clear n0 n1 n2 n3
              have n0 := N3.out.cell 0 _ rfl
              have n1 := N3.out.cell 1 _ rfl
              have n2 := N3.out.cell 2 _ rfl
              have n3 := N3.out.cell 3 _ rfl
              have znl := N3.out.lt
              go_upto_region 14 with fail
              clear n0 n1 n2 n3
              have bq := bl_alloc v3 (.cells #[.bool neg, .string ⟨#[]⟩, .string ⟨#[]⟩] 76)
              have sq : (v3.alloc (.cells #[.bool neg, .string ⟨#[]⟩, .string ⟨#[]⟩] 76)).heap.size = v3.heap.size + 1 := World.size_alloc _ _
              have zM : w.heap.size + 1 < v3.heap.size := R3.out.lt
              have zNM : v1.heap.size < v3.heap.size := N3.out.lt
              have LM := hide (fun q (hq : (Value.slice A n c).ownBlock = some q) => (L3.out.lt q hq).2)
              have B4 := hide (B3.out.next bq)
              have L4 := hide (L3.out.below bq)
              have N4 := hide (N3.out.next bq)
              have R4 := hide (R3.out.next bq)
              have T4 := hide (T3.out.next bq)
              have M4 := hide (Box.new 76 v3 #[.bool neg, .string ⟨#[]⟩, .string ⟨#[]⟩])
              generalize hvn : v3.alloc (.cells #[.bool neg, .string ⟨#[]⟩, .string ⟨#[]⟩] 76) = v4 at *
              have zq4 : v3.heap.size < v4.heap.size := by omega
              clear hvn bq sq
              clear B3 L3 N3 R3 T3
              have m1 := M4.out.cell 1 _ rfl
              have u0 := T4.out.cell 0 _ rfl
              have u1 := T4.out.cell 1 _ rfl
              have u2 := T4.out.cell 2 _ rfl
              have u3 := T4.out.cell 3 _ rfl
              go_wp2_with fail
              have hq := HIN.out i' _ B4.out HF0.out
              rw [hnm] at hq
              refine hq.mono ?_
              rintro e v5 ⟨rfl, bq⟩
              have B5 := hide (B4.out.next bq)
              have L5 := hide (L4.out.below bq)
              have M5 := hide (M4.out.next bq)
              have N5 := hide (N4.out.next bq)
              have R5 := hide (R4.out.next bq)
              have T5 := hide (T4.out.next bq)
              clear B4 L4 M4 N4 R4 T4 bq hq
              clear u0 u1 u2 u3
              clear m1
              have u0 := T5.out.cell 0 _ rfl
              have u1 := T5.out.cell 1 _ rfl
              have u2 := T5.out.cell 2 _ rfl
              have u3 := T5.out.cell 3 _ rfl
              go_wp2_with fail
              have hq := HNT.out i' _ B5.out HF0.out
              unfold AtPost at hq
              refine hq.mono ?_
              rintro e v6 ⟨rfl, bq⟩
              have B6 := hide (B5.out.next bq)
              have L6 := hide (L5.out.below bq)
              have M6 := hide (M5.out.next bq)
              have N6 := hide (N5.out.next bq)
              have R6 := hide (R5.out.next bq)
              have T6 := hide (T5.out.next bq)
              clear B5 L5 M5 N5 R5 T5 bq hq
              clear u0 u1 u2 u3
              have m2 := M6.out.cell 2 _ rfl
              have mf := M6.out.fr 2
              have HFD := fun a c d s W => field_rtext a c d s W
              go_upto_region 20 with fail
              clear m2 mf HFD
              have ho := only_set v6 v3.heap.size 2 (.string (hd D.ts i').text)
              have M7 := hide (Box.set_2 M6.out (.string (hd D.ts i').text))
              generalize hvn : v6.setCell ⟨v3.heap.size, 2, none⟩ (.string (hd D.ts i').text) = v7 at *
              clear hvn
              have B7 := hide (B6.out.trans (ho.below B6.out.size (by omega)))
              have L7 := hide (L6.out.kept ho.gb (lrow_ne (fun q hq => LM.out q hq)))
              have N7 := hide (N6.out.other ho (by omega))
              have R7 := hide (R6.out.other ho (by omega))
              have T7 := hide (T6.out.other ho (by omega))
              clear B6 L6 M6 N6 R6 T6 ho
              have u0 := T7.out.cell 0 _ rfl
              have u1 := T7.out.cell 1 _ rfl
              have u2 := T7.out.cell 2 _ rfl
              have u3 := T7.out.cell 3 _ rfl
              have m2 := M7.out.cell 2 _ rfl
              clear u3
              have u3 : v7.cell? ⟨w.heap.size, 3, none⟩ = some (.bool false) := (by have := T7.out.cell 3 _ rfl; rw [HKNO.out] at this; exact this)
              go_upto_region 22 with fail
              clear u0 u1 u2 u3 m2
              have u0 := T7.out.cell 0 _ rfl
              have u1 := T7.out.cell 1 _ rfl
              have u2 := T7.out.cell 2 _ rfl
              have u3 := T7.out.cell 3 _ rfl
              go_wp2_with fail
              have hq := on_any D i' v7 (by have := HF0.out; omega)
              unfold OnPost at hq
              refine hq.mono ?_
              rintro e v8 ⟨rfl, bq⟩
              have B8 := hide (B7.out.next bq)
              have L8 := hide (L7.out.below bq)
              have M8 := hide (M7.out.next bq)
              have N8 := hide (N7.out.next bq)
              have R8 := hide (R7.out.next bq)
              have T8 := hide (T7.out.next bq)
              clear B7 L7 M7 N7 R7 T7 bq hq
              have xT := T8.out
              go_upto_region 23 with ((with_reducible refine wpList_store_box rfl 37 _ _ rfl w.heap.size #[.slice D.A D.n D.c, .int .i64 ((i' : Int) + 1 : Int), .slice D.V D.m D.d, .bool D.known] rfl rfl _ xT (by kernel_rfl) rfl (by simp [Value.oneCell']) ?_); intro v9 kq ho)
              clear xT
              have T9 := hide kq
              have B9 := hide (B8.out.trans (ho.below B8.out.size (by omega)))
              have L9 := hide (L8.out.other ho (Or.inl (by omega)))
              have M9 := hide (M8.out.other ho (by omega))
              have N9 := hide (N8.out.other ho (by omega))
              have R9 := hide (R8.out.other ho (by omega))
              clear B8 L8 M8 N8 R8 T8 kq ho
              clear u0 u1 u2 u3
              have m0 := M9.out.cell 0 _ rfl
              have m1 := M9.out.cell 1 _ rfl
              have m2 := M9.out.cell 2 _ rfl
              have bq := bl_alloc v9 (.cells #[.bool neg, .string ⟨#[]⟩, .string (hd D.ts i').text] 76)
              have B10 := hide (B9.out.next bq)
              have L10 := hide (L9.out.below bq)
              have M10 := hide (M9.out.next bq)
              have N10 := hide (N9.out.next bq)
              have R10 := hide (R9.out.next bq)
              have T10 := hide (T9.out.next bq)
              have hbx := heap_alloc_new v9 (.cells #[.bool neg, .string ⟨#[]⟩, .string (hd D.ts i').text] 76)
              have HBX := hide hbx
              clear bq hbx
              have hln := HN.out
              have zs := R10.out.lt
              go_upto_region 24 with (at_builtin; refine wpList_append_mono rfl _ _ rfl (w.heap.size + 2) _ acc rfl L10.out v9.heap.size ⟨⟨#[]⟩, (hd D.ts i').text, neg⟩ rfl HBX.out (by omega) (by omega) ?_; intro vv v11 l5 g5)
              obtain ⟨A3, c3, rfl, hd1, hd2, -⟩ := l5.len
              have B11 := hide (L10.out.old B10.out g5 (by omega) (Nat.le_refl _))
              have L11 := hide l5
              have R11 := hide (R10.out.grown g5 (fun e => by have := L10.out.lt _ e.symm; omega))
              have T11 := hide (T10.out.grown g5 (fun e => by have := L10.out.lt _ e.symm; omega))
              generalize hn3 : (acc ++ [⟨⟨#[]⟩, (hd D.ts i').text, neg⟩] : List Mn).length = n3 at hd1 L11 ⊢
              have hn4 : n3 = n + 1 := by rw [← hn3, List.length_append, HN.out]; rfl
              subst hn4
              have HN3 := hide hn3
              clear l5 g5 hn3 HBX hln m0 m1 m2 B10 L10 M10 N10 R10 T10 B9 L9 M9 N9 R9 T9
              cases hs : isT ⟨#[45]⟩ (rd D.ts (i' + 1)) with
              | true =>
                have HK := hide (show rd D.ts (i' + 2) = (rd D.ts (i' + 1)).tail ∧ (rd D.ts (i' + 2)).length + 1 = (rd D.ts (i' + 1)).length from ⟨(isT_step HTG.out.ends hs).1, (isT_step HTG.out.ends hs).2.1⟩)
                have EQ := hide (HE.out.trans (if_pos hs))
                rw [← HK.out.1] at EQ
                have HF2 := hide (show i' + 2 + (rd D.ts (i' + 2)).length ≤ 1099511627776 from by have := HF1.out; have := HK.out; omega)
                have u0 := T11.out.cell 0 _ rfl
                have u1 := T11.out.cell 1 _ rfl
                have u2 := T11.out.cell 2 _ rfl
                have u3 := T11.out.cell 3 _ rfl
                go_wp2_with fail
                have hq := HIS.out (i' + 1) ⟨#[45]⟩ _ B11.out HF1.out
                rw [hs] at hq
                rw [show (((i' + 1) : Nat) : Int) = (i' : Int) + 1 from by omega] at hq
                refine hq.mono ?_
                rintro e v12 ⟨rfl, bq⟩
                have B12 := hide (B11.out.next bq)
                have L12 := hide (L11.out.below bq)
                have R12 := hide (R11.out.next bq)
                have T12 := hide (T11.out.next bq)
                clear B11 L11 R11 T11 bq hq
                clear u0 u1 u2 u3
                have u0 := T12.out.cell 0 _ rfl
                have u1 := T12.out.cell 1 _ rfl
                have u2 := T12.out.cell 2 _ rfl
                have u3 := T12.out.cell 3 _ rfl
                go_wp2_with fail
                have hq := on_any D (i' + 1) v12 (by have := HF1.out; omega)
                unfold OnPost at hq
                rw [show (((i' + 1) : Nat) : Int) = (i' : Int) + 1 from by omega] at hq
                refine hq.mono ?_
                rintro e v13 ⟨rfl, bq⟩
                have B13 := hide (B12.out.next bq)
                have L13 := hide (L12.out.below bq)
                have R13 := hide (R12.out.next bq)
                have T13 := hide (T12.out.next bq)
                clear B12 L12 R12 T12 bq hq
                clear u0 u1 u2 u3
                have xT := T13.out
                rw [show ((i' : Int) + 1 + 1) = (i' : Int) + 2 from by omega]
                go_wp2_with ((with_reducible refine wpList_store_box rfl 37 _ _ rfl w.heap.size #[.slice D.A D.n D.c, .int .i64 ((i' : Int) + 2 : Int), .slice D.V D.m D.d, .bool D.known] rfl rfl _ xT (by kernel_rfl) rfl (by simp [Value.oneCell']) ?_); intro v14 kq ho)
                clear xT
                have B14 := hide (B13.out.trans (ho.below B13.out.size (by omega)))
                have L14 := hide (L13.out.other ho (Or.inl (by omega)))
                have R14 := hide (R13.out.other ho (by omega))
                have HRR := hide (show RSumRel D i w v14 (.slice A3 (n + 1) c3) true (i' + 2) (m - 1) (acc ++ [⟨⟨#[]⟩, (hd D.ts i').text, neg⟩]) from
                  ⟨by rw [HN3.out]; exact L14.out, by rw [show (((i' + 2 : Nat)) : Int) = (i' : Int) + 2 from by omega]; exact kq, R14.out, B14.out, HST.out.trans' rfl (by have := HK.out; omega), EQ.out, by have := HMORE.out; have := HK.out; have := HLN.out; omega, by rw [HN3.out]; omega⟩)
                simp only [Act.put]
                go_roundw
                case rel => exact ⟨_, _, _, _, rfl, HRR⟩
                case measure => simp [lenOf]; omega
              | false =>
                cases hp : isT ⟨#[43]⟩ (rd D.ts (i' + 1)) with
                | true =>
                  have HK := hide (show rd D.ts (i' + 2) = (rd D.ts (i' + 1)).tail ∧ (rd D.ts (i' + 2)).length + 1 = (rd D.ts (i' + 1)).length from ⟨(isT_step HTG.out.ends hp).1, (isT_step HTG.out.ends hp).2.1⟩)
                  have EQ := hide (HE.out.trans ((if_neg (by rw [hs]; decide)).trans (if_pos hp)))
                  rw [← HK.out.1] at EQ
                  have HF2 := hide (show i' + 2 + (rd D.ts (i' + 2)).length ≤ 1099511627776 from by have := HF1.out; have := HK.out; omega)
                  have u0 := T11.out.cell 0 _ rfl
                  have u1 := T11.out.cell 1 _ rfl
                  have u2 := T11.out.cell 2 _ rfl
                  have u3 := T11.out.cell 3 _ rfl
                  go_wp2_with fail
                  have hq := HIS.out (i' + 1) ⟨#[45]⟩ _ B11.out HF1.out
                  rw [hs] at hq
                  rw [show (((i' + 1) : Nat) : Int) = (i' : Int) + 1 from by omega] at hq
                  refine hq.mono ?_
                  rintro e v12 ⟨rfl, bq⟩
                  have B12 := hide (B11.out.next bq)
                  have L12 := hide (L11.out.below bq)
                  have R12 := hide (R11.out.next bq)
                  have T12 := hide (T11.out.next bq)
                  clear B11 L11 R11 T11 bq hq
                  clear u0 u1 u2 u3
                  have u0 := T12.out.cell 0 _ rfl
                  have u1 := T12.out.cell 1 _ rfl
                  have u2 := T12.out.cell 2 _ rfl
                  have u3 := T12.out.cell 3 _ rfl
                  go_wp2_with fail
                  have hq := HIS.out (i' + 1) ⟨#[43]⟩ _ B12.out HF1.out
                  rw [hp] at hq
                  rw [show (((i' + 1) : Nat) : Int) = (i' : Int) + 1 from by omega] at hq
                  refine hq.mono ?_
                  rintro e v13 ⟨rfl, bq⟩
                  have B13 := hide (B12.out.next bq)
                  have L13 := hide (L12.out.below bq)
                  have R13 := hide (R12.out.next bq)
                  have T13 := hide (T12.out.next bq)
                  clear B12 L12 R12 T12 bq hq
                  clear u0 u1 u2 u3
                  have u0 := T13.out.cell 0 _ rfl
                  have u1 := T13.out.cell 1 _ rfl
                  have u2 := T13.out.cell 2 _ rfl
                  have u3 := T13.out.cell 3 _ rfl
                  go_wp2_with fail
                  have hq := on_any D (i' + 1) v13 (by have := HF1.out; omega)
                  unfold OnPost at hq
                  rw [show (((i' + 1) : Nat) : Int) = (i' : Int) + 1 from by omega] at hq
                  refine hq.mono ?_
                  rintro e v14 ⟨rfl, bq⟩
                  have B14 := hide (B13.out.next bq)
                  have L14 := hide (L13.out.below bq)
                  have R14 := hide (R13.out.next bq)
                  have T14 := hide (T13.out.next bq)
                  clear B13 L13 R13 T13 bq hq
                  clear u0 u1 u2 u3
                  have xT := T14.out
                  rw [show ((i' : Int) + 1 + 1) = (i' : Int) + 2 from by omega]
                  go_wp2_with ((with_reducible refine wpList_store_box rfl 37 _ _ rfl w.heap.size #[.slice D.A D.n D.c, .int .i64 ((i' : Int) + 2 : Int), .slice D.V D.m D.d, .bool D.known] rfl rfl _ xT (by kernel_rfl) rfl (by simp [Value.oneCell']) ?_); intro v15 kq ho)
                  clear xT
                  have B15 := hide (B14.out.trans (ho.below B14.out.size (by omega)))
                  have L15 := hide (L14.out.other ho (Or.inl (by omega)))
                  have R15 := hide (R14.out.other ho (by omega))
                  have HRR := hide (show RSumRel D i w v15 (.slice A3 (n + 1) c3) false (i' + 2) (m - 1) (acc ++ [⟨⟨#[]⟩, (hd D.ts i').text, neg⟩]) from
                    ⟨by rw [HN3.out]; exact L15.out, by rw [show (((i' + 2 : Nat)) : Int) = (i' : Int) + 2 from by omega]; exact kq, R15.out, B15.out, HST.out.trans' rfl (by have := HK.out; omega), EQ.out, by have := HMORE.out; have := HK.out; have := HLN.out; omega, by rw [HN3.out]; omega⟩)
                  simp only [Act.put]
                  go_roundw
                  case rel => exact ⟨_, _, _, _, rfl, HRR⟩
                  case measure => simp [lenOf]; omega
                | false =>
                  have EQ := hide (HE.out.trans ((if_neg (by rw [hs]; decide)).trans (if_neg (by rw [hp]; decide))))
                  have u0 := T11.out.cell 0 _ rfl
                  have u1 := T11.out.cell 1 _ rfl
                  have u2 := T11.out.cell 2 _ rfl
                  have u3 := T11.out.cell 3 _ rfl
                  go_wp2_with fail
                  have hq := HIS.out (i' + 1) ⟨#[45]⟩ _ B11.out HF1.out
                  rw [hs] at hq
                  rw [show (((i' + 1) : Nat) : Int) = (i' : Int) + 1 from by omega] at hq
                  refine hq.mono ?_
                  rintro e v12 ⟨rfl, bq⟩
                  have B12 := hide (B11.out.next bq)
                  have L12 := hide (L11.out.below bq)
                  have R12 := hide (R11.out.next bq)
                  have T12 := hide (T11.out.next bq)
                  clear B11 L11 R11 T11 bq hq
                  clear u0 u1 u2 u3
                  have u0 := T12.out.cell 0 _ rfl
                  have u1 := T12.out.cell 1 _ rfl
                  have u2 := T12.out.cell 2 _ rfl
                  have u3 := T12.out.cell 3 _ rfl
                  go_wp2_with fail
                  have hq := HIS.out (i' + 1) ⟨#[43]⟩ _ B12.out HF1.out
                  rw [hp] at hq
                  rw [show (((i' + 1) : Nat) : Int) = (i' : Int) + 1 from by omega] at hq
                  refine hq.mono ?_
                  rintro e v13 ⟨rfl, bq⟩
                  have B13 := hide (B12.out.next bq)
                  have L13 := hide (L12.out.below bq)
                  have R13 := hide (R12.out.next bq)
                  have T13 := hide (T12.out.next bq)
                  clear B12 L12 R12 T12 bq hq
                  clear u0 u1 u2 u3
                  have u0 := T13.out.cell 0 _ rfl
                  have u1 := T13.out.cell 1 _ rfl
                  have u2 := T13.out.cell 2 _ rfl
                  have u3 := T13.out.cell 3 _ rfl
                  have HP := hide (fun w9 (hb9 : Below w.heap.size w w9) (hl9 : LRow 76 3 w9 (w.heap.size + 2) (.slice A3 (n + 1) c3) (n + 1) (flatM (acc ++ [⟨⟨#[]⟩, (hd D.ts i').text, neg⟩]))) => RSumPost.ok (D := D) (i := i) (i' := (i' + 1)) (by rw [EQ.out]) (by rw [HN3.out]; exact hl9) HST.out hb9)
                  have xR := R13.out
                  rw [show (((i' + 1) : Nat) : Int) = (i' : Int) + 1 from by omega] at HP
                  go_wp2_with ((with_reducible refine wpList_store_box rfl 37 _ _ rfl (w.heap.size + 1) #[.slice D.A D.n D.c, .int .i64 ((i' : Int) + 1 : Int), .slice D.V D.m D.d, .bool D.known] rfl rfl _ xR (by kernel_rfl) rfl (by simp [Value.oneCell']) ?_); intro w9 k9 ho9)
                  refine bodyPost_ts rfl rfl rfl rfl k9 rfl ?_
                  exact HP.out _ (B13.out.trans (ho9.below B13.out.size (by omega))) (L13.out.other ho9 (Or.inl (by omega)))
            | true =>
              cases hmem : memS (hd D.ts i').text D.vars with
              | true =>
                have hmo := hmo0
                rw [if_pos (by unfold CD.kn; rw [hknown, hmem]; rfl), ← HKN.out.1] at hmo
                have HE := hide (HEQ.out.trans (sumGo_ok D.kn neg acc hm0 hmo))
                have HLN := hide (mono_len hmo)
                have HST := hide (HST0.out.trans' (i2 := i' + 1) rfl (by have := HKN.out; omega))
                clear hmo hmo0
                have HKNO := hide hknown
                clear hknown
                have HMEM := hide hmem
                clear hmem
                have u0 := T0.out.cell 0 _ rfl
                have u1 := T0.out.cell 1 _ rfl
                have u2 := T0.out.cell 2 _ rfl
                have u3 := T0.out.cell 3 _ rfl
                go_wp2_with fail
                refine HNX.out.mono ?_
                rintro e v1 ⟨rfl, bq⟩
                have B1 := hide (B0.out.next bq)
                have L1 := hide (L0.out.below bq)
                have R1 := hide (R0.out.next bq)
                have T1 := hide (T0.out.next bq)
                clear B0 L0 R0 T0 bq
                clear u0 u1 u2 u3
                go_upto_region 6 with fail
                have bq := bl_alloc v1 (.cells #[.int .i64 ((hd D.ts i').kind : Int), .string (hd D.ts i').text, .int .i64 ((hd D.ts i').line : Int), .int .i64 ((hd D.ts i').col : Int)] 58)
                have sq : (v1.alloc (.cells #[.int .i64 ((hd D.ts i').kind : Int), .string (hd D.ts i').text, .int .i64 ((hd D.ts i').line : Int), .int .i64 ((hd D.ts i').col : Int)] 58)).heap.size = v1.heap.size + 1 := World.size_alloc _ _
                have zN : w.heap.size + 1 < v1.heap.size := R1.out.lt
                have B2 := hide (B1.out.next bq)
                have L2 := hide (L1.out.below bq)
                have R2 := hide (R1.out.next bq)
                have T2 := hide (T1.out.next bq)
                have N2 := hide (Box.new 58 v1 #[.int .i64 ((hd D.ts i').kind : Int), .string (hd D.ts i').text, .int .i64 ((hd D.ts i').line : Int), .int .i64 ((hd D.ts i').col : Int)])
                generalize hvn : v1.alloc (.cells #[.int .i64 ((hd D.ts i').kind : Int), .string (hd D.ts i').text, .int .i64 ((hd D.ts i').line : Int), .int .i64 ((hd D.ts i').col : Int)] 58) = v2 at *
                have zq2 : v1.heap.size < v2.heap.size := by omega
                clear hvn bq sq
                clear B1 L1 R1 T1
                have n0 := N2.out.cell 0 _ rfl
                have n1 := N2.out.cell 1 _ rfl
                have n2 := N2.out.cell 2 _ rfl
                have n3 := N2.out.cell 3 _ rfl
                have u0 := T2.out.cell 0 _ rfl
                have u1 := T2.out.cell 1 _ rfl
                have u2 := T2.out.cell 2 _ rfl
                have u3 := T2.out.cell 3 _ rfl
                go_wp2_with fail
                have hq := HIN.out i' _ B2.out HF0.out
                rw [hnm] at hq
                refine hq.mono ?_
                rintro e v3 ⟨rfl, bq⟩
                have B3 := hide (B2.out.next bq)
                have L3 := hide (L2.out.below bq)
                have N3 := hide (N2.out.next bq)
                have R3 := hide (R2.out.next bq)
                have T3 := hide (T2.out.next bq)
                clear B2 L2 N2 R2 T2 bq hq
                clear u0 u1 u2 u3
                clear n0 n1 n2 n3
                have n0 := N3.out.cell 0 _ rfl
                have n1 := N3.out.cell 1 _ rfl
                have n2 := N3.out.cell 2 _ rfl
                have n3 := N3.out.cell 3 _ rfl
                have znl := N3.out.lt
                go_upto_region 14 with fail
                clear n0 n1 n2 n3
                have bq := bl_alloc v3 (.cells #[.bool neg, .string ⟨#[]⟩, .string ⟨#[]⟩] 76)
                have sq : (v3.alloc (.cells #[.bool neg, .string ⟨#[]⟩, .string ⟨#[]⟩] 76)).heap.size = v3.heap.size + 1 := World.size_alloc _ _
                have zM : w.heap.size + 1 < v3.heap.size := R3.out.lt
                have zNM : v1.heap.size < v3.heap.size := N3.out.lt
                have LM := hide (fun q (hq : (Value.slice A n c).ownBlock = some q) => (L3.out.lt q hq).2)
                have B4 := hide (B3.out.next bq)
                have L4 := hide (L3.out.below bq)
                have N4 := hide (N3.out.next bq)
                have R4 := hide (R3.out.next bq)
                have T4 := hide (T3.out.next bq)
                have M4 := hide (Box.new 76 v3 #[.bool neg, .string ⟨#[]⟩, .string ⟨#[]⟩])
                generalize hvn : v3.alloc (.cells #[.bool neg, .string ⟨#[]⟩, .string ⟨#[]⟩] 76) = v4 at *
                have zq4 : v3.heap.size < v4.heap.size := by omega
                clear hvn bq sq
                clear B3 L3 N3 R3 T3
                have m1 := M4.out.cell 1 _ rfl
                have u0 := T4.out.cell 0 _ rfl
                have u1 := T4.out.cell 1 _ rfl
                have u2 := T4.out.cell 2 _ rfl
                have u3 := T4.out.cell 3 _ rfl
                go_wp2_with fail
                have hq := HIN.out i' _ B4.out HF0.out
                rw [hnm] at hq
                refine hq.mono ?_
                rintro e v5 ⟨rfl, bq⟩
                have B5 := hide (B4.out.next bq)
                have L5 := hide (L4.out.below bq)
                have M5 := hide (M4.out.next bq)
                have N5 := hide (N4.out.next bq)
                have R5 := hide (R4.out.next bq)
                have T5 := hide (T4.out.next bq)
                clear B4 L4 M4 N4 R4 T4 bq hq
                clear u0 u1 u2 u3
                clear m1
                have u0 := T5.out.cell 0 _ rfl
                have u1 := T5.out.cell 1 _ rfl
                have u2 := T5.out.cell 2 _ rfl
                have u3 := T5.out.cell 3 _ rfl
                go_wp2_with fail
                have hq := HNT.out i' _ B5.out HF0.out
                unfold AtPost at hq
                refine hq.mono ?_
                rintro e v6 ⟨rfl, bq⟩
                have B6 := hide (B5.out.next bq)
                have L6 := hide (L5.out.below bq)
                have M6 := hide (M5.out.next bq)
                have N6 := hide (N5.out.next bq)
                have R6 := hide (R5.out.next bq)
                have T6 := hide (T5.out.next bq)
                clear B5 L5 M5 N5 R5 T5 bq hq
                clear u0 u1 u2 u3
                have m2 := M6.out.cell 2 _ rfl
                have mf := M6.out.fr 2
                have HFD := fun a c d s W => field_rtext a c d s W
                go_upto_region 20 with fail
                clear m2 mf HFD
                have ho := only_set v6 v3.heap.size 2 (.string (hd D.ts i').text)
                have M7 := hide (Box.set_2 M6.out (.string (hd D.ts i').text))
                generalize hvn : v6.setCell ⟨v3.heap.size, 2, none⟩ (.string (hd D.ts i').text) = v7 at *
                clear hvn
                have B7 := hide (B6.out.trans (ho.below B6.out.size (by omega)))
                have L7 := hide (L6.out.kept ho.gb (lrow_ne (fun q hq => LM.out q hq)))
                have N7 := hide (N6.out.other ho (by omega))
                have R7 := hide (R6.out.other ho (by omega))
                have T7 := hide (T6.out.other ho (by omega))
                clear B6 L6 M6 N6 R6 T6 ho
                have u0 := T7.out.cell 0 _ rfl
                have u1 := T7.out.cell 1 _ rfl
                have u2 := T7.out.cell 2 _ rfl
                have u3 := T7.out.cell 3 _ rfl
                have m2 := M7.out.cell 2 _ rfl
                clear u3
                have u3 : v7.cell? ⟨w.heap.size, 3, none⟩ = some (.bool true) := (by have := T7.out.cell 3 _ rfl; rw [HKNO.out] at this; exact this)
                go_wp2_with fail
                have hq := HIC.out (hd D.ts i').text _ B7.out
                rw [HMEM.out] at hq
                refine hq.mono ?_
                rintro e vq ⟨rfl, rfl⟩
                clear hq
                go_upto_region 22 with fail
                clear u0 u1 u2 u3 m2
                have u0 := T7.out.cell 0 _ rfl
                have u1 := T7.out.cell 1 _ rfl
                have u2 := T7.out.cell 2 _ rfl
                have u3 := T7.out.cell 3 _ rfl
                go_wp2_with fail
                have hq := on_any D i' v7 (by have := HF0.out; omega)
                unfold OnPost at hq
                refine hq.mono ?_
                rintro e v8 ⟨rfl, bq⟩
                have B8 := hide (B7.out.next bq)
                have L8 := hide (L7.out.below bq)
                have M8 := hide (M7.out.next bq)
                have N8 := hide (N7.out.next bq)
                have R8 := hide (R7.out.next bq)
                have T8 := hide (T7.out.next bq)
                clear B7 L7 M7 N7 R7 T7 bq hq
                have xT := T8.out
                go_upto_region 23 with ((with_reducible refine wpList_store_box rfl 37 _ _ rfl w.heap.size #[.slice D.A D.n D.c, .int .i64 ((i' : Int) + 1 : Int), .slice D.V D.m D.d, .bool D.known] rfl rfl _ xT (by kernel_rfl) rfl (by simp [Value.oneCell']) ?_); intro v9 kq ho)
                clear xT
                have T9 := hide kq
                have B9 := hide (B8.out.trans (ho.below B8.out.size (by omega)))
                have L9 := hide (L8.out.other ho (Or.inl (by omega)))
                have M9 := hide (M8.out.other ho (by omega))
                have N9 := hide (N8.out.other ho (by omega))
                have R9 := hide (R8.out.other ho (by omega))
                clear B8 L8 M8 N8 R8 T8 kq ho
                clear u0 u1 u2 u3
                have m0 := M9.out.cell 0 _ rfl
                have m1 := M9.out.cell 1 _ rfl
                have m2 := M9.out.cell 2 _ rfl
                have bq := bl_alloc v9 (.cells #[.bool neg, .string ⟨#[]⟩, .string (hd D.ts i').text] 76)
                have B10 := hide (B9.out.next bq)
                have L10 := hide (L9.out.below bq)
                have M10 := hide (M9.out.next bq)
                have N10 := hide (N9.out.next bq)
                have R10 := hide (R9.out.next bq)
                have T10 := hide (T9.out.next bq)
                have hbx := heap_alloc_new v9 (.cells #[.bool neg, .string ⟨#[]⟩, .string (hd D.ts i').text] 76)
                have HBX := hide hbx
                clear bq hbx
                have hln := HN.out
                have zs := R10.out.lt
                go_upto_region 24 with (at_builtin; refine wpList_append_mono rfl _ _ rfl (w.heap.size + 2) _ acc rfl L10.out v9.heap.size ⟨⟨#[]⟩, (hd D.ts i').text, neg⟩ rfl HBX.out (by omega) (by omega) ?_; intro vv v11 l5 g5)
                obtain ⟨A3, c3, rfl, hd1, hd2, -⟩ := l5.len
                have B11 := hide (L10.out.old B10.out g5 (by omega) (Nat.le_refl _))
                have L11 := hide l5
                have R11 := hide (R10.out.grown g5 (fun e => by have := L10.out.lt _ e.symm; omega))
                have T11 := hide (T10.out.grown g5 (fun e => by have := L10.out.lt _ e.symm; omega))
                generalize hn3 : (acc ++ [⟨⟨#[]⟩, (hd D.ts i').text, neg⟩] : List Mn).length = n3 at hd1 L11 ⊢
                have hn4 : n3 = n + 1 := by rw [← hn3, List.length_append, HN.out]; rfl
                subst hn4
                have HN3 := hide hn3
                clear l5 g5 hn3 HBX hln m0 m1 m2 B10 L10 M10 N10 R10 T10 B9 L9 M9 N9 R9 T9
                cases hs : isT ⟨#[45]⟩ (rd D.ts (i' + 1)) with
                | true =>
                  have HK := hide (show rd D.ts (i' + 2) = (rd D.ts (i' + 1)).tail ∧ (rd D.ts (i' + 2)).length + 1 = (rd D.ts (i' + 1)).length from ⟨(isT_step HTG.out.ends hs).1, (isT_step HTG.out.ends hs).2.1⟩)
                  have EQ := hide (HE.out.trans (if_pos hs))
                  rw [← HK.out.1] at EQ
                  have HF2 := hide (show i' + 2 + (rd D.ts (i' + 2)).length ≤ 1099511627776 from by have := HF1.out; have := HK.out; omega)
                  have u0 := T11.out.cell 0 _ rfl
                  have u1 := T11.out.cell 1 _ rfl
                  have u2 := T11.out.cell 2 _ rfl
                  have u3 := T11.out.cell 3 _ rfl
                  go_wp2_with fail
                  have hq := HIS.out (i' + 1) ⟨#[45]⟩ _ B11.out HF1.out
                  rw [hs] at hq
                  rw [show (((i' + 1) : Nat) : Int) = (i' : Int) + 1 from by omega] at hq
                  refine hq.mono ?_
                  rintro e v12 ⟨rfl, bq⟩
                  have B12 := hide (B11.out.next bq)
                  have L12 := hide (L11.out.below bq)
                  have R12 := hide (R11.out.next bq)
                  have T12 := hide (T11.out.next bq)
                  clear B11 L11 R11 T11 bq hq
                  clear u0 u1 u2 u3
                  have u0 := T12.out.cell 0 _ rfl
                  have u1 := T12.out.cell 1 _ rfl
                  have u2 := T12.out.cell 2 _ rfl
                  have u3 := T12.out.cell 3 _ rfl
                  go_wp2_with fail
                  have hq := on_any D (i' + 1) v12 (by have := HF1.out; omega)
                  unfold OnPost at hq
                  rw [show (((i' + 1) : Nat) : Int) = (i' : Int) + 1 from by omega] at hq
                  refine hq.mono ?_
                  rintro e v13 ⟨rfl, bq⟩
                  have B13 := hide (B12.out.next bq)
                  have L13 := hide (L12.out.below bq)
                  have R13 := hide (R12.out.next bq)
                  have T13 := hide (T12.out.next bq)
                  clear B12 L12 R12 T12 bq hq
                  clear u0 u1 u2 u3
                  have xT := T13.out
                  rw [show ((i' : Int) + 1 + 1) = (i' : Int) + 2 from by omega]
                  go_wp2_with ((with_reducible refine wpList_store_box rfl 37 _ _ rfl w.heap.size #[.slice D.A D.n D.c, .int .i64 ((i' : Int) + 2 : Int), .slice D.V D.m D.d, .bool D.known] rfl rfl _ xT (by kernel_rfl) rfl (by simp [Value.oneCell']) ?_); intro v14 kq ho)
                  clear xT
                  have B14 := hide (B13.out.trans (ho.below B13.out.size (by omega)))
                  have L14 := hide (L13.out.other ho (Or.inl (by omega)))
                  have R14 := hide (R13.out.other ho (by omega))
                  have HRR := hide (show RSumRel D i w v14 (.slice A3 (n + 1) c3) true (i' + 2) (m - 1) (acc ++ [⟨⟨#[]⟩, (hd D.ts i').text, neg⟩]) from
                    ⟨by rw [HN3.out]; exact L14.out, by rw [show (((i' + 2 : Nat)) : Int) = (i' : Int) + 2 from by omega]; exact kq, R14.out, B14.out, HST.out.trans' rfl (by have := HK.out; omega), EQ.out, by have := HMORE.out; have := HK.out; have := HLN.out; omega, by rw [HN3.out]; omega⟩)
                  simp only [Act.put]
                  go_roundw
                  case rel => exact ⟨_, _, _, _, rfl, HRR⟩
                  case measure => simp [lenOf]; omega
                | false =>
                  cases hp : isT ⟨#[43]⟩ (rd D.ts (i' + 1)) with
                  | true =>
                    have HK := hide (show rd D.ts (i' + 2) = (rd D.ts (i' + 1)).tail ∧ (rd D.ts (i' + 2)).length + 1 = (rd D.ts (i' + 1)).length from ⟨(isT_step HTG.out.ends hp).1, (isT_step HTG.out.ends hp).2.1⟩)
                    have EQ := hide (HE.out.trans ((if_neg (by rw [hs]; decide)).trans (if_pos hp)))
                    rw [← HK.out.1] at EQ
                    have HF2 := hide (show i' + 2 + (rd D.ts (i' + 2)).length ≤ 1099511627776 from by have := HF1.out; have := HK.out; omega)
                    have u0 := T11.out.cell 0 _ rfl
                    have u1 := T11.out.cell 1 _ rfl
                    have u2 := T11.out.cell 2 _ rfl
                    have u3 := T11.out.cell 3 _ rfl
                    go_wp2_with fail
                    have hq := HIS.out (i' + 1) ⟨#[45]⟩ _ B11.out HF1.out
                    rw [hs] at hq
                    rw [show (((i' + 1) : Nat) : Int) = (i' : Int) + 1 from by omega] at hq
                    refine hq.mono ?_
                    rintro e v12 ⟨rfl, bq⟩
                    have B12 := hide (B11.out.next bq)
                    have L12 := hide (L11.out.below bq)
                    have R12 := hide (R11.out.next bq)
                    have T12 := hide (T11.out.next bq)
                    clear B11 L11 R11 T11 bq hq
                    clear u0 u1 u2 u3
                    have u0 := T12.out.cell 0 _ rfl
                    have u1 := T12.out.cell 1 _ rfl
                    have u2 := T12.out.cell 2 _ rfl
                    have u3 := T12.out.cell 3 _ rfl
                    go_wp2_with fail
                    have hq := HIS.out (i' + 1) ⟨#[43]⟩ _ B12.out HF1.out
                    rw [hp] at hq
                    rw [show (((i' + 1) : Nat) : Int) = (i' : Int) + 1 from by omega] at hq
                    refine hq.mono ?_
                    rintro e v13 ⟨rfl, bq⟩
                    have B13 := hide (B12.out.next bq)
                    have L13 := hide (L12.out.below bq)
                    have R13 := hide (R12.out.next bq)
                    have T13 := hide (T12.out.next bq)
                    clear B12 L12 R12 T12 bq hq
                    clear u0 u1 u2 u3
                    have u0 := T13.out.cell 0 _ rfl
                    have u1 := T13.out.cell 1 _ rfl
                    have u2 := T13.out.cell 2 _ rfl
                    have u3 := T13.out.cell 3 _ rfl
                    go_wp2_with fail
                    have hq := on_any D (i' + 1) v13 (by have := HF1.out; omega)
                    unfold OnPost at hq
                    rw [show (((i' + 1) : Nat) : Int) = (i' : Int) + 1 from by omega] at hq
                    refine hq.mono ?_
                    rintro e v14 ⟨rfl, bq⟩
                    have B14 := hide (B13.out.next bq)
                    have L14 := hide (L13.out.below bq)
                    have R14 := hide (R13.out.next bq)
                    have T14 := hide (T13.out.next bq)
                    clear B13 L13 R13 T13 bq hq
                    clear u0 u1 u2 u3
                    have xT := T14.out
                    rw [show ((i' : Int) + 1 + 1) = (i' : Int) + 2 from by omega]
                    go_wp2_with ((with_reducible refine wpList_store_box rfl 37 _ _ rfl w.heap.size #[.slice D.A D.n D.c, .int .i64 ((i' : Int) + 2 : Int), .slice D.V D.m D.d, .bool D.known] rfl rfl _ xT (by kernel_rfl) rfl (by simp [Value.oneCell']) ?_); intro v15 kq ho)
                    clear xT
                    have B15 := hide (B14.out.trans (ho.below B14.out.size (by omega)))
                    have L15 := hide (L14.out.other ho (Or.inl (by omega)))
                    have R15 := hide (R14.out.other ho (by omega))
                    have HRR := hide (show RSumRel D i w v15 (.slice A3 (n + 1) c3) false (i' + 2) (m - 1) (acc ++ [⟨⟨#[]⟩, (hd D.ts i').text, neg⟩]) from
                      ⟨by rw [HN3.out]; exact L15.out, by rw [show (((i' + 2 : Nat)) : Int) = (i' : Int) + 2 from by omega]; exact kq, R15.out, B15.out, HST.out.trans' rfl (by have := HK.out; omega), EQ.out, by have := HMORE.out; have := HK.out; have := HLN.out; omega, by rw [HN3.out]; omega⟩)
                    simp only [Act.put]
                    go_roundw
                    case rel => exact ⟨_, _, _, _, rfl, HRR⟩
                    case measure => simp [lenOf]; omega
                  | false =>
                    have EQ := hide (HE.out.trans ((if_neg (by rw [hs]; decide)).trans (if_neg (by rw [hp]; decide))))
                    have u0 := T11.out.cell 0 _ rfl
                    have u1 := T11.out.cell 1 _ rfl
                    have u2 := T11.out.cell 2 _ rfl
                    have u3 := T11.out.cell 3 _ rfl
                    go_wp2_with fail
                    have hq := HIS.out (i' + 1) ⟨#[45]⟩ _ B11.out HF1.out
                    rw [hs] at hq
                    rw [show (((i' + 1) : Nat) : Int) = (i' : Int) + 1 from by omega] at hq
                    refine hq.mono ?_
                    rintro e v12 ⟨rfl, bq⟩
                    have B12 := hide (B11.out.next bq)
                    have L12 := hide (L11.out.below bq)
                    have R12 := hide (R11.out.next bq)
                    have T12 := hide (T11.out.next bq)
                    clear B11 L11 R11 T11 bq hq
                    clear u0 u1 u2 u3
                    have u0 := T12.out.cell 0 _ rfl
                    have u1 := T12.out.cell 1 _ rfl
                    have u2 := T12.out.cell 2 _ rfl
                    have u3 := T12.out.cell 3 _ rfl
                    go_wp2_with fail
                    have hq := HIS.out (i' + 1) ⟨#[43]⟩ _ B12.out HF1.out
                    rw [hp] at hq
                    rw [show (((i' + 1) : Nat) : Int) = (i' : Int) + 1 from by omega] at hq
                    refine hq.mono ?_
                    rintro e v13 ⟨rfl, bq⟩
                    have B13 := hide (B12.out.next bq)
                    have L13 := hide (L12.out.below bq)
                    have R13 := hide (R12.out.next bq)
                    have T13 := hide (T12.out.next bq)
                    clear B12 L12 R12 T12 bq hq
                    clear u0 u1 u2 u3
                    have u0 := T13.out.cell 0 _ rfl
                    have u1 := T13.out.cell 1 _ rfl
                    have u2 := T13.out.cell 2 _ rfl
                    have u3 := T13.out.cell 3 _ rfl
                    have HP := hide (fun w9 (hb9 : Below w.heap.size w w9) (hl9 : LRow 76 3 w9 (w.heap.size + 2) (.slice A3 (n + 1) c3) (n + 1) (flatM (acc ++ [⟨⟨#[]⟩, (hd D.ts i').text, neg⟩]))) => RSumPost.ok (D := D) (i := i) (i' := (i' + 1)) (by rw [EQ.out]) (by rw [HN3.out]; exact hl9) HST.out hb9)
                    have xR := R13.out
                    rw [show (((i' + 1) : Nat) : Int) = (i' : Int) + 1 from by omega] at HP
                    go_wp2_with ((with_reducible refine wpList_store_box rfl 37 _ _ rfl (w.heap.size + 1) #[.slice D.A D.n D.c, .int .i64 ((i' : Int) + 1 : Int), .slice D.V D.m D.d, .bool D.known] rfl rfl _ xR (by kernel_rfl) rfl (by simp [Value.oneCell']) ?_); intro w9 k9 ho9)
                    refine bodyPost_ts rfl rfl rfl rfl k9 rfl ?_
                    exact HP.out _ (B13.out.trans (ho9.below B13.out.size (by omega))) (L13.out.other ho9 (Or.inl (by omega)))
              | false =>
                have hmo := hmo0
                rw [if_neg (by unfold CD.kn; rw [hknown, hmem]; decide)] at hmo
                have HP := hide (fun w9 (hb9 : Below w.heap.size w w9) => RSumPost.err (c := 110) (i' := i') (HEQ.out.trans (sumGo_err D.kn neg acc hm0 hmo)) (by decide) HST0.out hb9)
                clear hmo hmo0
                have HKNO := hide hknown
                have HMEM := hide hmem
                clear hknown hmem
                have u0 := T0.out.cell 0 _ rfl
                have u1 := T0.out.cell 1 _ rfl
                have u2 := T0.out.cell 2 _ rfl
                have u3 := T0.out.cell 3 _ rfl
                go_wp2_with fail
                refine HNX.out.mono ?_
                rintro e v1 ⟨rfl, bq⟩
                have B1 := hide (B0.out.next bq)
                have L1 := hide (L0.out.below bq)
                have R1 := hide (R0.out.next bq)
                have T1 := hide (T0.out.next bq)
                clear B0 L0 R0 T0 bq
                clear u0 u1 u2 u3
                go_upto_region 6 with fail
                have bq := bl_alloc v1 (.cells #[.int .i64 ((hd D.ts i').kind : Int), .string (hd D.ts i').text, .int .i64 ((hd D.ts i').line : Int), .int .i64 ((hd D.ts i').col : Int)] 58)
                have sq : (v1.alloc (.cells #[.int .i64 ((hd D.ts i').kind : Int), .string (hd D.ts i').text, .int .i64 ((hd D.ts i').line : Int), .int .i64 ((hd D.ts i').col : Int)] 58)).heap.size = v1.heap.size + 1 := World.size_alloc _ _
                have zN : w.heap.size + 1 < v1.heap.size := R1.out.lt
                have B2 := hide (B1.out.next bq)
                have L2 := hide (L1.out.below bq)
                have R2 := hide (R1.out.next bq)
                have T2 := hide (T1.out.next bq)
                have N2 := hide (Box.new 58 v1 #[.int .i64 ((hd D.ts i').kind : Int), .string (hd D.ts i').text, .int .i64 ((hd D.ts i').line : Int), .int .i64 ((hd D.ts i').col : Int)])
                generalize hvn : v1.alloc (.cells #[.int .i64 ((hd D.ts i').kind : Int), .string (hd D.ts i').text, .int .i64 ((hd D.ts i').line : Int), .int .i64 ((hd D.ts i').col : Int)] 58) = v2 at *
                have zq2 : v1.heap.size < v2.heap.size := by omega
                clear hvn bq sq
                clear B1 L1 R1 T1
                have n0 := N2.out.cell 0 _ rfl
                have n1 := N2.out.cell 1 _ rfl
                have n2 := N2.out.cell 2 _ rfl
                have n3 := N2.out.cell 3 _ rfl
                have u0 := T2.out.cell 0 _ rfl
                have u1 := T2.out.cell 1 _ rfl
                have u2 := T2.out.cell 2 _ rfl
                have u3 := T2.out.cell 3 _ rfl
                go_wp2_with fail
                have hq := HIN.out i' _ B2.out HF0.out
                rw [hnm] at hq
                refine hq.mono ?_
                rintro e v3 ⟨rfl, bq⟩
                have B3 := hide (B2.out.next bq)
                have L3 := hide (L2.out.below bq)
                have N3 := hide (N2.out.next bq)
                have R3 := hide (R2.out.next bq)
                have T3 := hide (T2.out.next bq)
                clear B2 L2 N2 R2 T2 bq hq
                clear u0 u1 u2 u3
                clear n0 n1 n2 n3
                have n0 := N3.out.cell 0 _ rfl
                have n1 := N3.out.cell 1 _ rfl
                have n2 := N3.out.cell 2 _ rfl
                have n3 := N3.out.cell 3 _ rfl
                have znl := N3.out.lt
                go_upto_region 14 with fail
                clear n0 n1 n2 n3
                have bq := bl_alloc v3 (.cells #[.bool neg, .string ⟨#[]⟩, .string ⟨#[]⟩] 76)
                have sq : (v3.alloc (.cells #[.bool neg, .string ⟨#[]⟩, .string ⟨#[]⟩] 76)).heap.size = v3.heap.size + 1 := World.size_alloc _ _
                have zM : w.heap.size + 1 < v3.heap.size := R3.out.lt
                have zNM : v1.heap.size < v3.heap.size := N3.out.lt
                have LM := hide (fun q (hq : (Value.slice A n c).ownBlock = some q) => (L3.out.lt q hq).2)
                have B4 := hide (B3.out.next bq)
                have L4 := hide (L3.out.below bq)
                have N4 := hide (N3.out.next bq)
                have R4 := hide (R3.out.next bq)
                have T4 := hide (T3.out.next bq)
                have M4 := hide (Box.new 76 v3 #[.bool neg, .string ⟨#[]⟩, .string ⟨#[]⟩])
                generalize hvn : v3.alloc (.cells #[.bool neg, .string ⟨#[]⟩, .string ⟨#[]⟩] 76) = v4 at *
                have zq4 : v3.heap.size < v4.heap.size := by omega
                clear hvn bq sq
                clear B3 L3 N3 R3 T3
                have m1 := M4.out.cell 1 _ rfl
                have u0 := T4.out.cell 0 _ rfl
                have u1 := T4.out.cell 1 _ rfl
                have u2 := T4.out.cell 2 _ rfl
                have u3 := T4.out.cell 3 _ rfl
                go_wp2_with fail
                have hq := HIN.out i' _ B4.out HF0.out
                rw [hnm] at hq
                refine hq.mono ?_
                rintro e v5 ⟨rfl, bq⟩
                have B5 := hide (B4.out.next bq)
                have L5 := hide (L4.out.below bq)
                have M5 := hide (M4.out.next bq)
                have N5 := hide (N4.out.next bq)
                have R5 := hide (R4.out.next bq)
                have T5 := hide (T4.out.next bq)
                clear B4 L4 M4 N4 R4 T4 bq hq
                clear u0 u1 u2 u3
                clear m1
                have u0 := T5.out.cell 0 _ rfl
                have u1 := T5.out.cell 1 _ rfl
                have u2 := T5.out.cell 2 _ rfl
                have u3 := T5.out.cell 3 _ rfl
                go_wp2_with fail
                have hq := HNT.out i' _ B5.out HF0.out
                unfold AtPost at hq
                refine hq.mono ?_
                rintro e v6 ⟨rfl, bq⟩
                have B6 := hide (B5.out.next bq)
                have L6 := hide (L5.out.below bq)
                have M6 := hide (M5.out.next bq)
                have N6 := hide (N5.out.next bq)
                have R6 := hide (R5.out.next bq)
                have T6 := hide (T5.out.next bq)
                clear B5 L5 M5 N5 R5 T5 bq hq
                clear u0 u1 u2 u3
                have m2 := M6.out.cell 2 _ rfl
                have mf := M6.out.fr 2
                have HFD := fun a c d s W => field_rtext a c d s W
                go_upto_region 20 with fail
                clear m2 mf HFD
                have ho := only_set v6 v3.heap.size 2 (.string (hd D.ts i').text)
                have M7 := hide (Box.set_2 M6.out (.string (hd D.ts i').text))
                generalize hvn : v6.setCell ⟨v3.heap.size, 2, none⟩ (.string (hd D.ts i').text) = v7 at *
                clear hvn
                have B7 := hide (B6.out.trans (ho.below B6.out.size (by omega)))
                have L7 := hide (L6.out.kept ho.gb (lrow_ne (fun q hq => LM.out q hq)))
                have N7 := hide (N6.out.other ho (by omega))
                have R7 := hide (R6.out.other ho (by omega))
                have T7 := hide (T6.out.other ho (by omega))
                clear B6 L6 M6 N6 R6 T6 ho
                have u0 := T7.out.cell 0 _ rfl
                have u1 := T7.out.cell 1 _ rfl
                have u2 := T7.out.cell 2 _ rfl
                have u3 := T7.out.cell 3 _ rfl
                have m2 := M7.out.cell 2 _ rfl
                clear u3
                have u3 : v7.cell? ⟨w.heap.size, 3, none⟩ = some (.bool true) := (by have := T7.out.cell 3 _ rfl; rw [HKNO.out] at this; exact this)
                go_wp2_with fail
                have hq := HIC.out (hd D.ts i').text _ B7.out
                rw [HMEM.out] at hq
                refine hq.mono ?_
                rintro e vq ⟨rfl, rfl⟩
                clear hq
                go_upto_region 21 with fail
                clear u0 u1 u2 u3 m2
                have u0 := T7.out.cell 0 _ rfl
                have u1 := T7.out.cell 1 _ rfl
                have u2 := T7.out.cell 2 _ rfl
                have u3 := T7.out.cell 3 _ rfl
                have xR := R7.out
                go_wp2_with ((with_reducible refine wpList_store_box rfl 37 _ _ rfl (w.heap.size + 1) #[.slice D.A D.n D.c, .int .i64 ((i' : Int) : Int), .slice D.V D.m D.d, .bool D.known] rfl rfl _ xR (by kernel_rfl) rfl (by simp [Value.oneCell']) ?_); intro w9 k9 ho9)
                refine bodyPost_ts rfl rfl rfl rfl k9 rfl ?_
                exact HP.out _ (B7.out.trans (ho9.below B7.out.size (by omega)))
end Go.Proofs.YtneiajkcikcnnaaDoor
