/- Texts of one seat, put together: ExprR8. -/
import Derived.Test.YtneiajkcikcnnaaDoorB26
set_option linter.unusedVariables false
/- plumblineref11.One. -/
namespace Go.Proofs.YtneiajkcikcnnaaDoor
open Go.RowKit
open Lx Ex

theorem isT_other {a b : ByteArray} {r : List PT} (h : isT a r = true) (hne : a ≠ b) : isT b r = false := by
  cases r with
  | nil => cases h
  | cons p r =>
    simp only [isT, Bool.and_eq_true, decide_eq_true_eq] at h
    have : p.2 ≠ b := fun e => hne (h.1.symm.trans e)
    simp [isT, this]
/-- An answer handed on, in two variables of the caller's own. -/
theorem hand_on {D : CD} {i j i5 : Nat} {o O : Out Tr} {w0 V Wz w8 w9 : World} {r y : Nat} {code : Int} {kd : Int} {Al : Option Addr} {nl cl : Nat} {Ar : Option Addr} {nr cr : Nat} {op : Int} {p q : ByteArray} {A : Option Addr} {n c : Nat} (hO : O = o)
    (h : (code = 0 ∧ ∃ t r1, o = .ok t r1 ∧ TIn (From V.heap.size) Wz (gt t) [.int .i64 kd, .slice Al nl cl, .slice Ar nr cr, .int .i64 op, .string p, .string q, .slice A n c] ∧ Stands D j r1 i5) ∨ (∃ cd r1, code = ((cd : Nat) : Int) ∧ cd ≠ 0 ∧ o = .err cd r1 ∧ #[.int .i64 kd, .slice Al nl cl, .slice Ar nr cr, .int .i64 op, .string p, .string q, .slice A n c] = (#[.int .i64 0, .slice none 0 0, .slice none 0 0, .int .i64 0, .string ⟨#[]⟩, .string ⟨#[]⟩, .slice none 0 0] : Array Value) ∧ Stands D j r1 i5))
    (hs : Stands D i (rd D.ts j) j) (hV : w0.heap.size ≤ V.heap.size) (hb : Below w0.heap.size w0 w9) (h8 : Only r Wz w8) (h9 : Only y w8 w9) (hr : r < V.heap.size) (hy : y < V.heap.size) :
    RPPost D O i w0 (.returned (.tuple #[.agg #[.slice D.A D.n D.c, .int .i64 (i5 : Int), .slice D.V D.m D.d, .bool D.known], .agg #[.int .i64 kd, .slice Al nl cl, .slice Ar nr cr, .int .i64 op, .string p, .string q, .slice A n c], .int .i64 code])) w9 := by
  subst hO
  refine ⟨i5, code, kd, Al, nl, cl, Ar, nr, cr, op, p, q, A, n, c, rfl, hb, ?_⟩
  rcases h with ⟨h0, t, r1, h1, hT, h3⟩ | ⟨cd, r1, h0, hc, h1, h2, h3⟩
  · exact Or.inl ⟨h0, t, r1, h1, ((hT.keep (Keep.of_only h8 hr)).keep (Keep.of_only h9 hy)).mono hV, hs.trans h3⟩
  · exact Or.inr ⟨cd, r1, h0, hc, h1, h2, hs.trans h3⟩
set_option maxRecDepth 100000 in
set_option maxHeartbeats 64000000 in
theorem rone_any (D : CD) (i dp : Nat) (w0 : World) (h : Tp D w0 i) (hdp : dp ≤ 60)
    (hone : ∀ W, dp < 60 → Tp D W (i + 1) → (rd D.ts (i + 1)).length < (rd D.ts i).length → Calls Tryd.prog 49 #[.agg #[.slice D.A D.n D.c, .int .i64 ((i : Int) + 1 : Int), .slice D.V D.m D.d, .bool D.known], .int .i64 ((dp : Int) + 1)] W (RPPost D (parsF D.kn .one (60 - (dp + 1)) (rd D.ts (i + 1))) (i + 1) W))
    (hcond : ∀ W, dp < 60 → Tp D W (i + 1) → (rd D.ts (i + 1)).length < (rd D.ts i).length → Calls Tryd.prog 10 #[.agg #[.slice D.A D.n D.c, .int .i64 ((i : Int) + 1 : Int), .slice D.V D.m D.d, .bool D.known], .int .i64 ((dp : Int) + 1)] W (RPPost D (parsF D.kn .cond (60 - (dp + 1)) (rd D.ts (i + 1))) (i + 1) W)) :
    Calls Tryd.prog 49 #[.agg #[.slice D.A D.n D.c, .int .i64 (i : Int), .slice D.V D.m D.d, .bool D.known], .int .i64 (dp : Int)] w0 (RPPost D (parsF D.kn .one (60 - dp) (rd D.ts i)) i w0) := by
  have HTG := hide h
  have HF := hide h.fits
  have HTP := hide (fun j W (hb : Below w0.heap.size w0 W) (hf : j + (rd D.ts j).length ≤ 1099511627776) => (⟨h.kin.below hb, h.sin.below hb, h.good, hf⟩ : Tp D W j))
  have HIS := hide (fun s W (hb : Below w0.heap.size w0 W) => is11_any D i s W (HTP.out i W hb h.fits))
  unfold BoolW at HIS
  have HP1 := hide (parsF_one D.kn (60 - dp) (rd D.ts i))
  have HONE := hide hone
  have HCOND := hide hcond
  obtain ⟨x0, x1, x2, x3, x4⟩ := bstart3 37 37 45 w0 #[.slice D.A D.n D.c, .int .i64 (i : Int), .slice D.V D.m D.d, .bool D.known] #[.slice none 0 0, .int .i64 0, .slice none 0 0, .bool false] #[.int .i64 0, .slice none 0 0, .slice none 0 0, .int .i64 0, .string ⟨#[]⟩, .string ⟨#[]⟩, .slice none 0 0]
  have zW := Nat.lt_of_lt_of_eq (show w0.heap.size + 2 < w0.heap.size + 3 from by omega) x4.symm
  clear x4
  have T0 := hide x0
  have R0 := hide x1
  have Y0 := hide x2
  have B0 := hide x3
  have u0 := x0.cell 0 _ rfl
  have u1 := x0.cell 1 _ rfl
  have u2 := x0.cell 2 _ rfl
  have u3 := x0.cell 3 _ rfl
  obtain ⟨O, hO⟩ : ∃ O, O = parsF D.kn .one (60 - dp) (rd D.ts i) := ⟨_, rfl⟩
  rw [← hO] at HP1 ⊢
  clear h hone hcond x0 x1 x2 x3 hO
  cases hb : isT ⟨#[33]⟩ (rd D.ts i) with
  | true =>
    by_cases hl : dp = 60
    · skip
      have HO := hide (HP1.out.trans (if_pos ⟨by omega, Or.inl hb⟩))
      clear HP1
      subst hl
      go_enter Tryd.func49, Tryd.ntmps49
      go_wp2_with fail
      generalize hW0 : ((w0.alloc (.cells #[.slice D.A D.n D.c, .int .i64 (i : Int), .slice D.V D.m D.d, .bool D.known] 37)).alloc (.cells #[.slice none 0 0, .int .i64 0, .slice none 0 0, .bool false] 37)).alloc (.cells #[.int .i64 0, .slice none 0 0, .slice none 0 0, .int .i64 0, .string ⟨#[]⟩, .string ⟨#[]⟩, .slice none 0 0] 45) = W0 at *
      clear hW0
      have hq := HIS.out ⟨#[33]⟩ _ B0.out
      rw [hb] at hq
      refine hq.mono ?_
      rintro e W1 ⟨rfl, bq⟩
      have T1 := hide (T0.out.next bq)
      have R1 := hide (R0.out.next bq)
      have Y1 := hide (Y0.out.next bq)
      have B1 := hide (B0.out.next bq)
      clear T0 R0 Y0 B0
      clear u0 u1 u2 u3
      have u0 := T1.out.cell 0 _ rfl
      have u1 := T1.out.cell 1 _ rfl
      have u2 := T1.out.cell 2 _ rfl
      have u3 := T1.out.cell 3 _ rfl
      clear bq hq
      have xR := R1.out
      have xY := Y1.out
      have BB := hide B1.out
      have HPP := hide (fun w9 hb9 => RPPost.err (c := 102) (w := w0) (w' := w9) HO.out (by decide) (Stands.refl D i) hb9)
      have hryy : (w0.heap.size + 1 + 1) ≠ (w0.heap.size + 1) := by omega
      go_wp2_with (first
        | ((with_reducible refine wpList_store_box rfl 37 _ _ rfl (w0.heap.size + 1) #[.slice D.A D.n D.c, .int .i64 (i : Int), .slice D.V D.m D.d, .bool D.known] rfl rfl _ xR (by kernel_rfl) rfl (by simp [Value.oneCell']) ?_); intro w8 k8 ho8; have yY := Box.other xY ho8 hryy)
        | ((with_reducible refine wpList_store_box rfl 45 _ _ rfl (w0.heap.size + 1 + 1) #[.int .i64 0, .slice none 0 0, .slice none 0 0, .int .i64 0, .string ⟨#[]⟩, .string ⟨#[]⟩, .slice none 0 0] rfl rfl _ yY (by kernel_rfl) rfl (by simp [Value.oneCell']) ?_); intro w9 k9 ho9))
      refine bodyPost_tt rfl rfl rfl rfl (k8.other ho9 (by omega)) k9 rfl ?_
      have hb9 := (BB.out.trans (ho8.below BB.out.size (by omega))).trans (ho9.below (BB.out.trans (ho8.below BB.out.size (by omega))).size (by omega))
      exact HPP.out _ hb9
    · have g60 : ((dp : Int) == 60) = false := by simp; omega
      have hT1 := isT_other (b := ⟨#[116, 114, 117, 101]⟩) hb (by decide +kernel)
      have hT2 := isT_other (b := ⟨#[102, 97, 108, 115, 101]⟩) hb (by decide +kernel)
      have HO := hide (HP1.out.trans ((if_neg (fun hh => absurd hh.1 (by omega))).trans (if_pos hb)))
      have hst := isT_step HTG.out.good.ends hb
      rw [← hst.1] at HO
      have hl1 := hst.2.1
      have HST := hide (show Stands D i (rd D.ts (i + 1)) (i + 1) from ⟨rfl, by omega⟩)
      have HF2 := hide (show i + 1 + (rd D.ts (i + 1)).length ≤ 1099511627776 from by have := HF.out; omega)
      clear hst HP1
      go_enter Tryd.func49, Tryd.ntmps49
      go_wp2_with fail
      generalize hW0 : ((w0.alloc (.cells #[.slice D.A D.n D.c, .int .i64 (i : Int), .slice D.V D.m D.d, .bool D.known] 37)).alloc (.cells #[.slice none 0 0, .int .i64 0, .slice none 0 0, .bool false] 37)).alloc (.cells #[.int .i64 0, .slice none 0 0, .slice none 0 0, .int .i64 0, .string ⟨#[]⟩, .string ⟨#[]⟩, .slice none 0 0] 45) = W0 at *
      clear hW0
      have hq := HIS.out ⟨#[33]⟩ _ B0.out
      rw [hb] at hq
      refine hq.mono ?_
      rintro e W1 ⟨rfl, bq⟩
      have T1 := hide (T0.out.next bq)
      have R1 := hide (R0.out.next bq)
      have Y1 := hide (Y0.out.next bq)
      have B1 := hide (B0.out.next bq)
      clear T0 R0 Y0 B0
      clear u0 u1 u2 u3
      have u0 := T1.out.cell 0 _ rfl
      have u1 := T1.out.cell 1 _ rfl
      have u2 := T1.out.cell 2 _ rfl
      have u3 := T1.out.cell 3 _ rfl
      clear bq hq
      go_wp2_with fail
      have hq := HIS.out ⟨#[116, 114, 117, 101]⟩ _ B1.out
      rw [hT1] at hq
      refine hq.mono ?_
      rintro e W2 ⟨rfl, bq⟩
      have T2 := hide (T1.out.next bq)
      have R2 := hide (R1.out.next bq)
      have Y2 := hide (Y1.out.next bq)
      have B2 := hide (B1.out.next bq)
      clear T1 R1 Y1 B1
      clear u0 u1 u2 u3
      have u0 := T2.out.cell 0 _ rfl
      have u1 := T2.out.cell 1 _ rfl
      have u2 := T2.out.cell 2 _ rfl
      have u3 := T2.out.cell 3 _ rfl
      clear bq hq
      go_wp2_with fail
      have hq := HIS.out ⟨#[102, 97, 108, 115, 101]⟩ _ B2.out
      rw [hT2] at hq
      refine hq.mono ?_
      rintro e W3 ⟨rfl, bq⟩
      have T3 := hide (T2.out.next bq)
      have R3 := hide (R2.out.next bq)
      have Y3 := hide (Y2.out.next bq)
      have B3 := hide (B2.out.next bq)
      clear T2 R2 Y2 B2
      clear u0 u1 u2 u3
      have u0 := T3.out.cell 0 _ rfl
      have u1 := T3.out.cell 1 _ rfl
      have u2 := T3.out.cell 2 _ rfl
      have u3 := T3.out.cell 3 _ rfl
      clear bq hq
      go_wp2_with fail
      have hq := HIS.out ⟨#[33]⟩ _ B3.out
      rw [hb] at hq
      refine hq.mono ?_
      rintro e W4 ⟨rfl, bq⟩
      have T4 := hide (T3.out.next bq)
      have R4 := hide (R3.out.next bq)
      have Y4 := hide (Y3.out.next bq)
      have B4 := hide (B3.out.next bq)
      clear T3 R3 Y3 B3
      clear u0 u1 u2 u3
      have u0 := T4.out.cell 0 _ rfl
      have u1 := T4.out.cell 1 _ rfl
      have u2 := T4.out.cell 2 _ rfl
      have u3 := T4.out.cell 3 _ rfl
      clear bq hq
      go_wp2_with fail
      have hq := on_any D i W4 (by have := HF.out; omega)
      unfold OnPost at hq
      refine hq.mono ?_
      rintro e W5 ⟨rfl, bq⟩
      have T5 := hide (T4.out.next bq)
      have R5 := hide (R4.out.next bq)
      have Y5 := hide (Y4.out.next bq)
      have B5 := hide (B4.out.next bq)
      clear T4 R4 Y4 B4
      clear u0 u1 u2 u3
      have u0 := T5.out.cell 0 _ rfl
      have u1 := T5.out.cell 1 _ rfl
      have u2 := T5.out.cell 2 _ rfl
      have u3 := T5.out.cell 3 _ rfl
      clear bq hq
      go_wp2_with fail
      have hq := HONE.out W5 (by omega) (HTP.out (i + 1) _ B5.out HF2.out) (by omega)
      unfold RPPost at hq
      refine hq.mono ?_
      rintro e Wz ⟨i5, code, kd, Al, nl, cl, Ar, nr, cr, op, p, q, A, n, c, rfl, bq, hor⟩
      have hyl := Y5.out.lt
      have hsz2 := bq.size
      have Rz := hide (R5.out.next bq)
      have Yz := hide (Y5.out.next bq)
      have Bz := hide (B5.out.next bq)
      clear hq bq u0 u1 u2 u3 R5 Y5 B5 T5
      obtain ⟨n9, n10, nb, nz⟩ := bstart2 37 45 Wz #[.slice D.A D.n D.c, .int .i64 (i5 : Int), .slice D.V D.m D.d, .bool D.known] #[.int .i64 kd, .slice Al nl cl, .slice Ar nr cr, .int .i64 op, .string p, .string q, .slice A n c]
      have zV := Nat.lt_of_lt_of_eq (show Wz.heap.size + 1 < Wz.heap.size + 2 from by omega) nz.symm
      clear nz
      have xR := Rz.out.next nb
      have xY := Yz.out.next nb
      have BB := hide (Bz.out.next nb)
      rcases hor with ⟨h0, t, r1, h1, hT, h3⟩ | ⟨cd, r1, h0, hcd, h1, -, h3⟩
      · skip
        subst h0
        have TI := hide (hT.keep (S := From W5.heap.size) (Keep.of_below nb))
        have HO2 := hide (HO.out.trans (congrArg (fun z => bind z _) h1))
        go_upto_region 11 with fail
        generalize hV : (Wz.alloc (.cells #[.slice D.A D.n D.c, .int .i64 (i5 : Int), .slice D.V D.m D.d, .bool D.known] 37)).alloc (.cells #[.int .i64 kd, .slice Al nl cl, .slice Ar nr cr, .int .i64 op, .string p, .string q, .slice A n c] 45) = V at *
        clear hV
        have v0 := n9.cell 0 _ rfl
        have v1 := n9.cell 1 _ rfl
        have v2 := n9.cell 2 _ rfl
        have v3 := n9.cell 3 _ rfl
        have l0 := n10.cell 0 _ rfl
        have l1 := n10.cell 1 _ rfl
        have l2 := n10.cell 2 _ rfl
        have l3 := n10.cell 3 _ rfl
        have l4 := n10.cell 4 _ rfl
        have l5 := n10.cell 5 _ rfl
        have l6 := n10.cell 6 _ rfl
        have hg9 := n9.lt
        have hg10 := n10.lt
        have SOF := hide (show ∀ W, K2 (w0.heap.size + 1) (w0.heap.size + 1 + 1) V W → (W.cell? ⟨Wz.heap.size, 0, none⟩ = some (.slice D.A D.n D.c) ∧ W.cell? ⟨Wz.heap.size, 1, none⟩ = some (.int .i64 (i5 : Int)) ∧ W.cell? ⟨Wz.heap.size, 2, none⟩ = some (.slice D.V D.m D.d) ∧ W.cell? ⟨Wz.heap.size, 3, none⟩ = some (.bool D.known) ∧ W.cell? ⟨Wz.heap.size + 1, 0, none⟩ = some (.int .i64 kd) ∧ W.cell? ⟨Wz.heap.size + 1, 1, none⟩ = some (.slice Al nl cl) ∧ W.cell? ⟨Wz.heap.size + 1, 2, none⟩ = some (.slice Ar nr cr) ∧ W.cell? ⟨Wz.heap.size + 1, 3, none⟩ = some (.int .i64 op) ∧ W.cell? ⟨Wz.heap.size + 1, 4, none⟩ = some (.string p) ∧ W.cell? ⟨Wz.heap.size + 1, 5, none⟩ = some (.string q) ∧ W.cell? ⟨Wz.heap.size + 1, 6, none⟩ = some (.slice A n c)) from fun W h => ⟨(h.cell hg9 (by omega) (by omega)).trans v0, (h.cell hg9 (by omega) (by omega)).trans v1, (h.cell hg9 (by omega) (by omega)).trans v2, (h.cell hg9 (by omega) (by omega)).trans v3, (h.cell hg10 (by omega) (by omega)).trans l0, (h.cell hg10 (by omega) (by omega)).trans l1, (h.cell hg10 (by omega) (by omega)).trans l2, (h.cell hg10 (by omega) (by omega)).trans l3, (h.cell hg10 (by omega) (by omega)).trans l4, (h.cell hg10 (by omega) (by omega)).trans l5, (h.cell hg10 (by omega) (by omega)).trans l6⟩)
        clear v0 v1 v2 v3 l0 l1 l2 l3 l4 l5 l6
        refine wp_drawn (by kernel_rfl) (by kernel_rfl) (by kernel_rfl) (K2 (w0.heap.size + 1) (w0.heap.size + 1 + 1)) (fun j v w => match j with | 0 => v = .agg #[.slice D.A D.n D.c, .int .i64 (i5 : Int), .slice D.V D.m D.d, .bool D.known] | 1 => v = .agg #[.int .i64 kd, .slice Al nl cl, .slice Ar nr cr, .int .i64 op, .string p, .string q, .slice A n c] | 2 => v = .slice (some ⟨V.heap.size, 0, none⟩) 1 1 ∧ Box 45 w V.heap.size #[.int .i64 kd, .slice Al nl cl, .slice Ar nr cr, .int .i64 op, .string p, .string q, .slice A n c] | 3 => v = .agg #[.int .i64 3, .slice none 0 0, .slice none 0 0, .int .i64 0, .string ⟨#[]⟩, .string ⟨#[]⟩, .slice (some ⟨V.heap.size, 0, none⟩) 1 1] | 4 => True | 5 => True | 6 => v = .int .i64 0 | _ => True) (G2 V (w0.heap.size + 1) 4 37 #[.slice D.A D.n D.c, .int .i64 (i5 : Int), .slice D.V D.m D.d, .bool D.known] (w0.heap.size + 1 + 1) 5 45 #[.int .i64 3, .slice none 0 0, .slice none 0 0, .int .i64 0, .string ⟨#[]⟩, .string ⟨#[]⟩, .slice (some ⟨V.heap.size, 0, none⟩) 1 1] 2) ?_ (fun _ => G2.start ((xR).drew) rfl ((xY).drew) rfl (bl_drewN V 1) rfl (by decide)) ?_ ?_
        · intro j v w w' hT h
          match j, h with
          | 0, h => exact h
          | 1, h => exact h
          | 2, h => exact ⟨h.1, hT.box h.2 (by omega) (by omega)⟩
          | 3, h => exact h
          | 4, h => trivial
          | 5, h => trivial
          | 6, h => exact h
          | j + 7, h => trivial
        · refine ⟨?_, ?_, ?_, ?_, ?_, ?_, ?_, trivial⟩
          · intro listed σ w a hin hout hl hc hp hG hF
            refine Guarded.none rfl ?_
            have e7 : a.tmps.getD 7 undef = .pointer (some ⟨Wz.heap.size, 0, none⟩) := hout 7 (outB_spec (by kernel_rfl))
            have CC := SOF.out w hG.k; obtain ⟨C0, C1, C2, C3, D0, D1, D2, D3, D4, D5, D6⟩ := CC
            refine Does.val (.agg #[.slice D.A D.n D.c, .int .i64 (i5 : Int), .slice D.V D.m D.d, .bool D.known]) (w' := w) ?_ ⟨K2.refl _ _ _, rfl, hG.next (Below.refl _ _) (by decide) (by decide) (Or.inr rfl)⟩
            go_simp
          · intro listed σ w a hin hout hl hc hp hG hF
            refine Guarded.none rfl ?_
            have e8 : a.tmps.getD 8 undef = .pointer (some ⟨Wz.heap.size + 1, 0, none⟩) := hout 8 (outB_spec (by kernel_rfl))
            have CC := SOF.out w hG.k; obtain ⟨C0, C1, C2, C3, D0, D1, D2, D3, D4, D5, D6⟩ := CC
            refine Does.val (.agg #[.int .i64 kd, .slice Al nl cl, .slice Ar nr cr, .int .i64 op, .string p, .string q, .slice A n c]) (w' := w) ?_ ⟨K2.refl _ _ _, rfl, hG.next (Below.refl _ _) (by decide) (by decide) (Or.inr rfl)⟩
            go_simp
          · intro listed σ w a hin hout hl hc hp hG hF
            refine Guarded.none rfl ?_
            have e52 : a.tmps.getD 52 undef = .agg #[.int .i64 kd, .slice Al nl cl, .slice Ar nr cr, .int .i64 op, .string p, .string q, .slice A n c] := (hin 1 52 rfl (hp ⟨1, .data⟩ (by simp) rfl)).trans (hF 1 (hp ⟨1, .data⟩ (by simp) rfl))
            have hz := hG.sz hl
            refine Does.val (.slice (some ⟨w.heap.size, 0, none⟩) 1 1) (w' := w.alloc (.cells #[.int .i64 kd, .slice Al nl cl, .slice Ar nr cr, .int .i64 op, .string p, .string q, .slice A n c] 45)) ?_ ⟨K2.of_below (bl_alloc w _), ⟨by rw [hz], by rw [← hz]; exact Box.new _ _ _⟩, hG.next (bl_alloc w _) (by decide) (by decide) (Or.inl rfl)⟩
            simp only [Array.getD_eq_getD_getElem?] at e52
            go_simp
          · intro listed σ w a hin hout hl hc hp hG hF
            refine Guarded.none rfl ?_
            have e53 := hin 2 53 rfl (hp ⟨2, .data⟩ (by simp) rfl)
            obtain ⟨ev2, g2⟩ := hF 2 (hp ⟨2, .data⟩ (by simp) rfl)
            rw [ev2] at e53
            refine Does.val (.agg #[.int .i64 3, .slice none 0 0, .slice none 0 0, .int .i64 0, .string ⟨#[]⟩, .string ⟨#[]⟩, .slice (some ⟨V.heap.size, 0, none⟩) 1 1]) (w' := w) ?_ ⟨K2.refl _ _ _, rfl, hG.next (Below.refl _ _) (by decide) (by decide) (Or.inr rfl)⟩
            simp only [Array.getD_eq_getD_getElem?] at e53
            go_simp
          · intro listed σ w a hin hout hl hc hp hG hF
            refine Guarded.none rfl ?_
            have e4 : a.tmps.getD 4 undef = .pointer (some ⟨w0.heap.size + 1, 0, none⟩) := hout 4 (outB_spec (by kernel_rfl))
            have e51 : a.tmps.getD 51 undef = .agg #[.slice D.A D.n D.c, .int .i64 (i5 : Int), .slice D.V D.m D.d, .bool D.known] := (hin 0 51 rfl (hp ⟨0, .data⟩ (by simp) rfl)).trans (hF 0 (hp ⟨0, .data⟩ (by simp) rfl))
            obtain ⟨cc, zz, bb, -⟩ := hG.b1
            refine Does.store_boxE (T := 37) (cells := #[.slice D.A D.n D.c, .int .i64 (i5 : Int), .slice D.V D.m D.d, .bool D.known]) rfl e4 e51 bb (by kernel_rfl) zz (by simp [Value.oneCell']) (fun w2 x9 o9 z9 => ?_)
            have q9 := G2.st1 (τ := upd σ 4 undef) hG (by omega) (by decide) (by decide) x9 o9 z9
            exact ⟨q9.1, trivial, q9.2⟩
          · intro listed σ w a hin hout hl hc hp hG hF
            refine Guarded.none rfl ?_
            have e5 : a.tmps.getD 5 undef = .pointer (some ⟨w0.heap.size + 1 + 1, 0, none⟩) := hout 5 (outB_spec (by kernel_rfl))
            have e54 : a.tmps.getD 54 undef = .agg #[.int .i64 3, .slice none 0 0, .slice none 0 0, .int .i64 0, .string ⟨#[]⟩, .string ⟨#[]⟩, .slice (some ⟨V.heap.size, 0, none⟩) 1 1] := (hin 3 54 rfl (hp ⟨3, .data⟩ (by simp) rfl)).trans (hF 3 (hp ⟨3, .data⟩ (by simp) rfl))
            obtain ⟨cc, zz, bb, -⟩ := hG.b2
            refine Does.store_boxE (T := 45) (cells := #[.int .i64 3, .slice none 0 0, .slice none 0 0, .int .i64 0, .string ⟨#[]⟩, .string ⟨#[]⟩, .slice (some ⟨V.heap.size, 0, none⟩) 1 1]) rfl e5 e54 bb (by kernel_rfl) zz (by simp [Value.oneCell']) (fun w2 x9 o9 z9 => ?_)
            have q9 := G2.st2 (τ := upd σ 5 undef) hG (by omega) (by decide) (by decide) x9 o9 z9
            exact ⟨q9.1, trivial, q9.2⟩
          · intro listed σ w a hin hout hl hc hp hG hF
            refine Guarded.none rfl ?_
            refine Does.val (.int .i64 0) (w' := w) ?_ ⟨K2.refl _ _ _, rfl, hG.next (Below.refl _ _) (by decide) (by decide) (Or.inr rfl)⟩
            go_simp
        · intro listed σ W9 hall hG hF
          rw [show mid _ σ listed _ = (Act.put (Act.put (Act.put (Act.put (Act.put (Act.put (Act.put _ (some 51) (σ 0)) (some 52) (σ 1)) (some 53) (σ 2)) (some 54) (σ 3)) none (σ 4)) none (σ 5)) (some 6) (σ 6)) from (mid_all hall).trans rfl]
          generalize σ 0 = tt0 at *
          generalize σ 1 = tt1 at *
          generalize σ 2 = tt2 at *
          generalize σ 3 = tt3 at *
          rw [show σ 6 = .int .i64 0 from hF 6 (by decide)]
          simp only [Act.put, List.setIfInBounds_toArray, List.set_cons_zero, List.set_cons_succ]
          have TK := hG.k
          obtain ⟨c91, -, X9, E9⟩ := hG.b1
          have E9 := E9 (hall 4 (by decide))
          subst E9
          obtain ⟨c92, -, Y9, E9⟩ := hG.b2
          have E9 := E9 (hall 5 (by decide))
          subst E9
          have G9 := (hF 2 (by decide)).2
          clear hF hG hall

          have hb9 := BB.out.trans (TK.below BB.out.size (by omega) (by omega))
          have HST5 := hide (HST.out.trans h3)
          have TI9 := TI.out.keep (TK.keep (fun hh => by unfold From at hh; omega) (fun hh => by unfold From at hh; omega))
          have HPP := hide (RPPost.ok (vs := #[.int .i64 3, .slice none 0 0, .slice none 0 0, .int .i64 0, .string ⟨#[]⟩, .string ⟨#[]⟩, .slice (some ⟨V.heap.size, 0, none⟩) 1 1]) (i' := i5) (t := .deny t) HO2.out (TIn.kids (T := 45) 3 [gt t] [[.int .i64 kd, .slice Al nl cl, .slice Ar nr cr, .int .i64 op, .string p, .string q, .slice A n c]] rfl (by unfold From; omega) G9 (fun j x hx => by match j, hx with | 0, hx => (injection hx with hx; subst hx; exact ⟨_, rfl, TI9.mono (by omega)⟩) | j + 1, hx => simp at hx) (by simp)) HST5.out hb9)
          clear SOF TK hb9 TI9 G9
          go_wp2_with fail
          refine bodyPost_tt rfl rfl rfl rfl X9 Y9 rfl ?_
          exact HPP.out
      · skip
        subst h0
        have gc := err_ne hcd
        have gc2 := err_ne2 hcd
        have HPP := hide (fun w9 hb9 => RPPost.err (w := w0) (w' := w9) (i' := i5) (HO.out.trans (congrArg (fun z => bind z _) h1)) hcd (HST.out.trans h3) hb9)
        clear h1 h3 hcd
        have v0 := n9.cell 0 _ rfl
        have v1 := n9.cell 1 _ rfl
        have v2 := n9.cell 2 _ rfl
        have v3 := n9.cell 3 _ rfl
        clear n9 n10
        have hryy : (w0.heap.size + 1 + 1) ≠ (w0.heap.size + 1) := by omega
        go_wp2_with (first
          | ((with_reducible refine wpList_store_box rfl 37 _ _ rfl (w0.heap.size + 1) #[.slice D.A D.n D.c, .int .i64 (i5 : Int), .slice D.V D.m D.d, .bool D.known] rfl rfl _ xR (by kernel_rfl) rfl (by simp [Value.oneCell']) ?_); intro w8 k8 ho8; have yY := Box.other xY ho8 hryy)
          | ((with_reducible refine wpList_store_box rfl 45 _ _ rfl (w0.heap.size + 1 + 1) #[.int .i64 0, .slice none 0 0, .slice none 0 0, .int .i64 0, .string ⟨#[]⟩, .string ⟨#[]⟩, .slice none 0 0] rfl rfl _ yY (by kernel_rfl) rfl (by simp [Value.oneCell']) ?_); intro w9 k9 ho9))
        refine bodyPost_tt rfl rfl rfl rfl (k8.other ho9 (by omega)) k9 rfl ?_
        have hb9 := (BB.out.trans (ho8.below BB.out.size (by omega))).trans (ho9.below (BB.out.trans (ho8.below BB.out.size (by omega))).size (by omega))
        exact HPP.out _ hb9
  | false =>
    cases hp : isT ⟨#[40]⟩ (rd D.ts i) with
    | true =>
      by_cases hl : dp = 60
      · skip
        have HO := hide (HP1.out.trans (if_pos ⟨by omega, Or.inr hp⟩))
        clear HP1
        subst hl
        go_enter Tryd.func49, Tryd.ntmps49
        go_wp2_with fail
        generalize hW0 : ((w0.alloc (.cells #[.slice D.A D.n D.c, .int .i64 (i : Int), .slice D.V D.m D.d, .bool D.known] 37)).alloc (.cells #[.slice none 0 0, .int .i64 0, .slice none 0 0, .bool false] 37)).alloc (.cells #[.int .i64 0, .slice none 0 0, .slice none 0 0, .int .i64 0, .string ⟨#[]⟩, .string ⟨#[]⟩, .slice none 0 0] 45) = W0 at *
        clear hW0
        have hq := HIS.out ⟨#[33]⟩ _ B0.out
        rw [hb] at hq
        refine hq.mono ?_
        rintro e W1 ⟨rfl, bq⟩
        have T1 := hide (T0.out.next bq)
        have R1 := hide (R0.out.next bq)
        have Y1 := hide (Y0.out.next bq)
        have B1 := hide (B0.out.next bq)
        clear T0 R0 Y0 B0
        clear u0 u1 u2 u3
        have u0 := T1.out.cell 0 _ rfl
        have u1 := T1.out.cell 1 _ rfl
        have u2 := T1.out.cell 2 _ rfl
        have u3 := T1.out.cell 3 _ rfl
        clear bq hq
        go_wp2_with fail
        have hq := HIS.out ⟨#[40]⟩ _ B1.out
        rw [hp] at hq
        refine hq.mono ?_
        rintro e W2 ⟨rfl, bq⟩
        have T2 := hide (T1.out.next bq)
        have R2 := hide (R1.out.next bq)
        have Y2 := hide (Y1.out.next bq)
        have B2 := hide (B1.out.next bq)
        clear T1 R1 Y1 B1
        clear u0 u1 u2 u3
        have u0 := T2.out.cell 0 _ rfl
        have u1 := T2.out.cell 1 _ rfl
        have u2 := T2.out.cell 2 _ rfl
        have u3 := T2.out.cell 3 _ rfl
        clear bq hq
        have xR := R2.out
        have xY := Y2.out
        have BB := hide B2.out
        have HPP := hide (fun w9 hb9 => RPPost.err (c := 102) (w := w0) (w' := w9) HO.out (by decide) (Stands.refl D i) hb9)
        have hryy : (w0.heap.size + 1 + 1) ≠ (w0.heap.size + 1) := by omega
        go_wp2_with (first
          | ((with_reducible refine wpList_store_box rfl 37 _ _ rfl (w0.heap.size + 1) #[.slice D.A D.n D.c, .int .i64 (i : Int), .slice D.V D.m D.d, .bool D.known] rfl rfl _ xR (by kernel_rfl) rfl (by simp [Value.oneCell']) ?_); intro w8 k8 ho8; have yY := Box.other xY ho8 hryy)
          | ((with_reducible refine wpList_store_box rfl 45 _ _ rfl (w0.heap.size + 1 + 1) #[.int .i64 0, .slice none 0 0, .slice none 0 0, .int .i64 0, .string ⟨#[]⟩, .string ⟨#[]⟩, .slice none 0 0] rfl rfl _ yY (by kernel_rfl) rfl (by simp [Value.oneCell']) ?_); intro w9 k9 ho9))
        refine bodyPost_tt rfl rfl rfl rfl (k8.other ho9 (by omega)) k9 rfl ?_
        have hb9 := (BB.out.trans (ho8.below BB.out.size (by omega))).trans (ho9.below (BB.out.trans (ho8.below BB.out.size (by omega))).size (by omega))
        exact HPP.out _ hb9
      · have g60 : ((dp : Int) == 60) = false := by simp; omega
        have hT1 := isT_other (b := ⟨#[116, 114, 117, 101]⟩) hp (by decide +kernel)
        have hT2 := isT_other (b := ⟨#[102, 97, 108, 115, 101]⟩) hp (by decide +kernel)
        have HO := hide (HP1.out.trans ((if_neg (fun hh => absurd hh.1 (by omega))).trans ((if_neg (by rw [hb]; decide)).trans (if_pos hp))))
        have hst := isT_step HTG.out.good.ends hp
        rw [← hst.1] at HO
        have hl1 := hst.2.1
        have HST := hide (show Stands D i (rd D.ts (i + 1)) (i + 1) from ⟨rfl, by omega⟩)
        have HF2 := hide (show i + 1 + (rd D.ts (i + 1)).length ≤ 1099511627776 from by have := HF.out; omega)
        clear hst HP1
        go_enter Tryd.func49, Tryd.ntmps49
        go_wp2_with fail
        generalize hW0 : ((w0.alloc (.cells #[.slice D.A D.n D.c, .int .i64 (i : Int), .slice D.V D.m D.d, .bool D.known] 37)).alloc (.cells #[.slice none 0 0, .int .i64 0, .slice none 0 0, .bool false] 37)).alloc (.cells #[.int .i64 0, .slice none 0 0, .slice none 0 0, .int .i64 0, .string ⟨#[]⟩, .string ⟨#[]⟩, .slice none 0 0] 45) = W0 at *
        clear hW0
        have hq := HIS.out ⟨#[33]⟩ _ B0.out
        rw [hb] at hq
        refine hq.mono ?_
        rintro e W1 ⟨rfl, bq⟩
        have T1 := hide (T0.out.next bq)
        have R1 := hide (R0.out.next bq)
        have Y1 := hide (Y0.out.next bq)
        have B1 := hide (B0.out.next bq)
        clear T0 R0 Y0 B0
        clear u0 u1 u2 u3
        have u0 := T1.out.cell 0 _ rfl
        have u1 := T1.out.cell 1 _ rfl
        have u2 := T1.out.cell 2 _ rfl
        have u3 := T1.out.cell 3 _ rfl
        clear bq hq
        go_wp2_with fail
        have hq := HIS.out ⟨#[40]⟩ _ B1.out
        rw [hp] at hq
        refine hq.mono ?_
        rintro e W2 ⟨rfl, bq⟩
        have T2 := hide (T1.out.next bq)
        have R2 := hide (R1.out.next bq)
        have Y2 := hide (Y1.out.next bq)
        have B2 := hide (B1.out.next bq)
        clear T1 R1 Y1 B1
        clear u0 u1 u2 u3
        have u0 := T2.out.cell 0 _ rfl
        have u1 := T2.out.cell 1 _ rfl
        have u2 := T2.out.cell 2 _ rfl
        have u3 := T2.out.cell 3 _ rfl
        clear bq hq
        go_wp2_with fail
        have hq := HIS.out ⟨#[116, 114, 117, 101]⟩ _ B2.out
        rw [hT1] at hq
        refine hq.mono ?_
        rintro e W3 ⟨rfl, bq⟩
        have T3 := hide (T2.out.next bq)
        have R3 := hide (R2.out.next bq)
        have Y3 := hide (Y2.out.next bq)
        have B3 := hide (B2.out.next bq)
        clear T2 R2 Y2 B2
        clear u0 u1 u2 u3
        have u0 := T3.out.cell 0 _ rfl
        have u1 := T3.out.cell 1 _ rfl
        have u2 := T3.out.cell 2 _ rfl
        have u3 := T3.out.cell 3 _ rfl
        clear bq hq
        go_wp2_with fail
        have hq := HIS.out ⟨#[102, 97, 108, 115, 101]⟩ _ B3.out
        rw [hT2] at hq
        refine hq.mono ?_
        rintro e W4 ⟨rfl, bq⟩
        have T4 := hide (T3.out.next bq)
        have R4 := hide (R3.out.next bq)
        have Y4 := hide (Y3.out.next bq)
        have B4 := hide (B3.out.next bq)
        clear T3 R3 Y3 B3
        clear u0 u1 u2 u3
        have u0 := T4.out.cell 0 _ rfl
        have u1 := T4.out.cell 1 _ rfl
        have u2 := T4.out.cell 2 _ rfl
        have u3 := T4.out.cell 3 _ rfl
        clear bq hq
        go_wp2_with fail
        have hq := HIS.out ⟨#[33]⟩ _ B4.out
        rw [hb] at hq
        refine hq.mono ?_
        rintro e W5 ⟨rfl, bq⟩
        have T5 := hide (T4.out.next bq)
        have R5 := hide (R4.out.next bq)
        have Y5 := hide (Y4.out.next bq)
        have B5 := hide (B4.out.next bq)
        clear T4 R4 Y4 B4
        clear u0 u1 u2 u3
        have u0 := T5.out.cell 0 _ rfl
        have u1 := T5.out.cell 1 _ rfl
        have u2 := T5.out.cell 2 _ rfl
        have u3 := T5.out.cell 3 _ rfl
        clear bq hq
        go_wp2_with fail
        have hq := HIS.out ⟨#[40]⟩ _ B5.out
        rw [hp] at hq
        refine hq.mono ?_
        rintro e W6 ⟨rfl, bq⟩
        have T6 := hide (T5.out.next bq)
        have R6 := hide (R5.out.next bq)
        have Y6 := hide (Y5.out.next bq)
        have B6 := hide (B5.out.next bq)
        clear T5 R5 Y5 B5
        clear u0 u1 u2 u3
        have u0 := T6.out.cell 0 _ rfl
        have u1 := T6.out.cell 1 _ rfl
        have u2 := T6.out.cell 2 _ rfl
        have u3 := T6.out.cell 3 _ rfl
        clear bq hq
        go_wp2_with fail
        have hq := on_any D i W6 (by have := HF.out; omega)
        unfold OnPost at hq
        refine hq.mono ?_
        rintro e W7 ⟨rfl, bq⟩
        have T7 := hide (T6.out.next bq)
        have R7 := hide (R6.out.next bq)
        have Y7 := hide (Y6.out.next bq)
        have B7 := hide (B6.out.next bq)
        clear T6 R6 Y6 B6
        clear u0 u1 u2 u3
        have u0 := T7.out.cell 0 _ rfl
        have u1 := T7.out.cell 1 _ rfl
        have u2 := T7.out.cell 2 _ rfl
        have u3 := T7.out.cell 3 _ rfl
        clear bq hq
        go_wp2_with fail
        have hq := HCOND.out W7 (by omega) (HTP.out (i + 1) _ B7.out HF2.out) (by omega)
        unfold RPPost at hq
        refine hq.mono ?_
        rintro e Wz ⟨i5, code, kd, Al, nl, cl, Ar, nr, cr, op, p, q, A, n, c, rfl, bq, hor⟩
        have hyl := Y7.out.lt
        have hsz2 := bq.size
        have Rz := hide (R7.out.next bq)
        have Yz := hide (Y7.out.next bq)
        have Bz := hide (B7.out.next bq)
        clear hq bq u0 u1 u2 u3 R7 Y7 B7 T7
        obtain ⟨n9, n10, nb, nz⟩ := bstart2 37 45 Wz #[.slice D.A D.n D.c, .int .i64 (i5 : Int), .slice D.V D.m D.d, .bool D.known] #[.int .i64 kd, .slice Al nl cl, .slice Ar nr cr, .int .i64 op, .string p, .string q, .slice A n c]
        have zV := Nat.lt_of_lt_of_eq (show Wz.heap.size + 1 < Wz.heap.size + 2 from by omega) nz.symm
        clear nz
        have xR := Rz.out.next nb
        have xY := Yz.out.next nb
        have BB := hide (Bz.out.next nb)
        rcases hor with ⟨h0, t, r1, h1, hT, h3⟩ | ⟨cd, r1, h0, hcd, h1, -, h3⟩
        · skip
          subst h0
          have TI := hide (hT.keep (S := From W7.heap.size) (Keep.of_below nb))
          have HO2 := hide (HO.out.trans (congrArg (fun z => bind z _) h1))
          have HF5 := hide (h3.fits HF2.out)
          have hrd := h3.1
          have HST5 := hide (HST.out.trans h3)
          go_upto_region 14 with fail
          generalize hV : (Wz.alloc (.cells #[.slice D.A D.n D.c, .int .i64 (i5 : Int), .slice D.V D.m D.d, .bool D.known] 37)).alloc (.cells #[.int .i64 kd, .slice Al nl cl, .slice Ar nr cr, .int .i64 op, .string p, .string q, .slice A n c] 45) = V at *
          clear hV
          have v0 := n9.cell 0 _ rfl
          have v1 := n9.cell 1 _ rfl
          have v2 := n9.cell 2 _ rfl
          have v3 := n9.cell 3 _ rfl
          go_wp2_with fail
          have hq := is11_any D i5 ⟨#[41]⟩ V (HTP.out i5 V BB.out HF5.out)
          unfold BoolW at hq
          rw [hrd] at hq
          cases hcl : isT ⟨#[41]⟩ r1 with
          | true =>
            rw [hcl] at hq
            have hst := isT_step HTG.out.good.ends (show isT ⟨#[41]⟩ (rd D.ts i5) = true by rw [hrd]; exact hcl)
            have HST6 := hide (show Stands D i r1.tail (i5 + 1) from HST5.out.trans' (by rw [hst.1, hrd]) (by have := hst.2.1; have e2 := hst.1; rw [hrd] at e2 this ⊢; rw [← e2]; omega))
            have HO3 := hide (HO2.out.trans (if_pos hcl))
            refine hq.mono ?_
            rintro e V2 ⟨rfl, bq⟩
            have n9b := n9.next bq
            have n10b := n10.next bq
            have xR2 := xR.next bq
            have xY2 := xY.next bq
            have BB2 := hide (BB.out.next bq)
            have TI2 := hide (TI.out.keep (Keep.of_below bq))
            have zV2 := bq.size
            clear hq bq n9 n10 xR xY BB TI v0 v1 v2 v3 hcl hst
            go_upto_region 18 with fail
            have v0 := n9b.cell 0 _ rfl
            have v1 := n9b.cell 1 _ rfl
            have v2 := n9b.cell 2 _ rfl
            have v3 := n9b.cell 3 _ rfl
            have l0 := n10b.cell 0 _ rfl
            have l1 := n10b.cell 1 _ rfl
            have l2 := n10b.cell 2 _ rfl
            have l3 := n10b.cell 3 _ rfl
            have l4 := n10b.cell 4 _ rfl
            have l5 := n10b.cell 5 _ rfl
            have l6 := n10b.cell 6 _ rfl
            have hg9 := n9b.lt
            have hg10 := n10b.lt
            have xR := xR2
            have xY := xY2
            have HON := hide (fun W => on_any D i5 W (by have := HF5.out; omega))
            unfold OnPost at HON
            have SOF := hide (show ∀ W, K2 (w0.heap.size + 1) (w0.heap.size + 1 + 1) V2 W → (W.cell? ⟨Wz.heap.size, 0, none⟩ = some (.slice D.A D.n D.c) ∧ W.cell? ⟨Wz.heap.size, 1, none⟩ = some (.int .i64 (i5 : Int)) ∧ W.cell? ⟨Wz.heap.size, 2, none⟩ = some (.slice D.V D.m D.d) ∧ W.cell? ⟨Wz.heap.size, 3, none⟩ = some (.bool D.known) ∧ W.cell? ⟨Wz.heap.size + 1, 0, none⟩ = some (.int .i64 kd) ∧ W.cell? ⟨Wz.heap.size + 1, 1, none⟩ = some (.slice Al nl cl) ∧ W.cell? ⟨Wz.heap.size + 1, 2, none⟩ = some (.slice Ar nr cr) ∧ W.cell? ⟨Wz.heap.size + 1, 3, none⟩ = some (.int .i64 op) ∧ W.cell? ⟨Wz.heap.size + 1, 4, none⟩ = some (.string p) ∧ W.cell? ⟨Wz.heap.size + 1, 5, none⟩ = some (.string q) ∧ W.cell? ⟨Wz.heap.size + 1, 6, none⟩ = some (.slice A n c)) from fun W h => ⟨(h.cell hg9 (by omega) (by omega)).trans v0, (h.cell hg9 (by omega) (by omega)).trans v1, (h.cell hg9 (by omega) (by omega)).trans v2, (h.cell hg9 (by omega) (by omega)).trans v3, (h.cell hg10 (by omega) (by omega)).trans l0, (h.cell hg10 (by omega) (by omega)).trans l1, (h.cell hg10 (by omega) (by omega)).trans l2, (h.cell hg10 (by omega) (by omega)).trans l3, (h.cell hg10 (by omega) (by omega)).trans l4, (h.cell hg10 (by omega) (by omega)).trans l5, (h.cell hg10 (by omega) (by omega)).trans l6⟩)
            clear v0 v1 v2 v3 l0 l1 l2 l3 l4 l5 l6
            refine wp_drawn (by kernel_rfl) (by kernel_rfl) (by kernel_rfl) (K2 (w0.heap.size + 1) (w0.heap.size + 1 + 1)) (fun j v w => match j with | 0 => v = .agg #[.slice D.A D.n D.c, .int .i64 (i5 : Int), .slice D.V D.m D.d, .bool D.known] | 1 => v = .agg #[.slice D.A D.n D.c, .int .i64 ((i5 : Int) + 1 : Int), .slice D.V D.m D.d, .bool D.known] | 2 => v = .agg #[.int .i64 kd, .slice Al nl cl, .slice Ar nr cr, .int .i64 op, .string p, .string q, .slice A n c] | 3 => True | 4 => True | 5 => v = .int .i64 0 | _ => True) (G2 V2 (w0.heap.size + 1) 3 37 #[.slice D.A D.n D.c, .int .i64 ((i5 : Int) + 1 : Int), .slice D.V D.m D.d, .bool D.known] (w0.heap.size + 1 + 1) 4 45 #[.int .i64 kd, .slice Al nl cl, .slice Ar nr cr, .int .i64 op, .string p, .string q, .slice A n c] 1) ?_ (fun _ => G2.start ((xR).drew) rfl ((xY).drew) rfl (bl_drewN V2 1) rfl (by decide)) ?_ ?_
            · intro j v w w' hT h
              match j, h with
              | 0, h => exact h
              | 1, h => exact h
              | 2, h => exact h
              | 3, h => trivial
              | 4, h => trivial
              | 5, h => exact h
              | j + 6, h => trivial
            · refine ⟨?_, ?_, ?_, ?_, ?_, ?_, trivial⟩
              · intro listed σ w a hin hout hl hc hp hG hF
                refine Guarded.none rfl ?_
                have e10 : a.tmps.getD 10 undef = .pointer (some ⟨Wz.heap.size, 0, none⟩) := hout 10 (outB_spec (by kernel_rfl))
                have CC := SOF.out w hG.k; obtain ⟨C0, C1, C2, C3, D0, D1, D2, D3, D4, D5, D6⟩ := CC
                refine Does.val (.agg #[.slice D.A D.n D.c, .int .i64 (i5 : Int), .slice D.V D.m D.d, .bool D.known]) (w' := w) ?_ ⟨K2.refl _ _ _, rfl, hG.next (Below.refl _ _) (by decide) (by decide) (Or.inr rfl)⟩
                go_simp
              · intro listed σ w a hin hout hl hc hp hG hF
                refine Guarded.none rfl ?_
                have e78 : a.tmps.getD 78 undef = .agg #[.slice D.A D.n D.c, .int .i64 (i5 : Int), .slice D.V D.m D.d, .bool D.known] := (hin 0 78 rfl (hp ⟨0, .data⟩ (by simp) rfl)).trans (hF 0 (hp ⟨0, .data⟩ (by simp) rfl))
                refine Does.call ?_ (HON.out w) ?_
                · go_simp
                · rintro e w' ⟨rfl, hb⟩
                  exact ⟨_, rfl, K2.of_below hb, rfl, hG.next hb (by decide) (by decide) (Or.inl rfl)⟩
              · intro listed σ w a hin hout hl hc hp hG hF
                refine Guarded.none rfl ?_
                have e11 : a.tmps.getD 11 undef = .pointer (some ⟨Wz.heap.size + 1, 0, none⟩) := hout 11 (outB_spec (by kernel_rfl))
                have CC := SOF.out w hG.k; obtain ⟨C0, C1, C2, C3, D0, D1, D2, D3, D4, D5, D6⟩ := CC
                refine Does.val (.agg #[.int .i64 kd, .slice Al nl cl, .slice Ar nr cr, .int .i64 op, .string p, .string q, .slice A n c]) (w' := w) ?_ ⟨K2.refl _ _ _, rfl, hG.next (Below.refl _ _) (by decide) (by decide) (Or.inr rfl)⟩
                go_simp
              · intro listed σ w a hin hout hl hc hp hG hF
                refine Guarded.none rfl ?_
                have e4 : a.tmps.getD 4 undef = .pointer (some ⟨w0.heap.size + 1, 0, none⟩) := hout 4 (outB_spec (by kernel_rfl))
                have e79 : a.tmps.getD 79 undef = .agg #[.slice D.A D.n D.c, .int .i64 ((i5 : Int) + 1 : Int), .slice D.V D.m D.d, .bool D.known] := (hin 1 79 rfl (hp ⟨1, .data⟩ (by simp) rfl)).trans (hF 1 (hp ⟨1, .data⟩ (by simp) rfl))
                obtain ⟨cc, zz, bb, -⟩ := hG.b1
                refine Does.store_boxE (T := 37) (cells := #[.slice D.A D.n D.c, .int .i64 ((i5 : Int) + 1 : Int), .slice D.V D.m D.d, .bool D.known]) rfl e4 e79 bb (by kernel_rfl) zz (by simp [Value.oneCell']) (fun w2 x9 o9 z9 => ?_)
                have q9 := G2.st1 (τ := upd σ 3 undef) hG (by omega) (by decide) (by decide) x9 o9 z9
                exact ⟨q9.1, trivial, q9.2⟩
              · intro listed σ w a hin hout hl hc hp hG hF
                refine Guarded.none rfl ?_
                have e5 : a.tmps.getD 5 undef = .pointer (some ⟨w0.heap.size + 1 + 1, 0, none⟩) := hout 5 (outB_spec (by kernel_rfl))
                have e80 : a.tmps.getD 80 undef = .agg #[.int .i64 kd, .slice Al nl cl, .slice Ar nr cr, .int .i64 op, .string p, .string q, .slice A n c] := (hin 2 80 rfl (hp ⟨2, .data⟩ (by simp) rfl)).trans (hF 2 (hp ⟨2, .data⟩ (by simp) rfl))
                obtain ⟨cc, zz, bb, -⟩ := hG.b2
                refine Does.store_boxE (T := 45) (cells := #[.int .i64 kd, .slice Al nl cl, .slice Ar nr cr, .int .i64 op, .string p, .string q, .slice A n c]) rfl e5 e80 bb (by kernel_rfl) zz (by simp [Value.oneCell']) (fun w2 x9 o9 z9 => ?_)
                have q9 := G2.st2 (τ := upd σ 4 undef) hG (by omega) (by decide) (by decide) x9 o9 z9
                exact ⟨q9.1, trivial, q9.2⟩
              · intro listed σ w a hin hout hl hc hp hG hF
                refine Guarded.none rfl ?_
                refine Does.val (.int .i64 0) (w' := w) ?_ ⟨K2.refl _ _ _, rfl, hG.next (Below.refl _ _) (by decide) (by decide) (Or.inr rfl)⟩
                go_simp
            · intro listed σ W9 hall hG hF
              rw [show mid _ σ listed _ = (Act.put (Act.put (Act.put (Act.put (Act.put (Act.put _ (some 78) (σ 0)) (some 79) (σ 1)) (some 80) (σ 2)) none (σ 3)) none (σ 4)) (some 6) (σ 5)) from (mid_all hall).trans rfl]
              generalize σ 0 = tt0 at *
              generalize σ 1 = tt1 at *
              generalize σ 2 = tt2 at *
              rw [show σ 5 = .int .i64 0 from hF 5 (by decide)]
              simp only [Act.put, List.setIfInBounds_toArray, List.set_cons_zero, List.set_cons_succ]
              have TK := hG.k
              obtain ⟨c91, -, X9, E9⟩ := hG.b1
              have E9 := E9 (hall 3 (by decide))
              subst E9
              obtain ⟨c92, -, Y9, E9⟩ := hG.b2
              have E9 := E9 (hall 4 (by decide))
              subst E9
              clear hF hG hall

              have hb9 := BB2.out.trans (TK.below BB2.out.size (by omega) (by omega))
              have TI9 := TI2.out.keep (TK.keep (fun hh => by unfold From at hh; omega) (fun hh => by unfold From at hh; omega))
              have HPP := hide (RPPost.ok (vs := #[.int .i64 kd, .slice Al nl cl, .slice Ar nr cr, .int .i64 op, .string p, .string q, .slice A n c]) (i' := i5 + 1) (t := t) HO3.out (TI9.mono (by omega)) HST6.out hb9)
              rw [show ((i5 + 1 : Nat) : Int) = (i5 : Int) + 1 from by omega] at HPP
              clear SOF TK hb9 TI9
              go_wp2_with fail
              refine bodyPost_tt rfl rfl rfl rfl X9 Y9 rfl ?_
              exact HPP.out
          | false =>
            rw [hcl] at hq
            have HPP := hide (fun w9 hb9 => RPPost.err (c := 101) (w := w0) (w' := w9) (i' := i5) (HO2.out.trans (if_neg (by rw [hcl]; decide))) (by decide) HST5.out hb9)
            refine hq.mono ?_
            rintro e V2 ⟨rfl, bq⟩
            have n9b := n9.next bq
            have xR2 := xR.next bq
            have xY2 := xY.next bq
            have BB2 := hide (BB.out.next bq)
            have zV2 := bq.size
            clear hq bq n9 n10 xR xY BB v0 v1 v2 v3 hcl
            have xR := xR2
            have xY := xY2
            have BB := BB2
            have v0 := n9b.cell 0 _ rfl
            have v1 := n9b.cell 1 _ rfl
            have v2 := n9b.cell 2 _ rfl
            have v3 := n9b.cell 3 _ rfl
            have hryy : (w0.heap.size + 1 + 1) ≠ (w0.heap.size + 1) := by omega
            go_wp2_with (first
              | ((with_reducible refine wpList_store_box rfl 37 _ _ rfl (w0.heap.size + 1) #[.slice D.A D.n D.c, .int .i64 (i5 : Int), .slice D.V D.m D.d, .bool D.known] rfl rfl _ xR (by kernel_rfl) rfl (by simp [Value.oneCell']) ?_); intro w8 k8 ho8; have yY := Box.other xY ho8 hryy)
              | ((with_reducible refine wpList_store_box rfl 45 _ _ rfl (w0.heap.size + 1 + 1) #[.int .i64 0, .slice none 0 0, .slice none 0 0, .int .i64 0, .string ⟨#[]⟩, .string ⟨#[]⟩, .slice none 0 0] rfl rfl _ yY (by kernel_rfl) rfl (by simp [Value.oneCell']) ?_); intro w9 k9 ho9))
            refine bodyPost_tt rfl rfl rfl rfl (k8.other ho9 (by omega)) k9 rfl ?_
            have hb9 := (BB.out.trans (ho8.below BB.out.size (by omega))).trans (ho9.below (BB.out.trans (ho8.below BB.out.size (by omega))).size (by omega))
            exact HPP.out _ hb9
        · skip
          subst h0
          have gc := err_ne hcd
          have gc2 := err_ne2 hcd
          have HPP := hide (fun w9 hb9 => RPPost.err (w := w0) (w' := w9) (i' := i5) (HO.out.trans (congrArg (fun z => bind z _) h1)) hcd (HST.out.trans h3) hb9)
          clear h1 h3 hcd
          have v0 := n9.cell 0 _ rfl
          have v1 := n9.cell 1 _ rfl
          have v2 := n9.cell 2 _ rfl
          have v3 := n9.cell 3 _ rfl
          clear n9 n10
          have hryy : (w0.heap.size + 1 + 1) ≠ (w0.heap.size + 1) := by omega
          go_wp2_with (first
            | ((with_reducible refine wpList_store_box rfl 37 _ _ rfl (w0.heap.size + 1) #[.slice D.A D.n D.c, .int .i64 (i5 : Int), .slice D.V D.m D.d, .bool D.known] rfl rfl _ xR (by kernel_rfl) rfl (by simp [Value.oneCell']) ?_); intro w8 k8 ho8; have yY := Box.other xY ho8 hryy)
            | ((with_reducible refine wpList_store_box rfl 45 _ _ rfl (w0.heap.size + 1 + 1) #[.int .i64 0, .slice none 0 0, .slice none 0 0, .int .i64 0, .string ⟨#[]⟩, .string ⟨#[]⟩, .slice none 0 0] rfl rfl _ yY (by kernel_rfl) rfl (by simp [Value.oneCell']) ?_); intro w9 k9 ho9))
          refine bodyPost_tt rfl rfl rfl rfl (k8.other ho9 (by omega)) k9 rfl ?_
          have hb9 := (BB.out.trans (ho8.below BB.out.size (by omega))).trans (ho9.below (BB.out.trans (ho8.below BB.out.size (by omega))).size (by omega))
          exact HPP.out _ hb9
    | false =>
      cases ht : isT ⟨#[116, 114, 117, 101]⟩ (rd D.ts i) with
      | true =>
        have hno : ¬ (60 - dp = 0 ∧ (isT ⟨#[33]⟩ (rd D.ts i) = true ∨ isT ⟨#[40]⟩ (rd D.ts i) = true)) := fun hh => by rw [hb, hp] at hh; simp at hh
        have HO := hide (HP1.out.trans ((if_neg hno).trans ((if_neg (by rw [hb]; decide)).trans ((if_neg (by rw [hp]; decide)).trans (if_pos ht)))))
        clear hno HP1
        have hst := isT_step HTG.out.good.ends ht
        rw [← hst.1] at HO
        have hl1 := hst.2.1
        have HST := hide (show Stands D i (rd D.ts (i + 1)) (i + 1) from ⟨rfl, by omega⟩)
        clear hst
        go_enter Tryd.func49, Tryd.ntmps49
        go_wp2_with fail
        generalize hW0 : ((w0.alloc (.cells #[.slice D.A D.n D.c, .int .i64 (i : Int), .slice D.V D.m D.d, .bool D.known] 37)).alloc (.cells #[.slice none 0 0, .int .i64 0, .slice none 0 0, .bool false] 37)).alloc (.cells #[.int .i64 0, .slice none 0 0, .slice none 0 0, .int .i64 0, .string ⟨#[]⟩, .string ⟨#[]⟩, .slice none 0 0] 45) = W0 at *
        clear hW0
        have hq := HIS.out ⟨#[33]⟩ _ B0.out
        rw [hb] at hq
        refine hq.mono ?_
        rintro e W1 ⟨rfl, bq⟩
        have T1 := hide (T0.out.next bq)
        have R1 := hide (R0.out.next bq)
        have Y1 := hide (Y0.out.next bq)
        have B1 := hide (B0.out.next bq)
        clear T0 R0 Y0 B0
        clear u0 u1 u2 u3
        have u0 := T1.out.cell 0 _ rfl
        have u1 := T1.out.cell 1 _ rfl
        have u2 := T1.out.cell 2 _ rfl
        have u3 := T1.out.cell 3 _ rfl
        clear bq hq
        go_wp2_with fail
        have hq := HIS.out ⟨#[40]⟩ _ B1.out
        rw [hp] at hq
        refine hq.mono ?_
        rintro e W2 ⟨rfl, bq⟩
        have T2 := hide (T1.out.next bq)
        have R2 := hide (R1.out.next bq)
        have Y2 := hide (Y1.out.next bq)
        have B2 := hide (B1.out.next bq)
        clear T1 R1 Y1 B1
        clear u0 u1 u2 u3
        have u0 := T2.out.cell 0 _ rfl
        have u1 := T2.out.cell 1 _ rfl
        have u2 := T2.out.cell 2 _ rfl
        have u3 := T2.out.cell 3 _ rfl
        clear bq hq
        go_wp2_with fail
        have hq := HIS.out ⟨#[116, 114, 117, 101]⟩ _ B2.out
        rw [ht] at hq
        refine hq.mono ?_
        rintro e W3 ⟨rfl, bq⟩
        have T3 := hide (T2.out.next bq)
        have R3 := hide (R2.out.next bq)
        have Y3 := hide (Y2.out.next bq)
        have B3 := hide (B2.out.next bq)
        clear T2 R2 Y2 B2
        clear u0 u1 u2 u3
        have u0 := T3.out.cell 0 _ rfl
        have u1 := T3.out.cell 1 _ rfl
        have u2 := T3.out.cell 2 _ rfl
        have u3 := T3.out.cell 3 _ rfl
        clear bq hq
        go_wp2_with fail
        have hq := on_any D i W3 (by have := HF.out; omega)
        unfold OnPost at hq
        refine hq.mono ?_
        rintro e W4 ⟨rfl, bq⟩
        have T4 := hide (T3.out.next bq)
        have R4 := hide (R3.out.next bq)
        have Y4 := hide (Y3.out.next bq)
        have B4 := hide (B3.out.next bq)
        clear T3 R3 Y3 B3
        clear u0 u1 u2 u3
        have u0 := T4.out.cell 0 _ rfl
        have u1 := T4.out.cell 1 _ rfl
        have u2 := T4.out.cell 2 _ rfl
        have u3 := T4.out.cell 3 _ rfl
        clear bq hq
        have xR := R4.out
        have xY := Y4.out
        have BB := hide B4.out
        clear u0 u1 u2 u3
        have HPP := hide (fun w9 hb9 => RPPost.ok (w := w0) (w' := w9) (vs := #[.int .i64 0, .slice none 0 0, .slice none 0 0, .int .i64 0, .string ⟨#[]⟩, .string ⟨#[]⟩, .slice none 0 0]) (i' := i + 1) HO.out (TIn.leaf _ _ 0) HST.out hb9)
        rw [show ((i + 1 : Nat) : Int) = (i : Int) + 1 from by omega] at HPP
        have hryy : (w0.heap.size + 1 + 1) ≠ (w0.heap.size + 1) := by omega
        go_wp2_with (first
          | ((with_reducible refine wpList_store_box rfl 37 _ _ rfl (w0.heap.size + 1) #[.slice D.A D.n D.c, .int .i64 ((i : Int) + 1 : Int), .slice D.V D.m D.d, .bool D.known] rfl rfl _ xR (by kernel_rfl) rfl (by simp [Value.oneCell']) ?_); intro w8 k8 ho8; have yY := Box.other xY ho8 hryy)
          | ((with_reducible refine wpList_store_box rfl 45 _ _ rfl (w0.heap.size + 1 + 1) #[.int .i64 0, .slice none 0 0, .slice none 0 0, .int .i64 0, .string ⟨#[]⟩, .string ⟨#[]⟩, .slice none 0 0] rfl rfl _ yY (by kernel_rfl) rfl (by simp [Value.oneCell']) ?_); intro w9 k9 ho9))
        refine bodyPost_tt rfl rfl rfl rfl (k8.other ho9 (by omega)) k9 rfl ?_
        have hb9 := (BB.out.trans (ho8.below BB.out.size (by omega))).trans (ho9.below (BB.out.trans (ho8.below BB.out.size (by omega))).size (by omega))
        exact HPP.out _ hb9
      | false =>
        cases hf : isT ⟨#[102, 97, 108, 115, 101]⟩ (rd D.ts i) with
        | true =>
          have hno : ¬ (60 - dp = 0 ∧ (isT ⟨#[33]⟩ (rd D.ts i) = true ∨ isT ⟨#[40]⟩ (rd D.ts i) = true)) := fun hh => by rw [hb, hp] at hh; simp at hh
          have HO := hide (HP1.out.trans ((if_neg hno).trans ((if_neg (by rw [hb]; decide)).trans ((if_neg (by rw [hp]; decide)).trans ((if_neg (by rw [ht]; decide)).trans (if_pos hf))))))
          clear hno HP1
          have hst := isT_step HTG.out.good.ends hf
          rw [← hst.1] at HO
          have hl1 := hst.2.1
          have HST := hide (show Stands D i (rd D.ts (i + 1)) (i + 1) from ⟨rfl, by omega⟩)
          clear hst
          go_enter Tryd.func49, Tryd.ntmps49
          go_wp2_with fail
          generalize hW0 : ((w0.alloc (.cells #[.slice D.A D.n D.c, .int .i64 (i : Int), .slice D.V D.m D.d, .bool D.known] 37)).alloc (.cells #[.slice none 0 0, .int .i64 0, .slice none 0 0, .bool false] 37)).alloc (.cells #[.int .i64 0, .slice none 0 0, .slice none 0 0, .int .i64 0, .string ⟨#[]⟩, .string ⟨#[]⟩, .slice none 0 0] 45) = W0 at *
          clear hW0
          have hq := HIS.out ⟨#[33]⟩ _ B0.out
          rw [hb] at hq
          refine hq.mono ?_
          rintro e W1 ⟨rfl, bq⟩
          have T1 := hide (T0.out.next bq)
          have R1 := hide (R0.out.next bq)
          have Y1 := hide (Y0.out.next bq)
          have B1 := hide (B0.out.next bq)
          clear T0 R0 Y0 B0
          clear u0 u1 u2 u3
          have u0 := T1.out.cell 0 _ rfl
          have u1 := T1.out.cell 1 _ rfl
          have u2 := T1.out.cell 2 _ rfl
          have u3 := T1.out.cell 3 _ rfl
          clear bq hq
          go_wp2_with fail
          have hq := HIS.out ⟨#[40]⟩ _ B1.out
          rw [hp] at hq
          refine hq.mono ?_
          rintro e W2 ⟨rfl, bq⟩
          have T2 := hide (T1.out.next bq)
          have R2 := hide (R1.out.next bq)
          have Y2 := hide (Y1.out.next bq)
          have B2 := hide (B1.out.next bq)
          clear T1 R1 Y1 B1
          clear u0 u1 u2 u3
          have u0 := T2.out.cell 0 _ rfl
          have u1 := T2.out.cell 1 _ rfl
          have u2 := T2.out.cell 2 _ rfl
          have u3 := T2.out.cell 3 _ rfl
          clear bq hq
          go_wp2_with fail
          have hq := HIS.out ⟨#[116, 114, 117, 101]⟩ _ B2.out
          rw [ht] at hq
          refine hq.mono ?_
          rintro e W3 ⟨rfl, bq⟩
          have T3 := hide (T2.out.next bq)
          have R3 := hide (R2.out.next bq)
          have Y3 := hide (Y2.out.next bq)
          have B3 := hide (B2.out.next bq)
          clear T2 R2 Y2 B2
          clear u0 u1 u2 u3
          have u0 := T3.out.cell 0 _ rfl
          have u1 := T3.out.cell 1 _ rfl
          have u2 := T3.out.cell 2 _ rfl
          have u3 := T3.out.cell 3 _ rfl
          clear bq hq
          go_wp2_with fail
          have hq := HIS.out ⟨#[102, 97, 108, 115, 101]⟩ _ B3.out
          rw [hf] at hq
          refine hq.mono ?_
          rintro e W4 ⟨rfl, bq⟩
          have T4 := hide (T3.out.next bq)
          have R4 := hide (R3.out.next bq)
          have Y4 := hide (Y3.out.next bq)
          have B4 := hide (B3.out.next bq)
          clear T3 R3 Y3 B3
          clear u0 u1 u2 u3
          have u0 := T4.out.cell 0 _ rfl
          have u1 := T4.out.cell 1 _ rfl
          have u2 := T4.out.cell 2 _ rfl
          have u3 := T4.out.cell 3 _ rfl
          clear bq hq
          go_wp2_with fail
          have hq := on_any D i W4 (by have := HF.out; omega)
          unfold OnPost at hq
          refine hq.mono ?_
          rintro e W5 ⟨rfl, bq⟩
          have T5 := hide (T4.out.next bq)
          have R5 := hide (R4.out.next bq)
          have Y5 := hide (Y4.out.next bq)
          have B5 := hide (B4.out.next bq)
          clear T4 R4 Y4 B4
          clear u0 u1 u2 u3
          have u0 := T5.out.cell 0 _ rfl
          have u1 := T5.out.cell 1 _ rfl
          have u2 := T5.out.cell 2 _ rfl
          have u3 := T5.out.cell 3 _ rfl
          clear bq hq
          have xR := R5.out
          have xY := Y5.out
          have BB := hide B5.out
          clear u0 u1 u2 u3
          have HPP := hide (fun w9 hb9 => RPPost.ok (w := w0) (w' := w9) (vs := #[.int .i64 1, .slice none 0 0, .slice none 0 0, .int .i64 0, .string ⟨#[]⟩, .string ⟨#[]⟩, .slice none 0 0]) (i' := i + 1) HO.out (TIn.leaf _ _ 1) HST.out hb9)
          rw [show ((i + 1 : Nat) : Int) = (i : Int) + 1 from by omega] at HPP
          have hryy : (w0.heap.size + 1 + 1) ≠ (w0.heap.size + 1) := by omega
          go_wp2_with (first
            | ((with_reducible refine wpList_store_box rfl 37 _ _ rfl (w0.heap.size + 1) #[.slice D.A D.n D.c, .int .i64 ((i : Int) + 1 : Int), .slice D.V D.m D.d, .bool D.known] rfl rfl _ xR (by kernel_rfl) rfl (by simp [Value.oneCell']) ?_); intro w8 k8 ho8; have yY := Box.other xY ho8 hryy)
            | ((with_reducible refine wpList_store_box rfl 45 _ _ rfl (w0.heap.size + 1 + 1) #[.int .i64 1, .slice none 0 0, .slice none 0 0, .int .i64 0, .string ⟨#[]⟩, .string ⟨#[]⟩, .slice none 0 0] rfl rfl _ yY (by kernel_rfl) rfl (by simp [Value.oneCell']) ?_); intro w9 k9 ho9))
          refine bodyPost_tt rfl rfl rfl rfl (k8.other ho9 (by omega)) k9 rfl ?_
          have hb9 := (BB.out.trans (ho8.below BB.out.size (by omega))).trans (ho9.below (BB.out.trans (ho8.below BB.out.size (by omega))).size (by omega))
          exact HPP.out _ hb9
        | false =>
          have hno : ¬ (60 - dp = 0 ∧ (isT ⟨#[33]⟩ (rd D.ts i) = true ∨ isT ⟨#[40]⟩ (rd D.ts i) = true)) := fun hh => by rw [hb, hp] at hh; simp at hh
          have HO := hide (HP1.out.trans ((if_neg hno).trans ((if_neg (by rw [hb]; decide)).trans ((if_neg (by rw [hp]; decide)).trans ((if_neg (by rw [ht]; decide)).trans (if_neg (by rw [hf]; decide)))))))
          clear hno HP1
          go_enter Tryd.func49, Tryd.ntmps49
          go_wp2_with fail
          generalize hW0 : ((w0.alloc (.cells #[.slice D.A D.n D.c, .int .i64 (i : Int), .slice D.V D.m D.d, .bool D.known] 37)).alloc (.cells #[.slice none 0 0, .int .i64 0, .slice none 0 0, .bool false] 37)).alloc (.cells #[.int .i64 0, .slice none 0 0, .slice none 0 0, .int .i64 0, .string ⟨#[]⟩, .string ⟨#[]⟩, .slice none 0 0] 45) = W0 at *
          clear hW0
          have hq := HIS.out ⟨#[33]⟩ _ B0.out
          rw [hb] at hq
          refine hq.mono ?_
          rintro e W1 ⟨rfl, bq⟩
          have T1 := hide (T0.out.next bq)
          have R1 := hide (R0.out.next bq)
          have Y1 := hide (Y0.out.next bq)
          have B1 := hide (B0.out.next bq)
          clear T0 R0 Y0 B0
          clear u0 u1 u2 u3
          have u0 := T1.out.cell 0 _ rfl
          have u1 := T1.out.cell 1 _ rfl
          have u2 := T1.out.cell 2 _ rfl
          have u3 := T1.out.cell 3 _ rfl
          clear bq hq
          go_wp2_with fail
          have hq := HIS.out ⟨#[40]⟩ _ B1.out
          rw [hp] at hq
          refine hq.mono ?_
          rintro e W2 ⟨rfl, bq⟩
          have T2 := hide (T1.out.next bq)
          have R2 := hide (R1.out.next bq)
          have Y2 := hide (Y1.out.next bq)
          have B2 := hide (B1.out.next bq)
          clear T1 R1 Y1 B1
          clear u0 u1 u2 u3
          have u0 := T2.out.cell 0 _ rfl
          have u1 := T2.out.cell 1 _ rfl
          have u2 := T2.out.cell 2 _ rfl
          have u3 := T2.out.cell 3 _ rfl
          clear bq hq
          go_wp2_with fail
          have hq := HIS.out ⟨#[116, 114, 117, 101]⟩ _ B2.out
          rw [ht] at hq
          refine hq.mono ?_
          rintro e W3 ⟨rfl, bq⟩
          have T3 := hide (T2.out.next bq)
          have R3 := hide (R2.out.next bq)
          have Y3 := hide (Y2.out.next bq)
          have B3 := hide (B2.out.next bq)
          clear T2 R2 Y2 B2
          clear u0 u1 u2 u3
          have u0 := T3.out.cell 0 _ rfl
          have u1 := T3.out.cell 1 _ rfl
          have u2 := T3.out.cell 2 _ rfl
          have u3 := T3.out.cell 3 _ rfl
          clear bq hq
          go_wp2_with fail
          have hq := HIS.out ⟨#[102, 97, 108, 115, 101]⟩ _ B3.out
          rw [hf] at hq
          refine hq.mono ?_
          rintro e W4 ⟨rfl, bq⟩
          have T4 := hide (T3.out.next bq)
          have R4 := hide (R3.out.next bq)
          have Y4 := hide (Y3.out.next bq)
          have B4 := hide (B3.out.next bq)
          clear T3 R3 Y3 B3
          clear u0 u1 u2 u3
          have u0 := T4.out.cell 0 _ rfl
          have u1 := T4.out.cell 1 _ rfl
          have u2 := T4.out.cell 2 _ rfl
          have u3 := T4.out.cell 3 _ rfl
          clear bq hq
          go_wp2_with fail
          have hq := HIS.out ⟨#[33]⟩ _ B4.out
          rw [hb] at hq
          refine hq.mono ?_
          rintro e W5 ⟨rfl, bq⟩
          have T5 := hide (T4.out.next bq)
          have R5 := hide (R4.out.next bq)
          have Y5 := hide (Y4.out.next bq)
          have B5 := hide (B4.out.next bq)
          clear T4 R4 Y4 B4
          clear u0 u1 u2 u3
          have u0 := T5.out.cell 0 _ rfl
          have u1 := T5.out.cell 1 _ rfl
          have u2 := T5.out.cell 2 _ rfl
          have u3 := T5.out.cell 3 _ rfl
          clear bq hq
          go_wp2_with fail
          have hq := HIS.out ⟨#[40]⟩ _ B5.out
          rw [hp] at hq
          refine hq.mono ?_
          rintro e W6 ⟨rfl, bq⟩
          have T6 := hide (T5.out.next bq)
          have R6 := hide (R5.out.next bq)
          have Y6 := hide (Y5.out.next bq)
          have B6 := hide (B5.out.next bq)
          clear T5 R5 Y5 B5
          clear u0 u1 u2 u3
          have u0 := T6.out.cell 0 _ rfl
          have u1 := T6.out.cell 1 _ rfl
          have u2 := T6.out.cell 2 _ rfl
          have u3 := T6.out.cell 3 _ rfl
          clear bq hq
          go_wp2_with fail
          have hd := rcompare_any D i W6 (HTP.out i _ B6.out HF.out)
          unfold RPPost at hd
          refine hd.mono ?_
          rintro e Wz ⟨i5, code, kd, Al, nl, cl, Ar, nr, cr, op, p, q, A, n, c, rfl, bq, hor⟩
          have hsz := B6.out.size
          have hsz2 := bq.size
          have hyl := Y6.out.lt
          have xR := R6.out.next bq
          have xY := Y6.out.next bq
          have BB := hide (B6.out.next bq)
          have HOR := hide hor
          clear hd bq hor u0 u1 u2 u3
          have hryy : (w0.heap.size + 1 + 1) ≠ (w0.heap.size + 1) := by omega
          go_wp2_with (first
            | ((with_reducible refine wpList_store_box rfl 37 _ _ rfl (w0.heap.size + 1) #[.slice D.A D.n D.c, .int .i64 (i5 : Int), .slice D.V D.m D.d, .bool D.known] rfl rfl _ xR (by kernel_rfl) rfl (by simp [Value.oneCell']) ?_); intro w8 k8 ho8; have yY := Box.other xY ho8 hryy)
            | ((with_reducible refine wpList_store_box rfl 45 _ _ rfl (w0.heap.size + 1 + 1) #[.int .i64 kd, .slice Al nl cl, .slice Ar nr cr, .int .i64 op, .string p, .string q, .slice A n c] rfl rfl _ yY (by kernel_rfl) rfl (by simp [Value.oneCell']) ?_); intro w9 k9 ho9))
          refine bodyPost_tt rfl rfl rfl rfl (k8.other ho9 (by omega)) k9 rfl ?_
          have hb9 := (BB.out.trans (ho8.below BB.out.size (by omega))).trans (ho9.below (BB.out.trans (ho8.below BB.out.size (by omega))).size (by omega))
          skip
          exact hand_on HO.out HOR.out (Stands.refl D i) hsz hb9 ho8 ho9 (by omega) (by omega)
end Go.Proofs.YtneiajkcikcnnaaDoor
