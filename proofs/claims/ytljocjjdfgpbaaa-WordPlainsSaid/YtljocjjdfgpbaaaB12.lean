/- Texts of one seat, put together: WordE. -/
import Derived.Test.YtljocjjdfgpbaaaB10
import Derived.Test.YtljocjjdfgpbaaaB11
set_option linter.unusedVariables false
/- plumblineref15.Holds. -/
namespace Go.Proofs.Ytljocjjdfgpbaaa
open Go.RowKit
open Wo

theorem i64w {x : Int} (h1 : -9223372036854775808 ≤ x) (h2 : x ≤ 9223372036854775807) : IntKind.i64.wrap x = x := IntWalk.i64_in _ (by omega)
theorem UF_step (F G : Nat → Bool) {j e : Nat} (h : j < e) : UF F G (e - j) j = (G j || (F j && UF F G (e - (j + 1)) (j + 1))) := by
  rw [show e - j = (e - (j + 1)) + 1 by omega, UF]
theorem RF_step (F G : Nat → Bool) {j e : Nat} (h : j < e) : RF F G (e - j) j = (G j && (F j || RF F G (e - (j + 1)) (j + 1))) := by
  rw [show e - j = (e - (j + 1)) + 1 by omega, RF]
theorem norm_other (t : LT) (h0 : t.k ≠ 0) (h2 : t.k ≠ 2) (ha : arity t.k = 0) : norm t = .ff := by
  rw [norm_eq, if_neg h0, if_neg h2, if_neg (by omega), if_neg (by omega)]
theorem arity_none {k : Int} (h3 : ¬ k = 3) (h8 : ¬ k = 8) (h9 : ¬ k = 9) (h10 : ¬ k = 10) (h4 : ¬ k = 4) (h5 : ¬ k = 5) (h7 : ¬ k = 7) (h11 : ¬ k = 11) (h12 : ¬ k = 12) : arity k = 0 := by
  unfold arity; rw [if_neg (by omega), if_neg (by omega)]
theorem norm_k0 (t : LT) (h : t.k = 0) : norm t = .tt := by rw [norm_eq, h]; rfl
theorem norm_k2 (t : LT) (h : t.k = 2) : norm t = .cmp t.p := by rw [norm_eq, h]; rfl
theorem norm_k3 (t : LT) (h : t.k = 3) : norm t = .una 3 (norm (t.kid 0)) := by rw [norm_eq, h]; rfl
theorem norm_k4 (t : LT) (h : t.k = 4) : norm t = .bin 4 (norm (t.kid 0)) (norm (t.kid 1)) := by rw [norm_eq, h]; rfl
theorem norm_k5 (t : LT) (h : t.k = 5) : norm t = .bin 5 (norm (t.kid 0)) (norm (t.kid 1)) := by rw [norm_eq, h]; rfl
theorem norm_k7 (t : LT) (h : t.k = 7) : norm t = .bin 7 (norm (t.kid 0)) (norm (t.kid 1)) := by rw [norm_eq, h]; rfl
theorem norm_k8 (t : LT) (h : t.k = 8) : norm t = .una 8 (norm (t.kid 0)) := by rw [norm_eq, h]; rfl
theorem norm_k9 (t : LT) (h : t.k = 9) : norm t = .una 9 (norm (t.kid 0)) := by rw [norm_eq, h]; rfl
theorem norm_k10 (t : LT) (h : t.k = 10) : norm t = .una 10 (norm (t.kid 0)) := by rw [norm_eq, h]; rfl
theorem norm_k11 (t : LT) (h : t.k = 11) : norm t = .bin 11 (norm (t.kid 0)) (norm (t.kid 1)) := by rw [norm_eq, h]; rfl
theorem norm_k12 (t : LT) (h : t.k = 12) : norm t = .bin 12 (norm (t.kid 0)) (norm (t.kid 1)) := by rw [norm_eq, h]; rfl
def Lt (N b : Nat) : Prop := b < N
theorem Keep.lt {N : Nat} {w w' : World} (h : Below N w w') : Keep (Lt N) w w' := Keep.of_belowB h (fun _ h => h)
/-- What the document's words say of a tree, a word and a position. -/
def HV (L1 L2 : List (List Bool)) (f : Pr) (x : Nat) : Bool := H (L1.length + L2.length) (ltrOf (L1 ++ L2) L1.length) f x
theorem perL (L1 L2 : List (List Bool)) : PerL L1.length L2.length (ltrOf (L1 ++ L2) L1.length) := by
  have := ltrOf_per (L1 ++ L2) L1.length
  rwa [List.length_append, Nat.add_sub_cancel_left] at this
theorem HV_pos (L1 L2 : List (List Bool)) (f : Pr) (x : Nat) : HV L1 L2 f (pos L1.length L2.length x) = HV L1 L2 f x := per_pos (H_per (perL L1 L2) f) x
def HoldsPost (L1 L2 : List (List Bool)) (t : LT) (x : Nat) (w : World) (e : Ending) (w' : World) : Prop := e = .returned (.bool (HV L1 L2 (norm t) x)) ∧ Below w.heap.size w w'
set_option maxRecDepth 100000 in
set_option maxHeartbeats 16000000 in
theorem rholds_any (L1 L2 : List (List Bool)) (hL2 : 0 < L2.length) (h9 : L1.length + L2.length ≤ 1000000) (Z : Nat) : ∀ (t : LT) (N : Nat) (k p : Int) (A : Option Addr) (n c : Nat) (A1 : Option Addr) (n1 c1 : Nat) (A2 : Option Addr) (n2 c2 : Nat) (x : Nat) (w0 : World), (norm t).size ≤ Z → x ≤ 9223372036854775807 → N ≤ w0.heap.size → DIn (Lt N) w0 t (c3 k p A n c) → LsIn (Lt N) w0 A1 n1 L1 → LsIn (Lt N) w0 A2 n2 L2 →
    Calls Try.prog 26 #[.agg #[.int .i64 k, .int .i64 p, .slice A n c], .agg #[.slice A1 n1 c1, .slice A2 n2 c2], .int .i64 (x : Int)] w0 (HoldsPost L1 L2 t x w0) := by
  induction Z with
  | zero => intro t N k p A n c A1 n1 c1 A2 n2 c2 x w0 hz; have := (norm t).size_pos; omega
  | succ Z ih =>
    intro t N k p A n c A1 n1 c1 A2 n2 c2 x w0 hz hx hN hd h1 h2
    have hl1 := h1.1
    have hl2 := h2.1
    obtain ⟨hk0, hp0, -⟩ := hd.parts
    obtain ⟨x3, x4, hb, hbz⟩ := bstart2 24 34 w0 #[.int .i64 k, .int .i64 p, .slice A n c] #[.slice A1 n1 c1, .slice A2 n2 c2]
    have cc0 := x4.cell 0 _ rfl
    have cc1 := x4.cell 1 _ rfl
    obtain ⟨y, hy⟩ : ∃ y, y = pos L1.length L2.length x := ⟨_, rfl⟩
    have hyl : y < L1.length + L2.length := by rw [hy]; exact pos_lt hL2
    obtain ⟨res, hres⟩ : ∃ res, res = HV L1 L2 (norm t) y := ⟨_, rfl⟩
    have HPO := hide (show ∀ w', Below w0.heap.size w0 w' → HoldsPost L1 L2 t x w0 (.returned (.bool res)) w' from fun w' hw => ⟨by rw [hres, hy, HV_pos], hw⟩)
    have X3 := hide x3
    have X4 := hide x4
    have BW := hide hb
    have HD1 := hide (hd.keep (Keep.of_below hb))
    have H1 := hide (h1.keep (Keep.of_below hb))
    have H2 := hide (h2.keep (Keep.of_below hb))
    have HRES := hide hres
    have HY := hide hy
    have HK0 := hide hk0
    have HP0 := hide hp0
    clear hy hres hk0 hp0 hb x3 x4 hd h1 h2
    subst hl1 hl2
    go_enter Try.func26, Try.ntmps26
    go_upto_if 22 with fail
    generalize hW : (w0.alloc (.cells #[.int .i64 k, .int .i64 p, .slice A n c] 24)).alloc (.cells #[.slice A1 L1.length c1, .slice A2 L2.length c2] 34) = W1 at *
    clear hW
    have HS := hide (Below.refl W1.heap.size W1)
    go_cut [2] (fun s2 wx => s2 = .int .i64 (y : Int) ∧ Hid (Below W1.heap.size W1 wx))
    case first =>
      by_cases hxn : x < L1.length + L2.length
      · have g1 : ¬ (L1.length : Int) + (L2.length : Int) ≤ (x : Int) := by omega
        have hyx : y = x := by rw [HY.out, pos_self hxn]
        subst hyx
        go_wp2_with fail
        go_meet
        case rel => exact ⟨rfl, HS⟩
      · have g1 : (L1.length : Int) + (L2.length : Int) ≤ (x : Int) := by omega
        obtain ⟨yy, hyy⟩ : ∃ yy, yy = (x - L1.length) % L2.length := ⟨_, rfl⟩
        have hyl2 : yy < L2.length := by rw [hyy]; exact Nat.mod_lt _ hL2
        have hyx : y = L1.length + yy := by rw [HY.out, hyy]; unfold pos; rw [if_neg (by omega)]
        have G11 := hide (show ((x : Int) - (L1.length : Int)).tmod (L2.length : Int) = (yy : Int) from by rw [hyy, Int.tmod_eq_emod_of_nonneg (by omega), show (x : Int) - (L1.length : Int) = ((x - L1.length : Nat) : Int) by omega]; rfl)
        have HNE := hide (show ¬ L2 = [] from fun e => by rw [e] at hL2; exact absurd hL2 (by decide))
        have G12 := hide (show (L1.length : Int) + (yy : Int) = (y : Int) from by omega)
        have SOF := hide (show ∀ W, Below W1.heap.size W1 W → (W.cell? ⟨w0.heap.size + 1, 0, none⟩ = some (.slice A1 L1.length c1) ∧ W.cell? ⟨w0.heap.size + 1, 1, none⟩ = some (.slice A2 L2.length c2)) from fun W h => ⟨(X4.out.next h).cell 0 _ rfl, (X4.out.next h).cell 1 _ rfl⟩)
        clear hyx hyy cc0 cc1
        go_upto_region 2 with fail
        refine wp_drawn (by kernel_rfl) (by kernel_rfl) (by kernel_rfl) (fun w w' => Below w.heap.size w w') (fun j v w => match j with | 0 => v = .pointer (some ⟨w0.heap.size + 1, 0, none⟩) | 1 => v = .slice A1 L1.length c1 | 2 => v = .int .i64 (L1.length : Int) | 3 => v = .int .i64 (x : Int) | 4 => v = .pointer (some ⟨w0.heap.size + 1, 0, none⟩) | 5 => v = .slice A1 L1.length c1 | 6 => v = .int .i64 (L1.length : Int) | 7 => v = .int .i64 ((x : Int) - (L1.length : Int)) | 8 => v = .pointer (some ⟨w0.heap.size + 1, 1, none⟩) | 9 => v = .slice A2 L2.length c2 | 10 => v = .int .i64 (L2.length : Int) | 11 => v = .int .i64 (yy : Int) | 12 => v = .int .i64 (y : Int) | 13 => v = .int .i64 (y : Int) | _ => True) (fun _ _ w => Below W1.heap.size W1 w) ?_ (fun _ => bl_drewN W1 1) ?_ ?_
        · intro j v w w' hT h
          match j, h with
          | 0, h => exact h
          | 1, h => exact h
          | 2, h => exact h
          | 3, h => exact h
          | 4, h => exact h
          | 5, h => exact h
          | 6, h => exact h
          | 7, h => exact h
          | 8, h => exact h
          | 9, h => exact h
          | 10, h => exact h
          | 11, h => exact h
          | 12, h => exact h
          | 13, h => exact h
          | j + 14, h => trivial
        · refine ⟨?_, ?_, ?_, ?_, ?_, ?_, ?_, ?_, ?_, ?_, ?_, ?_, ?_, ?_, trivial⟩
          · intro listed σ w a hin hout hl hc hp hG hF
            refine Guarded.none rfl ?_
            have e4 : a.tmps.getD 4 undef = .pointer (some ⟨w0.heap.size + 1, 0, none⟩) := hout 4 (outB_spec (by kernel_rfl))
            refine Does.val (.pointer (some ⟨w0.heap.size + 1, 0, none⟩)) (w' := w) ?_ ⟨Below.refl _ _, rfl, hG⟩
            simp only [Array.getD_eq_getD_getElem?] at e4
            go_simp
          · intro listed σ w a hin hout hl hc hp hG hF
            refine Guarded.none rfl ?_
            have e23 : a.tmps.getD 23 undef = .pointer (some ⟨w0.heap.size + 1, 0, none⟩) := (hin 0 23 rfl (hp ⟨0, .data⟩ (by simp) rfl)).trans (hF 0 (hp ⟨0, .data⟩ (by simp) rfl))
            have CC := SOF.out w hG; obtain ⟨C0, C1⟩ := CC
            refine Does.val (.slice A1 L1.length c1) (w' := w) ?_ ⟨Below.refl _ _, rfl, hG⟩
            go_simp
          · intro listed σ w a hin hout hl hc hp hG hF
            refine Guarded.none rfl ?_
            have e24 : a.tmps.getD 24 undef = .slice A1 L1.length c1 := (hin 1 24 rfl (hp ⟨1, .data⟩ (by simp) rfl)).trans (hF 1 (hp ⟨1, .data⟩ (by simp) rfl))
            refine Does.val (.int .i64 (L1.length : Int)) (w' := w) ?_ ⟨Below.refl _ _, rfl, hG⟩
            simp only [Array.getD_eq_getD_getElem?] at e24
            go_simp
          · intro listed σ w a hin hout hl hc hp hG hF
            refine Guarded.none rfl ?_
            have e2 : a.tmps.getD 2 undef = .int .i64 (x : Int) := hout 2 (soleW_spec (j := 13) (by kernel_rfl) (un_next (k := 13) hc hl (by kernel_rfl)))
            refine Does.val (.int .i64 (x : Int)) (w' := w) ?_ ⟨Below.refl _ _, rfl, hG⟩
            simp only [Array.getD_eq_getD_getElem?] at e2
            go_simp
          · intro listed σ w a hin hout hl hc hp hG hF
            refine Guarded.none rfl ?_
            have e4 : a.tmps.getD 4 undef = .pointer (some ⟨w0.heap.size + 1, 0, none⟩) := hout 4 (outB_spec (by kernel_rfl))
            refine Does.val (.pointer (some ⟨w0.heap.size + 1, 0, none⟩)) (w' := w) ?_ ⟨Below.refl _ _, rfl, hG⟩
            simp only [Array.getD_eq_getD_getElem?] at e4
            go_simp
          · intro listed σ w a hin hout hl hc hp hG hF
            refine Guarded.none rfl ?_
            have e27 : a.tmps.getD 27 undef = .pointer (some ⟨w0.heap.size + 1, 0, none⟩) := (hin 4 27 rfl (hp ⟨4, .data⟩ (by simp) rfl)).trans (hF 4 (hp ⟨4, .data⟩ (by simp) rfl))
            have CC := SOF.out w hG; obtain ⟨C0, C1⟩ := CC
            refine Does.val (.slice A1 L1.length c1) (w' := w) ?_ ⟨Below.refl _ _, rfl, hG⟩
            go_simp
          · intro listed σ w a hin hout hl hc hp hG hF
            refine Guarded.none rfl ?_
            have e28 : a.tmps.getD 28 undef = .slice A1 L1.length c1 := (hin 5 28 rfl (hp ⟨5, .data⟩ (by simp) rfl)).trans (hF 5 (hp ⟨5, .data⟩ (by simp) rfl))
            refine Does.val (.int .i64 (L1.length : Int)) (w' := w) ?_ ⟨Below.refl _ _, rfl, hG⟩
            simp only [Array.getD_eq_getD_getElem?] at e28
            go_simp
          · intro listed σ w a hin hout hl hc hp hG hF
            refine Guarded.none rfl ?_
            have e26 : a.tmps.getD 26 undef = .int .i64 (x : Int) := (hin 3 26 rfl (hp ⟨3, .data⟩ (by simp) rfl)).trans (hF 3 (hp ⟨3, .data⟩ (by simp) rfl))
            have e29 : a.tmps.getD 29 undef = .int .i64 (L1.length : Int) := (hin 6 29 rfl (hp ⟨6, .data⟩ (by simp) rfl)).trans (hF 6 (hp ⟨6, .data⟩ (by simp) rfl))
            refine Does.val (.int .i64 ((x : Int) - (L1.length : Int))) (w' := w) ?_ ⟨Below.refl _ _, rfl, hG⟩
            simp only [Array.getD_eq_getD_getElem?] at e26 e29
            go_simp
            exact i64w (by omega) (by omega)
          · intro listed σ w a hin hout hl hc hp hG hF
            refine Guarded.none rfl ?_
            have e4 : a.tmps.getD 4 undef = .pointer (some ⟨w0.heap.size + 1, 0, none⟩) := hout 4 (outB_spec (by kernel_rfl))
            refine Does.val (.pointer (some ⟨w0.heap.size + 1, 1, none⟩)) (w' := w) ?_ ⟨Below.refl _ _, rfl, hG⟩
            simp only [Array.getD_eq_getD_getElem?] at e4
            go_simp
          · intro listed σ w a hin hout hl hc hp hG hF
            refine Guarded.none rfl ?_
            have e31 : a.tmps.getD 31 undef = .pointer (some ⟨w0.heap.size + 1, 1, none⟩) := (hin 8 31 rfl (hp ⟨8, .data⟩ (by simp) rfl)).trans (hF 8 (hp ⟨8, .data⟩ (by simp) rfl))
            have CC := SOF.out w hG; obtain ⟨C0, C1⟩ := CC
            refine Does.val (.slice A2 L2.length c2) (w' := w) ?_ ⟨Below.refl _ _, rfl, hG⟩
            go_simp
          · intro listed σ w a hin hout hl hc hp hG hF
            refine Guarded.none rfl ?_
            have e32 : a.tmps.getD 32 undef = .slice A2 L2.length c2 := (hin 9 32 rfl (hp ⟨9, .data⟩ (by simp) rfl)).trans (hF 9 (hp ⟨9, .data⟩ (by simp) rfl))
            refine Does.val (.int .i64 (L2.length : Int)) (w' := w) ?_ ⟨Below.refl _ _, rfl, hG⟩
            simp only [Array.getD_eq_getD_getElem?] at e32
            go_simp
          · intro listed σ w a hin hout hl hc hp hG hF
            refine Guarded.none rfl ?_
            have e30 : a.tmps.getD 30 undef = .int .i64 ((x : Int) - (L1.length : Int)) := (hin 7 30 rfl (hp ⟨7, .data⟩ (by simp) rfl)).trans (hF 7 (hp ⟨7, .data⟩ (by simp) rfl))
            have e33 : a.tmps.getD 33 undef = .int .i64 (L2.length : Int) := (hin 10 33 rfl (hp ⟨10, .data⟩ (by simp) rfl)).trans (hF 10 (hp ⟨10, .data⟩ (by simp) rfl))
            refine Does.val (.int .i64 (yy : Int)) (w' := w) ?_ ⟨Below.refl _ _, rfl, hG⟩
            simp only [Array.getD_eq_getD_getElem?] at e30 e33
            go_simp
            rw [if_neg HNE.out, G11.out]
          · intro listed σ w a hin hout hl hc hp hG hF
            refine Guarded.none rfl ?_
            have e25 : a.tmps.getD 25 undef = .int .i64 (L1.length : Int) := (hin 2 25 rfl (hp ⟨2, .data⟩ (by simp) rfl)).trans (hF 2 (hp ⟨2, .data⟩ (by simp) rfl))
            have e34 : a.tmps.getD 34 undef = .int .i64 (yy : Int) := (hin 11 34 rfl (hp ⟨11, .data⟩ (by simp) rfl)).trans (hF 11 (hp ⟨11, .data⟩ (by simp) rfl))
            refine Does.val (.int .i64 (y : Int)) (w' := w) ?_ ⟨Below.refl _ _, rfl, hG⟩
            simp only [Array.getD_eq_getD_getElem?] at e25 e34
            go_simp
            rw [← G12.out]; exact i64w (by omega) (by omega)
          · intro listed σ w a hin hout hl hc hp hG hF
            refine Guarded.none rfl ?_
            have e35 : a.tmps.getD 35 undef = .int .i64 (y : Int) := (hin 12 35 rfl (hp ⟨12, .data⟩ (by simp) rfl)).trans (hF 12 (hp ⟨12, .data⟩ (by simp) rfl))
            refine Does.val (.int .i64 (y : Int)) (w' := w) ?_ ⟨Below.refl _ _, rfl, hG⟩
            simp only [Array.getD_eq_getD_getElem?] at e35
            go_simp
        · intro listed σ W9 hall hG hF
          rw [show mid _ σ listed _ = (Act.put (Act.put (Act.put (Act.put (Act.put (Act.put (Act.put (Act.put (Act.put (Act.put (Act.put (Act.put (Act.put (Act.put _ (some 23) (σ 0)) (some 24) (σ 1)) (some 25) (σ 2)) (some 26) (σ 3)) (some 27) (σ 4)) (some 28) (σ 5)) (some 29) (σ 6)) (some 30) (σ 7)) (some 31) (σ 8)) (some 32) (σ 9)) (some 33) (σ 10)) (some 34) (σ 11)) (some 35) (σ 12)) (some 2) (σ 13)) from (mid_all hall).trans rfl]
          generalize σ 0 = tt0
          generalize σ 1 = tt1
          generalize σ 2 = tt2
          generalize σ 3 = tt3
          generalize σ 4 = tt4
          generalize σ 5 = tt5
          generalize σ 6 = tt6
          generalize σ 7 = tt7
          generalize σ 8 = tt8
          generalize σ 9 = tt9
          generalize σ 10 = tt10
          generalize σ 11 = tt11
          generalize σ 12 = tt12
          rw [show σ 13 = .int .i64 (y : Int) from hF 13 (by decide)]
          simp only [Act.put, List.setIfInBounds_toArray, List.set_cons_zero, List.set_cons_succ]
          have TG := hG
          clear hF hG hall
          clear σ
          have HQ := hide TG
          clear TG SOF
          go_wp2_with fail
          go_meet
          case rel => exact ⟨rfl, HQ⟩
    case rest =>
      obtain ⟨rfl, HS2⟩ := hcut
      clear HS cc0 cc1
      have BW2 := hide (BW.out.next HS2.out)
      have X3a := hide (X3.out.next HS2.out)
      have X4a := hide (X4.out.next HS2.out)
      have HDa := hide (HD1.out.keep (Keep.of_below HS2.out))
      have H1a := hide (H1.out.keep (Keep.of_below HS2.out))
      have H2a := hide (H2.out.keep (Keep.of_below HS2.out))
      clear HS2 X3 X4 BW HD1 H1 H2
      have cc0 := X4a.out.cell 0 _ rfl
      have cc1 := X4a.out.cell 1 _ rfl
      go_upto_region 4 with fail
      generalize hW3 : wc = W3 at *
      clear cc0 cc1
      have HN3 := hide (show N ≤ W3.heap.size from Nat.le_trans hN BW2.out.size)
      have HKI := hide (fun (q : Nat) W (hq : q ≤ 100) (h : Below W3.heap.size W3 W) => kid_any (Lt N) t k p A n c q W (HDa.out.keep (Keep.of_below h)) hq)
      unfold TreePost at HKI
      have SOF := hide (show ∀ W, Below W3.heap.size W3 W → (W.cell? ⟨w0.heap.size, 0, none⟩ = some (.int .i64 k) ∧ W.cell? ⟨w0.heap.size, 1, none⟩ = some (.int .i64 p) ∧ W.cell? ⟨w0.heap.size, 2, none⟩ = some (.slice A n c)) from fun W h => ⟨(X3a.out.next h).cell 0 _ rfl, (X3a.out.next h).cell 1 _ rfl, (X3a.out.next h).cell 2 _ rfl⟩)
      have HOK := hide (show ∀ ps0 ∈ ([⟨4, 6, 24, #[.int .i64 0, .int .i64 0, .slice none 0 0], fun cs w => ∃ k p A n c, cs = #[.int .i64 k, .int .i64 p, .slice A n c] ∧ DIn (Lt N) w (t.kid 0) (c3 k p A n c)⟩, ⟨5, 7, 24, #[.int .i64 0, .int .i64 0, .slice none 0 0], fun cs w => ∃ k p A n c, cs = #[.int .i64 k, .int .i64 p, .slice A n c] ∧ DIn (Lt N) w (t.kid 1) (c3 k p A n c)⟩] : List BSpec), ∀ cs w w', (fun w w' => Below W3.heap.size w w') w w' → ps0.ok cs w → ps0.ok cs w' from fun ps0 hp cs w w' hT h => by
        simp only [List.mem_cons, List.not_mem_nil, or_false] at hp
        rcases hp with rfl | rfl
        · (dsimp only at h ⊢; obtain ⟨k, p, A, n, c, e, d⟩ := h; exact ⟨k, p, A, n, c, e, d.keep (Keep.of_belowB hT (fun b hb => Nat.lt_of_lt_of_le hb HN3.out))⟩)
        · (dsimp only at h ⊢; obtain ⟨k, p, A, n, c, e, d⟩ := h; exact ⟨k, p, A, n, c, e, d.keep (Keep.of_belowB hT (fun b hb => Nat.lt_of_lt_of_le hb HN3.out))⟩))
      refine wp_drawn (by kernel_rfl) (by kernel_rfl) (by kernel_rfl) (fun w w' => Below W3.heap.size w w') (fun j v w => match j with | 0 => v = .agg #[.int .i64 k, .int .i64 p, .slice A n c] | 1 => ∃ k p A n c, v = .agg #[.int .i64 k, .int .i64 p, .slice A n c] ∧ DIn (Lt N) w (t.kid 0) (c3 k p A n c) | 2 => v = .agg #[.int .i64 k, .int .i64 p, .slice A n c] | 3 => ∃ k p A n c, v = .agg #[.int .i64 k, .int .i64 p, .slice A n c] ∧ DIn (Lt N) w (t.kid 1) (c3 k p A n c) | 4 => True | 5 => True | 6 => True | 7 => True | _ => True) (GB W3 8 [⟨4, 6, 24, #[.int .i64 0, .int .i64 0, .slice none 0 0], fun cs w => ∃ k p A n c, cs = #[.int .i64 k, .int .i64 p, .slice A n c] ∧ DIn (Lt N) w (t.kid 0) (c3 k p A n c)⟩, ⟨5, 7, 24, #[.int .i64 0, .int .i64 0, .slice none 0 0], fun cs w => ∃ k p A n c, cs = #[.int .i64 k, .int .i64 p, .slice A n c] ∧ DIn (Lt N) w (t.kid 1) (c3 k p A n c)⟩]) ?_ (fun _ => GB.start (bl_drewN W3 1)) ?_ ?_
      · intro j v w w' hT h
        match j, h with
        | 0, h => exact h
        | 1, h => exact (by obtain ⟨k, p, A, n, c, e, d⟩ := h; exact ⟨k, p, A, n, c, e, d.keep (Keep.of_belowB hT (fun b hb => Nat.lt_of_lt_of_le hb HN3.out))⟩)
        | 2, h => exact h
        | 3, h => exact (by obtain ⟨k, p, A, n, c, e, d⟩ := h; exact ⟨k, p, A, n, c, e, d.keep (Keep.of_belowB hT (fun b hb => Nat.lt_of_lt_of_le hb HN3.out))⟩)
        | 4, h => trivial
        | 5, h => trivial
        | 6, h => trivial
        | 7, h => trivial
        | j + 8, h => trivial
      · refine ⟨?_, ?_, ?_, ?_, ?_, ?_, ?_, ?_, trivial⟩
        · intro listed σ w a hin hout hl hc hp hG hF
          refine Guarded.none rfl ?_
          have e3 : a.tmps.getD 3 undef = .pointer (some ⟨w0.heap.size, 0, none⟩) := hout 3 (outB_spec (by kernel_rfl))
          have CC := SOF.out w hG.2.1; obtain ⟨C0, C1, C2⟩ := CC
          refine Does.val (.agg #[.int .i64 k, .int .i64 p, .slice A n c]) (w' := w) ?_ ⟨Below.refl _ _, rfl, hG.keep HOK.out (by rfl) (Below.refl _ _) (Below.refl _ _)⟩
          go_simp
        · intro listed σ w a hin hout hl hc hp hG hF
          refine Guarded.none rfl ?_
          have e45 : a.tmps.getD 45 undef = .agg #[.int .i64 k, .int .i64 p, .slice A n c] := (hin 0 45 rfl (hp ⟨0, .data⟩ (by simp) rfl)).trans (hF 0 (hp ⟨0, .data⟩ (by simp) rfl))
          refine Does.call ?_ (HKI.out 0 w (by decide) hG.2.1) ?_
          · go_simp
          · rintro e w' ⟨k9, p9, A9, n9, c9, rfl, hd, hb⟩
            exact ⟨_, rfl, (Below.mono hb hG.2.1.size), ⟨k9, p9, A9, n9, c9, rfl, hd⟩, hG.keep HOK.out (by rfl) (hb) ((Below.mono hb hG.2.1.size))⟩
        · intro listed σ w a hin hout hl hc hp hG hF
          refine Guarded.none rfl ?_
          have e3 : a.tmps.getD 3 undef = .pointer (some ⟨w0.heap.size, 0, none⟩) := hout 3 (outB_spec (by kernel_rfl))
          have CC := SOF.out w hG.2.1; obtain ⟨C0, C1, C2⟩ := CC
          refine Does.val (.agg #[.int .i64 k, .int .i64 p, .slice A n c]) (w' := w) ?_ ⟨Below.refl _ _, rfl, hG.keep HOK.out (by rfl) (Below.refl _ _) (Below.refl _ _)⟩
          go_simp
        · intro listed σ w a hin hout hl hc hp hG hF
          refine Guarded.none rfl ?_
          have e47 : a.tmps.getD 47 undef = .agg #[.int .i64 k, .int .i64 p, .slice A n c] := (hin 2 47 rfl (hp ⟨2, .data⟩ (by simp) rfl)).trans (hF 2 (hp ⟨2, .data⟩ (by simp) rfl))
          refine Does.call ?_ (HKI.out 1 w (by decide) hG.2.1) ?_
          · go_simp
          · rintro e w' ⟨k9, p9, A9, n9, c9, rfl, hd, hb⟩
            exact ⟨_, rfl, (Below.mono hb hG.2.1.size), ⟨k9, p9, A9, n9, c9, rfl, hd⟩, hG.keep HOK.out (by rfl) (hb) ((Below.mono hb hG.2.1.size))⟩
        · intro listed σ w a hin hout hl hc hp hG hF
          refine Guarded.none rfl ?_
          refine Does.val (.pointer (some ⟨w.heap.size, 0, none⟩)) (w' := w.alloc (.cells #[.int .i64 0, .int .i64 0, .slice none 0 0] 24)) ?_ ⟨(Below.mono (bl_alloc w _) hG.2.1.size), trivial, hG.made HOK.out (by rfl) (List.Mem.head _) rfl (un_next (k := 6) hc hl (by kernel_rfl)) (fun q hq hqe => by simp only [List.mem_cons, List.not_mem_nil, or_false] at hq; rcases hq with rfl | rfl <;> first | rfl | (simp at hqe)) ((Below.mono (bl_alloc w _) hG.2.1.size))⟩
          go_simp
        · intro listed σ w a hin hout hl hc hp hG hF
          refine Guarded.none rfl ?_
          refine Does.val (.pointer (some ⟨w.heap.size, 0, none⟩)) (w' := w.alloc (.cells #[.int .i64 0, .int .i64 0, .slice none 0 0] 24)) ?_ ⟨(Below.mono (bl_alloc w _) hG.2.1.size), trivial, hG.made HOK.out (by rfl) (List.Mem.tail _ (List.Mem.head _)) rfl (un_next (k := 7) hc hl (by kernel_rfl)) (fun q hq hqe => by simp only [List.mem_cons, List.not_mem_nil, or_false] at hq; rcases hq with rfl | rfl <;> first | rfl | (simp at hqe)) ((Below.mono (bl_alloc w _) hG.2.1.size))⟩
          go_simp
        · intro listed σ w a hin hout hl hc hp hG hF
          refine Guarded.none rfl ?_
          obtain ⟨g4, cs4, eg4, hg4, xb4, hz4, -⟩ := GB.at_ hG (List.Mem.head _) (hp ⟨4, .data⟩ (by simp) rfl)
          have e8 := (hin 4 8 rfl (hp ⟨4, .data⟩ (by simp) rfl)).trans eg4
          have e46 := hin 1 46 rfl (hp ⟨1, .data⟩ (by simp) rfl)
          obtain ⟨k1, p1, A1, n1, cC1, ev1, d1⟩ := hF 1 (hp ⟨1, .data⟩ (by simp) rfl)
          rw [ev1] at e46
          have ez := hz4 hl
          subst ez
          have xb := xb4
          have hf : (fun cs w => ∃ k p A n c, cs = #[.int .i64 k, .int .i64 p, .slice A n c] ∧ DIn (Lt N) w (t.kid 0) (c3 k p A n c) : Array Value → World → Prop) #[.int .i64 k1, .int .i64 p1, .slice A1 n1 cC1] w := ⟨_, _, _, _, _, rfl, d1⟩
          refine Does.store_box (T := 24) (cells := #[.int .i64 k1, .int .i64 p1, .slice A1 n1 cC1]) rfl e8 e46 xb (by kernel_rfl) rfl (by simp [Value.oneCell']) (fun w2 x9 o9 => ?_)
          have t9 : (fun w w' => Below W3.heap.size w w') w w2 := (o9.below hG.2.1.size hg4)
          exact ⟨t9, trivial, hG.filled HOK.out (by rfl) (List.Mem.head _) rfl (by decide) eg4 hg4 x9 o9 (HOK.out _ (List.Mem.head _) _ w w2 t9 hf) t9 (hp ⟨4, .data⟩ (by simp) rfl) (fun q hq hqe => by simp only [List.mem_cons, List.not_mem_nil, or_false] at hq; rcases hq with rfl | rfl <;> first | rfl | (simp at hqe))⟩
        · intro listed σ w a hin hout hl hc hp hG hF
          refine Guarded.none rfl ?_
          obtain ⟨g5, cs5, eg5, hg5, xb5, hz5, -⟩ := GB.at_ hG (List.Mem.tail _ (List.Mem.head _)) (hp ⟨5, .data⟩ (by simp) rfl)
          have e9 := (hin 5 9 rfl (hp ⟨5, .data⟩ (by simp) rfl)).trans eg5
          have e48 := hin 3 48 rfl (hp ⟨3, .data⟩ (by simp) rfl)
          obtain ⟨k3, p3, A3, n3, cC3, ev3, d3⟩ := hF 3 (hp ⟨3, .data⟩ (by simp) rfl)
          rw [ev3] at e48
          have ez := hz5 hl
          subst ez
          have xb := xb5
          have hf : (fun cs w => ∃ k p A n c, cs = #[.int .i64 k, .int .i64 p, .slice A n c] ∧ DIn (Lt N) w (t.kid 1) (c3 k p A n c) : Array Value → World → Prop) #[.int .i64 k3, .int .i64 p3, .slice A3 n3 cC3] w := ⟨_, _, _, _, _, rfl, d3⟩
          refine Does.store_box (T := 24) (cells := #[.int .i64 k3, .int .i64 p3, .slice A3 n3 cC3]) rfl e9 e48 xb (by kernel_rfl) rfl (by simp [Value.oneCell']) (fun w2 x9 o9 => ?_)
          have t9 : (fun w w' => Below W3.heap.size w w') w w2 := (o9.below hG.2.1.size hg5)
          exact ⟨t9, trivial, hG.filled HOK.out (by rfl) (List.Mem.tail _ (List.Mem.head _)) rfl (by decide) eg5 hg5 x9 o9 (HOK.out _ (List.Mem.tail _ (List.Mem.head _)) _ w w2 t9 hf) t9 (hp ⟨5, .data⟩ (by simp) rfl) (fun q hq hqe => by simp only [List.mem_cons, List.not_mem_nil, or_false] at hq; rcases hq with rfl | rfl <;> first | rfl | (simp at hqe))⟩
      · intro listed σ W9 hall hG hF
        rw [show mid _ σ listed _ = (Act.put (Act.put (Act.put (Act.put (Act.put (Act.put (Act.put (Act.put _ (some 45) (σ 0)) (some 46) (σ 1)) (some 47) (σ 2)) (some 48) (σ 3)) (some 8) (σ 4)) (some 9) (σ 5)) none (σ 6)) none (σ 7)) from (mid_all hall).trans rfl]
        obtain ⟨g4, cs4, eg4, hg4, xb4, -, hk4⟩ := GB.at_ hG (List.Mem.head _) (hall 4 (by decide))
        have hk4 := hk4 (hall 6 (by decide))
        obtain ⟨g5, cs5, eg5, hg5, xb5, -, hk5⟩ := GB.at_ hG (List.Mem.tail _ (List.Mem.head _)) (hall 5 (by decide))
        have hk5 := hk5 (hall 7 (by decide))
        have hne4_5 : g4 ≠ g5 := fun e => hG.2.2.2 _ (List.Mem.head _) _ (List.Mem.tail _ (List.Mem.head _)) (show (4:Nat) ≠ 5 by decide) (hall 4 (by decide)) (hall 5 (by decide)) (by rw [eg4, eg5, e])
        rw [show σ 4 = _ from eg4]
        rw [show σ 5 = _ from eg5]
        generalize σ 0 = tt0
        generalize σ 1 = tt1
        generalize σ 2 = tt2
        generalize σ 3 = tt3
        simp only [Act.put, List.setIfInBounds_toArray, List.set_cons_zero, List.set_cons_succ]
        have TG := hG.2.1
        clear hF hG hall eg4 eg5
        clear σ
        obtain ⟨ka, pa, Aa, na, ca, rfl, da⟩ := hk4
        obtain ⟨kb, pb, Ab, nb, cb, rfl, db⟩ := hk5
        have X8 := hide xb4
        have X9 := hide xb5
        have X3 := hide (X3a.out.next TG)
        have X4 := hide (X4a.out.next TG)
        have H1b := hide (H1a.out.keep (Keep.of_below TG))
        have H2b := hide (H2a.out.keep (Keep.of_below TG))
        have BW3 := hide (BW2.out.next TG)
        have hN9 : N ≤ W9.heap.size := Nat.le_trans HN3.out TG.size
        have HIA0 := hide (fun (z : Nat) W (hz9 : z ≤ 3000000) (h : Below W9.heap.size W9 W) (hs : (norm (t.kid 0)).size ≤ Z) => ih (t.kid 0) N ka pa Aa na ca A1 L1.length c1 A2 L2.length c2 z W hs (by omega) (Nat.le_trans hN9 h.size) (da.keep (Keep.of_below h)) (H1b.out.keep (Keep.of_below h)) (H2b.out.keep (Keep.of_below h)))
        have HIA1 := hide (fun (z : Nat) W (hz9 : z ≤ 3000000) (h : Below W9.heap.size W9 W) (hs : (norm (t.kid 1)).size ≤ Z) => ih (t.kid 1) N kb pb Ab nb cb A1 L1.length c1 A2 L2.length c2 z W hs (by omega) (Nat.le_trans hN9 h.size) (db.keep (Keep.of_below h)) (H1b.out.keep (Keep.of_below h)) (H2b.out.keep (Keep.of_below h)))
        unfold HoldsPost at HIA0 HIA1
        have HPB := hide (show ∀ (b : Bool) w', res = b → Below w0.heap.size w0 w' → HoldsPost L1 L2 t x w0 (.returned (.bool b)) w' from fun b w' hb hw => hb ▸ HPO.out w' hw)
        obtain ⟨HP, hHP⟩ : ∃ HP, HP = HV L1 L2 (norm (t.kid 0)) := ⟨_, rfl⟩
        obtain ⟨HQ, hHQ⟩ : ∃ HQ, HQ = HV L1 L2 (norm (t.kid 1)) := ⟨_, rfl⟩
        rw [← hHP] at HIA0
        rw [← hHQ] at HIA1
        have HHP := hide hHP
        have HHQ := hide hHQ
        clear TG SOF xb4 xb5 hg4 hg5 hne4_5 da db X3a X4a H1a H2a HDa HPO HKI hW3 HN3 hHP hHQ ih BW2
        have cc30 := X3.out.cell 0 _ rfl
        go_upto_region 6 with fail
        clear cc30
        by_cases h0 : k = 0
        · subst h0
          have HE := hide (show res = true from by rw [HRES.out, norm_k0 t HK0.out.symm]; rfl)
          go_wp2_with fail
          go_ret
          exact HPB.out _ _ HE.out BW3.out
        · have g0 : (k == 0) = false := by simp; omega
          by_cases h2 : k = 2
          · subst h2
            have HE := hide (show res = hasB (ltrOf (L1 ++ L2) L1.length y) p from by rw [HRES.out, norm_k2 t HK0.out.symm]; rw [HP0.out]; rfl)
            have HLT := hide (fun W (h : Below W9.heap.size W9 W) => letter_any (Lt N) A1 A2 L1.length c1 L2.length c2 L1 L2 y p W (H1b.out.keep (Keep.of_below h)) (H2b.out.keep (Keep.of_below h)) hL2 (by omega) (by omega) (by omega))
            rw [← HE.out] at HLT
            clear HE
            have cc30a := (X3.out.next (Below.refl _ _)).cell 0 _ rfl
            have cc31a := (X3.out.next (Below.refl _ _)).cell 1 _ rfl
            have cc32a := (X3.out.next (Below.refl _ _)).cell 2 _ rfl
            have cc40a := (X4.out.next (Below.refl _ _)).cell 0 _ rfl
            have cc41a := (X4.out.next (Below.refl _ _)).cell 1 _ rfl
            go_wp2_with fail
            refine (HLT.out _ (Below.refl _ _)).mono ?_
            rintro e wq ⟨rfl, bq⟩
            go_wp2_with fail
            go_ret
            exact HPB.out _ _ rfl (BW3.out.next bq)
          · have g2 : (k == 2) = false := by simp; omega
            by_cases h3 : k = 3
            · subst h3
              have HE := hide (show res = !HP y from by rw [HRES.out, norm_k3 t HK0.out.symm]; first | (rw [HHP.out, HHQ.out]; rfl) | (rw [HHP.out]; rfl))
              have HI0 := hide (fun (z : Nat) W (hz9 : z ≤ 3000000) (h : Below W9.heap.size W9 W) => HIA0.out z W hz9 h (by have := norm_k3 t HK0.out.symm; rw [this] at hz; simp only [Pr.size] at hz; omega))
              cases hP : HP y
              · have HE2 := hide (show res = true from by rw [HE.out, hP]; (try rfl))
                have C0 := hide (fun W (h : Below W9.heap.size W9 W) => HI0.out y W (by omega) h)
                rw [hP] at C0
                clear HE hP
                have cc80a := (X8.out.next (Below.refl _ _)).cell 0 _ rfl
                have cc81a := (X8.out.next (Below.refl _ _)).cell 1 _ rfl
                have cc82a := (X8.out.next (Below.refl _ _)).cell 2 _ rfl
                have cc40a := (X4.out.next (Below.refl _ _)).cell 0 _ rfl
                have cc41a := (X4.out.next (Below.refl _ _)).cell 1 _ rfl
                go_wp2_with fail
                refine (C0.out _ (Below.refl _ _)).mono ?_
                rintro e wq ⟨rfl, bq⟩
                have BQ := hide (Below.next (Below.refl _ _) bq)
                clear bq
                go_wp2_with fail
                go_ret
                exact HPB.out _ _ HE2.out (BW3.out.next BQ.out)
              · have HE2 := hide (show res = false from by rw [HE.out, hP]; (try rfl))
                have C0 := hide (fun W (h : Below W9.heap.size W9 W) => HI0.out y W (by omega) h)
                rw [hP] at C0
                clear HE hP
                have cc80a := (X8.out.next (Below.refl _ _)).cell 0 _ rfl
                have cc81a := (X8.out.next (Below.refl _ _)).cell 1 _ rfl
                have cc82a := (X8.out.next (Below.refl _ _)).cell 2 _ rfl
                have cc40a := (X4.out.next (Below.refl _ _)).cell 0 _ rfl
                have cc41a := (X4.out.next (Below.refl _ _)).cell 1 _ rfl
                go_wp2_with fail
                refine (C0.out _ (Below.refl _ _)).mono ?_
                rintro e wq ⟨rfl, bq⟩
                have BQ := hide (Below.next (Below.refl _ _) bq)
                clear bq
                go_wp2_with fail
                go_ret
                exact HPB.out _ _ HE2.out (BW3.out.next BQ.out)
            · have g3 : (k == 3) = false := by simp; omega
              by_cases h4 : k = 4
              · subst h4
                have HE := hide (show res = (HP y && HQ y) from by rw [HRES.out, norm_k4 t HK0.out.symm]; first | (rw [HHP.out, HHQ.out]; rfl) | (rw [HHP.out]; rfl))
                have HI0 := hide (fun (z : Nat) W (hz9 : z ≤ 3000000) (h : Below W9.heap.size W9 W) => HIA0.out z W hz9 h (by have := norm_k4 t HK0.out.symm; rw [this] at hz; simp only [Pr.size] at hz; omega))
                have HI1 := hide (fun (z : Nat) W (hz9 : z ≤ 3000000) (h : Below W9.heap.size W9 W) => HIA1.out z W hz9 h (by have := norm_k4 t HK0.out.symm; rw [this] at hz; simp only [Pr.size] at hz; omega))
                cases hP : HP y
                · have HE2 := hide (show res = false from by rw [HE.out, hP]; (try rfl))
                  have C0 := hide (fun W (h : Below W9.heap.size W9 W) => HI0.out y W (by omega) h)
                  rw [hP] at C0
                  clear HE hP
                  have cc80a := (X8.out.next (Below.refl _ _)).cell 0 _ rfl
                  have cc81a := (X8.out.next (Below.refl _ _)).cell 1 _ rfl
                  have cc82a := (X8.out.next (Below.refl _ _)).cell 2 _ rfl
                  have cc40a := (X4.out.next (Below.refl _ _)).cell 0 _ rfl
                  have cc41a := (X4.out.next (Below.refl _ _)).cell 1 _ rfl
                  go_wp2_with fail
                  refine (C0.out _ (Below.refl _ _)).mono ?_
                  rintro e wq ⟨rfl, bq⟩
                  have BQ := hide (Below.next (Below.refl _ _) bq)
                  clear bq
                  clear cc80a cc81a cc82a cc40a cc41a
                  go_wp2_with fail
                  go_ret
                  exact HPB.out _ _ HE2.out (BW3.out.next BQ.out)
                · cases hQ : HQ y
                  · have HE2 := hide (show res = false from by rw [HE.out, hP, hQ]; (try rfl))
                    have C0 := hide (fun W (h : Below W9.heap.size W9 W) => HI0.out y W (by omega) h)
                    rw [hP] at C0
                    have C1 := hide (fun W (h : Below W9.heap.size W9 W) => HI1.out y W (by omega) h)
                    rw [hQ] at C1
                    clear HE hP hQ
                    have cc80a := (X8.out.next (Below.refl _ _)).cell 0 _ rfl
                    have cc81a := (X8.out.next (Below.refl _ _)).cell 1 _ rfl
                    have cc82a := (X8.out.next (Below.refl _ _)).cell 2 _ rfl
                    have cc40a := (X4.out.next (Below.refl _ _)).cell 0 _ rfl
                    have cc41a := (X4.out.next (Below.refl _ _)).cell 1 _ rfl
                    go_wp2_with fail
                    refine (C0.out _ (Below.refl _ _)).mono ?_
                    rintro e wq ⟨rfl, bq⟩
                    have BQ := hide (Below.next (Below.refl _ _) bq)
                    clear bq
                    clear cc80a cc81a cc82a cc40a cc41a
                    have cc90a := (X9.out.next BQ.out).cell 0 _ rfl
                    have cc91a := (X9.out.next BQ.out).cell 1 _ rfl
                    have cc92a := (X9.out.next BQ.out).cell 2 _ rfl
                    have cc40a := (X4.out.next BQ.out).cell 0 _ rfl
                    have cc41a := (X4.out.next BQ.out).cell 1 _ rfl
                    go_wp2_with fail
                    refine (C1.out _ BQ.out).mono ?_
                    rintro e wq ⟨rfl, bq⟩
                    have BQ2 := hide (Below.next BQ.out bq)
                    clear bq
                    clear cc90a cc91a cc92a cc40a cc41a
                    go_wp2_with fail
                    go_ret
                    exact HPB.out _ _ HE2.out (BW3.out.next BQ2.out)
                  · have HE2 := hide (show res = true from by rw [HE.out, hP, hQ]; (try rfl))
                    have C0 := hide (fun W (h : Below W9.heap.size W9 W) => HI0.out y W (by omega) h)
                    rw [hP] at C0
                    have C1 := hide (fun W (h : Below W9.heap.size W9 W) => HI1.out y W (by omega) h)
                    rw [hQ] at C1
                    clear HE hP hQ
                    have cc80a := (X8.out.next (Below.refl _ _)).cell 0 _ rfl
                    have cc81a := (X8.out.next (Below.refl _ _)).cell 1 _ rfl
                    have cc82a := (X8.out.next (Below.refl _ _)).cell 2 _ rfl
                    have cc40a := (X4.out.next (Below.refl _ _)).cell 0 _ rfl
                    have cc41a := (X4.out.next (Below.refl _ _)).cell 1 _ rfl
                    go_wp2_with fail
                    refine (C0.out _ (Below.refl _ _)).mono ?_
                    rintro e wq ⟨rfl, bq⟩
                    have BQ := hide (Below.next (Below.refl _ _) bq)
                    clear bq
                    clear cc80a cc81a cc82a cc40a cc41a
                    have cc90a := (X9.out.next BQ.out).cell 0 _ rfl
                    have cc91a := (X9.out.next BQ.out).cell 1 _ rfl
                    have cc92a := (X9.out.next BQ.out).cell 2 _ rfl
                    have cc40a := (X4.out.next BQ.out).cell 0 _ rfl
                    have cc41a := (X4.out.next BQ.out).cell 1 _ rfl
                    go_wp2_with fail
                    refine (C1.out _ BQ.out).mono ?_
                    rintro e wq ⟨rfl, bq⟩
                    have BQ2 := hide (Below.next BQ.out bq)
                    clear bq
                    clear cc90a cc91a cc92a cc40a cc41a
                    go_wp2_with fail
                    go_ret
                    exact HPB.out _ _ HE2.out (BW3.out.next BQ2.out)
              · have g4 : (k == 4) = false := by simp; omega
                by_cases h5 : k = 5
                · subst h5
                  have HE := hide (show res = (HP y || HQ y) from by rw [HRES.out, norm_k5 t HK0.out.symm]; first | (rw [HHP.out, HHQ.out]; rfl) | (rw [HHP.out]; rfl))
                  have HI0 := hide (fun (z : Nat) W (hz9 : z ≤ 3000000) (h : Below W9.heap.size W9 W) => HIA0.out z W hz9 h (by have := norm_k5 t HK0.out.symm; rw [this] at hz; simp only [Pr.size] at hz; omega))
                  have HI1 := hide (fun (z : Nat) W (hz9 : z ≤ 3000000) (h : Below W9.heap.size W9 W) => HIA1.out z W hz9 h (by have := norm_k5 t HK0.out.symm; rw [this] at hz; simp only [Pr.size] at hz; omega))
                  cases hP : HP y
                  · cases hQ : HQ y
                    · have HE2 := hide (show res = false from by rw [HE.out, hP, hQ]; (try rfl))
                      have C0 := hide (fun W (h : Below W9.heap.size W9 W) => HI0.out y W (by omega) h)
                      rw [hP] at C0
                      have C1 := hide (fun W (h : Below W9.heap.size W9 W) => HI1.out y W (by omega) h)
                      rw [hQ] at C1
                      clear HE hP hQ
                      have cc80a := (X8.out.next (Below.refl _ _)).cell 0 _ rfl
                      have cc81a := (X8.out.next (Below.refl _ _)).cell 1 _ rfl
                      have cc82a := (X8.out.next (Below.refl _ _)).cell 2 _ rfl
                      have cc40a := (X4.out.next (Below.refl _ _)).cell 0 _ rfl
                      have cc41a := (X4.out.next (Below.refl _ _)).cell 1 _ rfl
                      go_wp2_with fail
                      refine (C0.out _ (Below.refl _ _)).mono ?_
                      rintro e wq ⟨rfl, bq⟩
                      have BQ := hide (Below.next (Below.refl _ _) bq)
                      clear bq
                      clear cc80a cc81a cc82a cc40a cc41a
                      have cc90a := (X9.out.next BQ.out).cell 0 _ rfl
                      have cc91a := (X9.out.next BQ.out).cell 1 _ rfl
                      have cc92a := (X9.out.next BQ.out).cell 2 _ rfl
                      have cc40a := (X4.out.next BQ.out).cell 0 _ rfl
                      have cc41a := (X4.out.next BQ.out).cell 1 _ rfl
                      go_wp2_with fail
                      refine (C1.out _ BQ.out).mono ?_
                      rintro e wq ⟨rfl, bq⟩
                      have BQ2 := hide (Below.next BQ.out bq)
                      clear bq
                      clear cc90a cc91a cc92a cc40a cc41a
                      go_wp2_with fail
                      go_ret
                      exact HPB.out _ _ HE2.out (BW3.out.next BQ2.out)
                    · have HE2 := hide (show res = true from by rw [HE.out, hP, hQ]; (try rfl))
                      have C0 := hide (fun W (h : Below W9.heap.size W9 W) => HI0.out y W (by omega) h)
                      rw [hP] at C0
                      have C1 := hide (fun W (h : Below W9.heap.size W9 W) => HI1.out y W (by omega) h)
                      rw [hQ] at C1
                      clear HE hP hQ
                      have cc80a := (X8.out.next (Below.refl _ _)).cell 0 _ rfl
                      have cc81a := (X8.out.next (Below.refl _ _)).cell 1 _ rfl
                      have cc82a := (X8.out.next (Below.refl _ _)).cell 2 _ rfl
                      have cc40a := (X4.out.next (Below.refl _ _)).cell 0 _ rfl
                      have cc41a := (X4.out.next (Below.refl _ _)).cell 1 _ rfl
                      go_wp2_with fail
                      refine (C0.out _ (Below.refl _ _)).mono ?_
                      rintro e wq ⟨rfl, bq⟩
                      have BQ := hide (Below.next (Below.refl _ _) bq)
                      clear bq
                      clear cc80a cc81a cc82a cc40a cc41a
                      have cc90a := (X9.out.next BQ.out).cell 0 _ rfl
                      have cc91a := (X9.out.next BQ.out).cell 1 _ rfl
                      have cc92a := (X9.out.next BQ.out).cell 2 _ rfl
                      have cc40a := (X4.out.next BQ.out).cell 0 _ rfl
                      have cc41a := (X4.out.next BQ.out).cell 1 _ rfl
                      go_wp2_with fail
                      refine (C1.out _ BQ.out).mono ?_
                      rintro e wq ⟨rfl, bq⟩
                      have BQ2 := hide (Below.next BQ.out bq)
                      clear bq
                      clear cc90a cc91a cc92a cc40a cc41a
                      go_wp2_with fail
                      go_ret
                      exact HPB.out _ _ HE2.out (BW3.out.next BQ2.out)
                  · have HE2 := hide (show res = true from by rw [HE.out, hP]; (try rfl))
                    have C0 := hide (fun W (h : Below W9.heap.size W9 W) => HI0.out y W (by omega) h)
                    rw [hP] at C0
                    clear HE hP
                    have cc80a := (X8.out.next (Below.refl _ _)).cell 0 _ rfl
                    have cc81a := (X8.out.next (Below.refl _ _)).cell 1 _ rfl
                    have cc82a := (X8.out.next (Below.refl _ _)).cell 2 _ rfl
                    have cc40a := (X4.out.next (Below.refl _ _)).cell 0 _ rfl
                    have cc41a := (X4.out.next (Below.refl _ _)).cell 1 _ rfl
                    go_wp2_with fail
                    refine (C0.out _ (Below.refl _ _)).mono ?_
                    rintro e wq ⟨rfl, bq⟩
                    have BQ := hide (Below.next (Below.refl _ _) bq)
                    clear bq
                    clear cc80a cc81a cc82a cc40a cc41a
                    go_wp2_with fail
                    go_ret
                    exact HPB.out _ _ HE2.out (BW3.out.next BQ.out)
                · have g5 : (k == 5) = false := by simp; omega
                  by_cases h7 : k = 7
                  · subst h7
                    have HE := hide (show res = (!HP y || HQ y) from by rw [HRES.out, norm_k7 t HK0.out.symm]; first | (rw [HHP.out, HHQ.out]; rfl) | (rw [HHP.out]; rfl))
                    have HI0 := hide (fun (z : Nat) W (hz9 : z ≤ 3000000) (h : Below W9.heap.size W9 W) => HIA0.out z W hz9 h (by have := norm_k7 t HK0.out.symm; rw [this] at hz; simp only [Pr.size] at hz; omega))
                    have HI1 := hide (fun (z : Nat) W (hz9 : z ≤ 3000000) (h : Below W9.heap.size W9 W) => HIA1.out z W hz9 h (by have := norm_k7 t HK0.out.symm; rw [this] at hz; simp only [Pr.size] at hz; omega))
                    cases hP : HP y
                    · have HE2 := hide (show res = true from by rw [HE.out, hP]; (try rfl))
                      have C0 := hide (fun W (h : Below W9.heap.size W9 W) => HI0.out y W (by omega) h)
                      rw [hP] at C0
                      clear HE hP
                      have cc80a := (X8.out.next (Below.refl _ _)).cell 0 _ rfl
                      have cc81a := (X8.out.next (Below.refl _ _)).cell 1 _ rfl
                      have cc82a := (X8.out.next (Below.refl _ _)).cell 2 _ rfl
                      have cc40a := (X4.out.next (Below.refl _ _)).cell 0 _ rfl
                      have cc41a := (X4.out.next (Below.refl _ _)).cell 1 _ rfl
                      go_wp2_with fail
                      refine (C0.out _ (Below.refl _ _)).mono ?_
                      rintro e wq ⟨rfl, bq⟩
                      have BQ := hide (Below.next (Below.refl _ _) bq)
                      clear bq
                      clear cc80a cc81a cc82a cc40a cc41a
                      go_wp2_with fail
                      go_ret
                      exact HPB.out _ _ HE2.out (BW3.out.next BQ.out)
                    · cases hQ : HQ y
                      · have HE2 := hide (show res = false from by rw [HE.out, hP, hQ]; (try rfl))
                        have C0 := hide (fun W (h : Below W9.heap.size W9 W) => HI0.out y W (by omega) h)
                        rw [hP] at C0
                        have C1 := hide (fun W (h : Below W9.heap.size W9 W) => HI1.out y W (by omega) h)
                        rw [hQ] at C1
                        clear HE hP hQ
                        have cc80a := (X8.out.next (Below.refl _ _)).cell 0 _ rfl
                        have cc81a := (X8.out.next (Below.refl _ _)).cell 1 _ rfl
                        have cc82a := (X8.out.next (Below.refl _ _)).cell 2 _ rfl
                        have cc40a := (X4.out.next (Below.refl _ _)).cell 0 _ rfl
                        have cc41a := (X4.out.next (Below.refl _ _)).cell 1 _ rfl
                        go_wp2_with fail
                        refine (C0.out _ (Below.refl _ _)).mono ?_
                        rintro e wq ⟨rfl, bq⟩
                        have BQ := hide (Below.next (Below.refl _ _) bq)
                        clear bq
                        clear cc80a cc81a cc82a cc40a cc41a
                        have cc90a := (X9.out.next BQ.out).cell 0 _ rfl
                        have cc91a := (X9.out.next BQ.out).cell 1 _ rfl
                        have cc92a := (X9.out.next BQ.out).cell 2 _ rfl
                        have cc40a := (X4.out.next BQ.out).cell 0 _ rfl
                        have cc41a := (X4.out.next BQ.out).cell 1 _ rfl
                        go_wp2_with fail
                        refine (C1.out _ BQ.out).mono ?_
                        rintro e wq ⟨rfl, bq⟩
                        have BQ2 := hide (Below.next BQ.out bq)
                        clear bq
                        clear cc90a cc91a cc92a cc40a cc41a
                        go_wp2_with fail
                        go_ret
                        exact HPB.out _ _ HE2.out (BW3.out.next BQ2.out)
                      · have HE2 := hide (show res = true from by rw [HE.out, hP, hQ]; (try rfl))
                        have C0 := hide (fun W (h : Below W9.heap.size W9 W) => HI0.out y W (by omega) h)
                        rw [hP] at C0
                        have C1 := hide (fun W (h : Below W9.heap.size W9 W) => HI1.out y W (by omega) h)
                        rw [hQ] at C1
                        clear HE hP hQ
                        have cc80a := (X8.out.next (Below.refl _ _)).cell 0 _ rfl
                        have cc81a := (X8.out.next (Below.refl _ _)).cell 1 _ rfl
                        have cc82a := (X8.out.next (Below.refl _ _)).cell 2 _ rfl
                        have cc40a := (X4.out.next (Below.refl _ _)).cell 0 _ rfl
                        have cc41a := (X4.out.next (Below.refl _ _)).cell 1 _ rfl
                        go_wp2_with fail
                        refine (C0.out _ (Below.refl _ _)).mono ?_
                        rintro e wq ⟨rfl, bq⟩
                        have BQ := hide (Below.next (Below.refl _ _) bq)
                        clear bq
                        clear cc80a cc81a cc82a cc40a cc41a
                        have cc90a := (X9.out.next BQ.out).cell 0 _ rfl
                        have cc91a := (X9.out.next BQ.out).cell 1 _ rfl
                        have cc92a := (X9.out.next BQ.out).cell 2 _ rfl
                        have cc40a := (X4.out.next BQ.out).cell 0 _ rfl
                        have cc41a := (X4.out.next BQ.out).cell 1 _ rfl
                        go_wp2_with fail
                        refine (C1.out _ BQ.out).mono ?_
                        rintro e wq ⟨rfl, bq⟩
                        have BQ2 := hide (Below.next BQ.out bq)
                        clear bq
                        clear cc90a cc91a cc92a cc40a cc41a
                        go_wp2_with fail
                        go_ret
                        exact HPB.out _ _ HE2.out (BW3.out.next BQ2.out)
                  · have g7 : (k == 7) = false := by simp; omega
                    by_cases h8 : k = 8
                    · subst h8
                      have HE := hide (show res = HP (y + 1) from by rw [HRES.out, norm_k8 t HK0.out.symm]; first | (rw [HHP.out, HHQ.out]; rfl) | (rw [HHP.out]; rfl))
                      have HI0 := hide (fun (z : Nat) W (hz9 : z ≤ 3000000) (h : Below W9.heap.size W9 W) => HIA0.out z W hz9 h (by have := norm_k8 t HK0.out.symm; rw [this] at hz; simp only [Pr.size] at hz; omega))
                      cases hP : HP (y + 1)
                      · have HE2 := hide (show res = false from by rw [HE.out, hP]; (try rfl))
                        have C0 := hide (fun W (h : Below W9.heap.size W9 W) => HI0.out (y + 1) W (by omega) h)
                        rw [hP] at C0
                        clear HE hP
                        have cc80a := (X8.out.next (Below.refl _ _)).cell 0 _ rfl
                        have cc81a := (X8.out.next (Below.refl _ _)).cell 1 _ rfl
                        have cc82a := (X8.out.next (Below.refl _ _)).cell 2 _ rfl
                        have cc40a := (X4.out.next (Below.refl _ _)).cell 0 _ rfl
                        have cc41a := (X4.out.next (Below.refl _ _)).cell 1 _ rfl
                        go_wp2_with fail
                        refine (C0.out _ (Below.refl _ _)).mono ?_
                        rintro e wq ⟨rfl, bq⟩
                        have BQ := hide (Below.next (Below.refl _ _) bq)
                        clear bq
                        go_wp2_with fail
                        go_ret
                        exact HPB.out _ _ HE2.out (BW3.out.next BQ.out)
                      · have HE2 := hide (show res = true from by rw [HE.out, hP]; (try rfl))
                        have C0 := hide (fun W (h : Below W9.heap.size W9 W) => HI0.out (y + 1) W (by omega) h)
                        rw [hP] at C0
                        clear HE hP
                        have cc80a := (X8.out.next (Below.refl _ _)).cell 0 _ rfl
                        have cc81a := (X8.out.next (Below.refl _ _)).cell 1 _ rfl
                        have cc82a := (X8.out.next (Below.refl _ _)).cell 2 _ rfl
                        have cc40a := (X4.out.next (Below.refl _ _)).cell 0 _ rfl
                        have cc41a := (X4.out.next (Below.refl _ _)).cell 1 _ rfl
                        go_wp2_with fail
                        refine (C0.out _ (Below.refl _ _)).mono ?_
                        rintro e wq ⟨rfl, bq⟩
                        have BQ := hide (Below.next (Below.refl _ _) bq)
                        clear bq
                        go_wp2_with fail
                        go_ret
                        exact HPB.out _ _ HE2.out (BW3.out.next BQ.out)
                    · have g8 : (k == 8) = false := by simp; omega
                      by_cases h9 : k = 9
                      · subst h9
                        have HE := hide (show res = RF (fun _ => false) HP (L1.length + L2.length) y from by rw [HRES.out, norm_k9 t HK0.out.symm]; first | (rw [HHP.out, HHQ.out]; rfl) | (rw [HHP.out]; rfl))
                        have HI0 := hide (fun (z : Nat) W (hz9 : z ≤ 3000000) (h : Below W9.heap.size W9 W) => HIA0.out z W hz9 h (by have := norm_k9 t HK0.out.symm; rw [this] at hz; simp only [Pr.size] at hz; omega))
                        have HS9 := hide (Below.refl W9.heap.size W9)
                        have HE0 := hide (show res = RF (fun _ => false) HP ((y + L1.length + L2.length) - y) y from by rw [HE.out, show (y + L1.length + L2.length) - y = L1.length + L2.length by omega])
                        clear HE
                        go_wp2_with fail
                        go_loopw [10] (fun i wr => ∃ j : Nat, y ≤ j ∧ j ≤ (y + L1.length + L2.length) ∧ i = .int .i64 j ∧ Hid (res = RF (fun _ => false) HP ((y + L1.length + L2.length) - j) j) ∧ Hid (Below W9.heap.size W9 wr)) (fun i _ => (y + L1.length + L2.length) - (intOf i).toNat)
                        case atStart => exact ⟨y, Nat.le_refl _, by omega, rfl, HE0, HS9⟩
                        case round =>
                          obtain ⟨j, hj1, hj2, rfl, HV9, HR⟩ := hrel
                          by_cases hj : j < (y + L1.length + L2.length)
                          · have HST := hide (show RF (fun _ => false) HP ((y + L1.length + L2.length) - j) j = _ from RF_step (fun _ => false) HP hj)
                            cases hP : HP j
                            · have HE2 := hide (show res = false from by rw [HV9.out, HST.out, hP]; (try rfl))
                              have C0 := hide (fun W (h : Below W9.heap.size W9 W) => HI0.out j W (by omega) h)
                              rw [hP] at C0
                              clear HV9 HST hP
                              have cc80a := (X8.out.next HR.out).cell 0 _ rfl
                              have cc81a := (X8.out.next HR.out).cell 1 _ rfl
                              have cc82a := (X8.out.next HR.out).cell 2 _ rfl
                              have cc40a := (X4.out.next HR.out).cell 0 _ rfl
                              have cc41a := (X4.out.next HR.out).cell 1 _ rfl
                              go_wp2_with fail
                              refine (C0.out _ HR.out).mono ?_
                              rintro e wq ⟨rfl, bq⟩
                              have BQ := hide (Below.next HR.out bq)
                              clear bq
                              clear cc80a cc81a cc82a cc40a cc41a
                              go_wp2_with fail
                              go_ret
                              exact HPB.out _ _ HE2.out (BW3.out.next BQ.out)
                            · have HE2 := hide (show res = RF (fun _ => false) HP ((y + L1.length + L2.length) - (j + 1)) (j + 1) from by rw [HV9.out, HST.out, hP]; simp)
                              have C0 := hide (fun W (h : Below W9.heap.size W9 W) => HI0.out j W (by omega) h)
                              rw [hP] at C0
                              clear HV9 HST hP
                              have cc80a := (X8.out.next HR.out).cell 0 _ rfl
                              have cc81a := (X8.out.next HR.out).cell 1 _ rfl
                              have cc82a := (X8.out.next HR.out).cell 2 _ rfl
                              have cc40a := (X4.out.next HR.out).cell 0 _ rfl
                              have cc41a := (X4.out.next HR.out).cell 1 _ rfl
                              go_wp2_with fail
                              refine (C0.out _ HR.out).mono ?_
                              rintro e wq ⟨rfl, bq⟩
                              have BQ := hide (Below.next HR.out bq)
                              clear bq
                              clear cc80a cc81a cc82a cc40a cc41a
                              go_wp2_with fail
                              go_roundw
                              case rel => exact ⟨j + 1, by omega, by omega, by go_num, HE2, BQ⟩
                              case measure => simp [intOf]; omega
                          · have hje : j = (y + L1.length + L2.length) := by omega
                            have HE2 := hide (show res = true from by rw [HV9.out, hje, Nat.sub_self]; (try rfl))
                            clear HV9
                            go_wp2_with fail
                            go_ret
                            exact HPB.out _ _ HE2.out (BW3.out.next HR.out)
                      · have g9 : (k == 9) = false := by simp; omega
                        by_cases h10 : k = 10
                        · subst h10
                          have HE := hide (show res = UF (fun _ => true) HP (L1.length + L2.length) y from by rw [HRES.out, norm_k10 t HK0.out.symm]; first | (rw [HHP.out, HHQ.out]; rfl) | (rw [HHP.out]; rfl))
                          have HI0 := hide (fun (z : Nat) W (hz9 : z ≤ 3000000) (h : Below W9.heap.size W9 W) => HIA0.out z W hz9 h (by have := norm_k10 t HK0.out.symm; rw [this] at hz; simp only [Pr.size] at hz; omega))
                          have HS9 := hide (Below.refl W9.heap.size W9)
                          have HE0 := hide (show res = UF (fun _ => true) HP ((y + L1.length + L2.length) - y) y from by rw [HE.out, show (y + L1.length + L2.length) - y = L1.length + L2.length by omega])
                          clear HE
                          go_wp2_with fail
                          go_loopw [11] (fun i wr => ∃ j : Nat, y ≤ j ∧ j ≤ (y + L1.length + L2.length) ∧ i = .int .i64 j ∧ Hid (res = UF (fun _ => true) HP ((y + L1.length + L2.length) - j) j) ∧ Hid (Below W9.heap.size W9 wr)) (fun i _ => (y + L1.length + L2.length) - (intOf i).toNat)
                          case atStart => exact ⟨y, Nat.le_refl _, by omega, rfl, HE0, HS9⟩
                          case round =>
                            obtain ⟨j, hj1, hj2, rfl, HV9, HR⟩ := hrel
                            by_cases hj : j < (y + L1.length + L2.length)
                            · have HST := hide (show UF (fun _ => true) HP ((y + L1.length + L2.length) - j) j = _ from UF_step (fun _ => true) HP hj)
                              cases hP : HP j
                              · have HE2 := hide (show res = UF (fun _ => true) HP ((y + L1.length + L2.length) - (j + 1)) (j + 1) from by rw [HV9.out, HST.out, hP]; simp)
                                have C0 := hide (fun W (h : Below W9.heap.size W9 W) => HI0.out j W (by omega) h)
                                rw [hP] at C0
                                clear HV9 HST hP
                                have cc80a := (X8.out.next HR.out).cell 0 _ rfl
                                have cc81a := (X8.out.next HR.out).cell 1 _ rfl
                                have cc82a := (X8.out.next HR.out).cell 2 _ rfl
                                have cc40a := (X4.out.next HR.out).cell 0 _ rfl
                                have cc41a := (X4.out.next HR.out).cell 1 _ rfl
                                go_wp2_with fail
                                refine (C0.out _ HR.out).mono ?_
                                rintro e wq ⟨rfl, bq⟩
                                have BQ := hide (Below.next HR.out bq)
                                clear bq
                                clear cc80a cc81a cc82a cc40a cc41a
                                go_wp2_with fail
                                go_roundw
                                case rel => exact ⟨j + 1, by omega, by omega, by go_num, HE2, BQ⟩
                                case measure => simp [intOf]; omega
                              · have HE2 := hide (show res = true from by rw [HV9.out, HST.out, hP]; (try rfl))
                                have C0 := hide (fun W (h : Below W9.heap.size W9 W) => HI0.out j W (by omega) h)
                                rw [hP] at C0
                                clear HV9 HST hP
                                have cc80a := (X8.out.next HR.out).cell 0 _ rfl
                                have cc81a := (X8.out.next HR.out).cell 1 _ rfl
                                have cc82a := (X8.out.next HR.out).cell 2 _ rfl
                                have cc40a := (X4.out.next HR.out).cell 0 _ rfl
                                have cc41a := (X4.out.next HR.out).cell 1 _ rfl
                                go_wp2_with fail
                                refine (C0.out _ HR.out).mono ?_
                                rintro e wq ⟨rfl, bq⟩
                                have BQ := hide (Below.next HR.out bq)
                                clear bq
                                clear cc80a cc81a cc82a cc40a cc41a
                                go_wp2_with fail
                                go_ret
                                exact HPB.out _ _ HE2.out (BW3.out.next BQ.out)
                            · have hje : j = (y + L1.length + L2.length) := by omega
                              have HE2 := hide (show res = false from by rw [HV9.out, hje, Nat.sub_self]; (try rfl))
                              clear HV9
                              go_wp2_with fail
                              go_ret
                              exact HPB.out _ _ HE2.out (BW3.out.next HR.out)
                        · have g10 : (k == 10) = false := by simp; omega
                          by_cases h11 : k = 11
                          · subst h11
                            have HE := hide (show res = UF HP HQ (L1.length + L2.length) y from by rw [HRES.out, norm_k11 t HK0.out.symm]; first | (rw [HHP.out, HHQ.out]; rfl) | (rw [HHP.out]; rfl))
                            have HI0 := hide (fun (z : Nat) W (hz9 : z ≤ 3000000) (h : Below W9.heap.size W9 W) => HIA0.out z W hz9 h (by have := norm_k11 t HK0.out.symm; rw [this] at hz; simp only [Pr.size] at hz; omega))
                            have HI1 := hide (fun (z : Nat) W (hz9 : z ≤ 3000000) (h : Below W9.heap.size W9 W) => HIA1.out z W hz9 h (by have := norm_k11 t HK0.out.symm; rw [this] at hz; simp only [Pr.size] at hz; omega))
                            have HS9 := hide (Below.refl W9.heap.size W9)
                            have HE0 := hide (show res = UF HP HQ ((y + L1.length + L2.length) - y) y from by rw [HE.out, show (y + L1.length + L2.length) - y = L1.length + L2.length by omega])
                            clear HE
                            go_wp2_with fail
                            go_loopw [12] (fun i wr => ∃ j : Nat, y ≤ j ∧ j ≤ (y + L1.length + L2.length) ∧ i = .int .i64 j ∧ Hid (res = UF HP HQ ((y + L1.length + L2.length) - j) j) ∧ Hid (Below W9.heap.size W9 wr)) (fun i _ => (y + L1.length + L2.length) - (intOf i).toNat)
                            case atStart => exact ⟨y, Nat.le_refl _, by omega, rfl, HE0, HS9⟩
                            case round =>
                              obtain ⟨j, hj1, hj2, rfl, HV9, HR⟩ := hrel
                              by_cases hj : j < (y + L1.length + L2.length)
                              · have HST := hide (show UF HP HQ ((y + L1.length + L2.length) - j) j = _ from UF_step HP HQ hj)
                                cases hQ : HQ j
                                · cases hP : HP j
                                  · have HE2 := hide (show res = false from by rw [HV9.out, HST.out, hQ, hP]; (try rfl))
                                    have C1 := hide (fun W (h : Below W9.heap.size W9 W) => HI1.out j W (by omega) h)
                                    rw [hQ] at C1
                                    have C0 := hide (fun W (h : Below W9.heap.size W9 W) => HI0.out j W (by omega) h)
                                    rw [hP] at C0
                                    clear HV9 HST hQ hP
                                    have cc90a := (X9.out.next HR.out).cell 0 _ rfl
                                    have cc91a := (X9.out.next HR.out).cell 1 _ rfl
                                    have cc92a := (X9.out.next HR.out).cell 2 _ rfl
                                    have cc40a := (X4.out.next HR.out).cell 0 _ rfl
                                    have cc41a := (X4.out.next HR.out).cell 1 _ rfl
                                    go_wp2_with fail
                                    refine (C1.out _ HR.out).mono ?_
                                    rintro e wq ⟨rfl, bq⟩
                                    have BQ := hide (Below.next HR.out bq)
                                    clear bq
                                    clear cc90a cc91a cc92a cc40a cc41a
                                    have cc80a := (X8.out.next BQ.out).cell 0 _ rfl
                                    have cc81a := (X8.out.next BQ.out).cell 1 _ rfl
                                    have cc82a := (X8.out.next BQ.out).cell 2 _ rfl
                                    have cc40a := (X4.out.next BQ.out).cell 0 _ rfl
                                    have cc41a := (X4.out.next BQ.out).cell 1 _ rfl
                                    go_wp2_with fail
                                    refine (C0.out _ BQ.out).mono ?_
                                    rintro e wq ⟨rfl, bq⟩
                                    have BQ2 := hide (Below.next BQ.out bq)
                                    clear bq
                                    clear cc80a cc81a cc82a cc40a cc41a
                                    go_wp2_with fail
                                    go_ret
                                    exact HPB.out _ _ HE2.out (BW3.out.next BQ2.out)
                                  · have HE2 := hide (show res = UF HP HQ ((y + L1.length + L2.length) - (j + 1)) (j + 1) from by rw [HV9.out, HST.out, hQ, hP]; simp)
                                    have C1 := hide (fun W (h : Below W9.heap.size W9 W) => HI1.out j W (by omega) h)
                                    rw [hQ] at C1
                                    have C0 := hide (fun W (h : Below W9.heap.size W9 W) => HI0.out j W (by omega) h)
                                    rw [hP] at C0
                                    clear HV9 HST hQ hP
                                    have cc90a := (X9.out.next HR.out).cell 0 _ rfl
                                    have cc91a := (X9.out.next HR.out).cell 1 _ rfl
                                    have cc92a := (X9.out.next HR.out).cell 2 _ rfl
                                    have cc40a := (X4.out.next HR.out).cell 0 _ rfl
                                    have cc41a := (X4.out.next HR.out).cell 1 _ rfl
                                    go_wp2_with fail
                                    refine (C1.out _ HR.out).mono ?_
                                    rintro e wq ⟨rfl, bq⟩
                                    have BQ := hide (Below.next HR.out bq)
                                    clear bq
                                    clear cc90a cc91a cc92a cc40a cc41a
                                    have cc80a := (X8.out.next BQ.out).cell 0 _ rfl
                                    have cc81a := (X8.out.next BQ.out).cell 1 _ rfl
                                    have cc82a := (X8.out.next BQ.out).cell 2 _ rfl
                                    have cc40a := (X4.out.next BQ.out).cell 0 _ rfl
                                    have cc41a := (X4.out.next BQ.out).cell 1 _ rfl
                                    go_wp2_with fail
                                    refine (C0.out _ BQ.out).mono ?_
                                    rintro e wq ⟨rfl, bq⟩
                                    have BQ2 := hide (Below.next BQ.out bq)
                                    clear bq
                                    clear cc80a cc81a cc82a cc40a cc41a
                                    go_wp2_with fail
                                    go_roundw
                                    case rel => exact ⟨j + 1, by omega, by omega, by go_num, HE2, BQ2⟩
                                    case measure => simp [intOf]; omega
                                · have HE2 := hide (show res = true from by rw [HV9.out, HST.out, hQ]; (try rfl))
                                  have C1 := hide (fun W (h : Below W9.heap.size W9 W) => HI1.out j W (by omega) h)
                                  rw [hQ] at C1
                                  clear HV9 HST hQ
                                  have cc90a := (X9.out.next HR.out).cell 0 _ rfl
                                  have cc91a := (X9.out.next HR.out).cell 1 _ rfl
                                  have cc92a := (X9.out.next HR.out).cell 2 _ rfl
                                  have cc40a := (X4.out.next HR.out).cell 0 _ rfl
                                  have cc41a := (X4.out.next HR.out).cell 1 _ rfl
                                  go_wp2_with fail
                                  refine (C1.out _ HR.out).mono ?_
                                  rintro e wq ⟨rfl, bq⟩
                                  have BQ := hide (Below.next HR.out bq)
                                  clear bq
                                  clear cc90a cc91a cc92a cc40a cc41a
                                  go_wp2_with fail
                                  go_ret
                                  exact HPB.out _ _ HE2.out (BW3.out.next BQ.out)
                              · have hje : j = (y + L1.length + L2.length) := by omega
                                have HE2 := hide (show res = false from by rw [HV9.out, hje, Nat.sub_self]; (try rfl))
                                clear HV9
                                go_wp2_with fail
                                go_ret
                                exact HPB.out _ _ HE2.out (BW3.out.next HR.out)
                          · have g11 : (k == 11) = false := by simp; omega
                            by_cases h12 : k = 12
                            · subst h12
                              have HE := hide (show res = RF HP HQ (L1.length + L2.length) y from by rw [HRES.out, norm_k12 t HK0.out.symm]; first | (rw [HHP.out, HHQ.out]; rfl) | (rw [HHP.out]; rfl))
                              have HI0 := hide (fun (z : Nat) W (hz9 : z ≤ 3000000) (h : Below W9.heap.size W9 W) => HIA0.out z W hz9 h (by have := norm_k12 t HK0.out.symm; rw [this] at hz; simp only [Pr.size] at hz; omega))
                              have HI1 := hide (fun (z : Nat) W (hz9 : z ≤ 3000000) (h : Below W9.heap.size W9 W) => HIA1.out z W hz9 h (by have := norm_k12 t HK0.out.symm; rw [this] at hz; simp only [Pr.size] at hz; omega))
                              have HS9 := hide (Below.refl W9.heap.size W9)
                              have HE0 := hide (show res = RF HP HQ ((y + L1.length + L2.length) - y) y from by rw [HE.out, show (y + L1.length + L2.length) - y = L1.length + L2.length by omega])
                              clear HE
                              go_wp2_with fail
                              go_loopw [13] (fun i wr => ∃ j : Nat, y ≤ j ∧ j ≤ (y + L1.length + L2.length) ∧ i = .int .i64 j ∧ Hid (res = RF HP HQ ((y + L1.length + L2.length) - j) j) ∧ Hid (Below W9.heap.size W9 wr)) (fun i _ => (y + L1.length + L2.length) - (intOf i).toNat)
                              case atStart => exact ⟨y, Nat.le_refl _, by omega, rfl, HE0, HS9⟩
                              case round =>
                                obtain ⟨j, hj1, hj2, rfl, HV9, HR⟩ := hrel
                                by_cases hj : j < (y + L1.length + L2.length)
                                · have HST := hide (show RF HP HQ ((y + L1.length + L2.length) - j) j = _ from RF_step HP HQ hj)
                                  cases hQ : HQ j
                                  · have HE2 := hide (show res = false from by rw [HV9.out, HST.out, hQ]; (try rfl))
                                    have C1 := hide (fun W (h : Below W9.heap.size W9 W) => HI1.out j W (by omega) h)
                                    rw [hQ] at C1
                                    clear HV9 HST hQ
                                    have cc90a := (X9.out.next HR.out).cell 0 _ rfl
                                    have cc91a := (X9.out.next HR.out).cell 1 _ rfl
                                    have cc92a := (X9.out.next HR.out).cell 2 _ rfl
                                    have cc40a := (X4.out.next HR.out).cell 0 _ rfl
                                    have cc41a := (X4.out.next HR.out).cell 1 _ rfl
                                    go_wp2_with fail
                                    refine (C1.out _ HR.out).mono ?_
                                    rintro e wq ⟨rfl, bq⟩
                                    have BQ := hide (Below.next HR.out bq)
                                    clear bq
                                    clear cc90a cc91a cc92a cc40a cc41a
                                    go_wp2_with fail
                                    go_ret
                                    exact HPB.out _ _ HE2.out (BW3.out.next BQ.out)
                                  · cases hP : HP j
                                    · have HE2 := hide (show res = RF HP HQ ((y + L1.length + L2.length) - (j + 1)) (j + 1) from by rw [HV9.out, HST.out, hQ, hP]; simp)
                                      have C1 := hide (fun W (h : Below W9.heap.size W9 W) => HI1.out j W (by omega) h)
                                      rw [hQ] at C1
                                      have C0 := hide (fun W (h : Below W9.heap.size W9 W) => HI0.out j W (by omega) h)
                                      rw [hP] at C0
                                      clear HV9 HST hQ hP
                                      have cc90a := (X9.out.next HR.out).cell 0 _ rfl
                                      have cc91a := (X9.out.next HR.out).cell 1 _ rfl
                                      have cc92a := (X9.out.next HR.out).cell 2 _ rfl
                                      have cc40a := (X4.out.next HR.out).cell 0 _ rfl
                                      have cc41a := (X4.out.next HR.out).cell 1 _ rfl
                                      go_wp2_with fail
                                      refine (C1.out _ HR.out).mono ?_
                                      rintro e wq ⟨rfl, bq⟩
                                      have BQ := hide (Below.next HR.out bq)
                                      clear bq
                                      clear cc90a cc91a cc92a cc40a cc41a
                                      have cc80a := (X8.out.next BQ.out).cell 0 _ rfl
                                      have cc81a := (X8.out.next BQ.out).cell 1 _ rfl
                                      have cc82a := (X8.out.next BQ.out).cell 2 _ rfl
                                      have cc40a := (X4.out.next BQ.out).cell 0 _ rfl
                                      have cc41a := (X4.out.next BQ.out).cell 1 _ rfl
                                      go_wp2_with fail
                                      refine (C0.out _ BQ.out).mono ?_
                                      rintro e wq ⟨rfl, bq⟩
                                      have BQ2 := hide (Below.next BQ.out bq)
                                      clear bq
                                      clear cc80a cc81a cc82a cc40a cc41a
                                      go_wp2_with fail
                                      go_roundw
                                      case rel => exact ⟨j + 1, by omega, by omega, by go_num, HE2, BQ2⟩
                                      case measure => simp [intOf]; omega
                                    · have HE2 := hide (show res = true from by rw [HV9.out, HST.out, hQ, hP]; (try rfl))
                                      have C1 := hide (fun W (h : Below W9.heap.size W9 W) => HI1.out j W (by omega) h)
                                      rw [hQ] at C1
                                      have C0 := hide (fun W (h : Below W9.heap.size W9 W) => HI0.out j W (by omega) h)
                                      rw [hP] at C0
                                      clear HV9 HST hQ hP
                                      have cc90a := (X9.out.next HR.out).cell 0 _ rfl
                                      have cc91a := (X9.out.next HR.out).cell 1 _ rfl
                                      have cc92a := (X9.out.next HR.out).cell 2 _ rfl
                                      have cc40a := (X4.out.next HR.out).cell 0 _ rfl
                                      have cc41a := (X4.out.next HR.out).cell 1 _ rfl
                                      go_wp2_with fail
                                      refine (C1.out _ HR.out).mono ?_
                                      rintro e wq ⟨rfl, bq⟩
                                      have BQ := hide (Below.next HR.out bq)
                                      clear bq
                                      clear cc90a cc91a cc92a cc40a cc41a
                                      have cc80a := (X8.out.next BQ.out).cell 0 _ rfl
                                      have cc81a := (X8.out.next BQ.out).cell 1 _ rfl
                                      have cc82a := (X8.out.next BQ.out).cell 2 _ rfl
                                      have cc40a := (X4.out.next BQ.out).cell 0 _ rfl
                                      have cc41a := (X4.out.next BQ.out).cell 1 _ rfl
                                      go_wp2_with fail
                                      refine (C0.out _ BQ.out).mono ?_
                                      rintro e wq ⟨rfl, bq⟩
                                      have BQ2 := hide (Below.next BQ.out bq)
                                      clear bq
                                      clear cc80a cc81a cc82a cc40a cc41a
                                      go_wp2_with fail
                                      go_ret
                                      exact HPB.out _ _ HE2.out (BW3.out.next BQ2.out)
                                · have hje : j = (y + L1.length + L2.length) := by omega
                                  have HE2 := hide (show res = true from by rw [HV9.out, hje, Nat.sub_self]; (try rfl))
                                  clear HV9
                                  go_wp2_with fail
                                  go_ret
                                  exact HPB.out _ _ HE2.out (BW3.out.next HR.out)
                            · have g12 : (k == 12) = false := by simp; omega
                              have HE := hide (show res = false from by rw [HRES.out, norm_other t (by rw [← HK0.out]; exact h0) (by rw [← HK0.out]; exact h2) (by rw [← HK0.out]; exact arity_none h3 h8 h9 h10 h4 h5 h7 h11 h12)]; rfl)
                              clear h0 h2 h3 h4 h5 h7 h8 h9 h10 h11 h12
                              go_wp2_with fail
                              go_ret
                              exact HPB.out _ _ HE.out BW3.out
end Go.Proofs.Ytljocjjdfgpbaaa
