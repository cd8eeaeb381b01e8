/- Texts of one seat, put together: WordLawS. -/
import Derived.Test.YtljocjjdfgpbaaaB29
import Derived.Test.YtljocjjdfgpbaaaB33
import Derived.Test.YtljocjjdfgpbaaaB23
set_option linter.unusedVariables false
/- The law WordShifts, walked. -/
namespace Go.Proofs.Ytljocjjdfgpbaaa
open Go.RowKit
open Wo

theorem LettersPost.eq {S : Nat → Prop} {F : Nat} {args : Array Value} {w : World} {M : List (List Bool)} (L1 L2 : List (List Bool)) (fr : Nat) {k : Nat} (hk : k = 9) (e : lettersOf L1 L2 fr 9 = M) (h : Calls Try.prog F args w (LettersPost S (lettersOf L1 L2 fr k) w)) :
    Calls Try.prog F args w (fun e w' => ∃ A c, e = .returned (.slice A 9 c) ∧ LsIn (Up S w.heap.size) w' A 9 M ∧ Below w.heap.size w w') := by
  subst hk
  subst e
  refine h.mono ?_
  rintro e w' ⟨A, c, rfl, h1, h2⟩
  rw [lettersOf_len] at h1 ⊢
  exact ⟨A, c, rfl, h1, h2⟩
theorem lettersOf_small {L1 L2 : List (List Bool)} (h1 : ∀ l ∈ L1, l.length ≤ 1000000) (h2 : ∀ l ∈ L2, l.length ≤ 1000000) (x n : Nat) : ∀ l ∈ lettersOf L1 L2 x n, l.length ≤ 1000000 := by
  intro l hl
  obtain ⟨i, -, rfl⟩ := List.mem_map.1 hl
  have hg : ∀ (L : List (List Bool)), (∀ l ∈ L, l.length ≤ 1000000) → ∀ j, (L.getD j []).length ≤ 1000000 := fun L h j => by
    rw [List.getD_eq_getElem?_getD]
    cases hj : L[j]? with
    | none => exact Nat.zero_le _
    | some m => exact h m (List.mem_of_getElem? hj)
  rcases Nat.lt_or_ge (x + i) L1.length with q | q
  · rw [WL_stem q]; exact hg L1 h1 _
  · rw [WL_cycle q]; exact hg L2 h2 _
/-- What Shift answers, whatever the word. -/
theorem shift_all (S : Nat → Prop) (A1 : Option Addr) (c1 : Nat) (A2 : Option Addr) (c2 : Nat) (L1 L2 : List (List Bool)) (n : Int) (W : World) (h1 : LsIn S W A1 L1.length L1) (h2 : LsIn S W A2 L2.length L2) (h9 : L1.length + L2.length ≤ 7) (hl1 : ∀ l ∈ L1, l.length ≤ 1000000) (hl2 : ∀ l ∈ L2, l.length ≤ 1000000)
    (hc1 : L1.length ≤ c1) (hc19 : c1 ≤ 9223372036854775807) (hc2 : L2.length ≤ c2) (hc29 : c2 ≤ 9223372036854775807) (hn9 : n ≤ 9223372036854775807) :
    ∃ M1 M2, (∀ w, Below W.heap.size W w → Calls Try.prog 10 #[.agg #[.slice A1 L1.length c1, .slice A2 L2.length c2], .int .i64 n] w (WordPost M1 M2 w)) ∧ (L2.length = 0 → M1 = [] ∧ M2 = []) ∧
      (0 < L2.length → 0 < M2.length ∧ M1.length + M2.length ≤ 500000 ∧ ∀ x, WL M1 M2 x = WL L1 L2 (n.toNat + x)) := by
  rcases Nat.eq_zero_or_pos L2.length with hz | hz
  · refine ⟨[], [], fun w _ => ?_, fun _ => ⟨rfl, rfl⟩, fun h => by omega⟩
    rw [hz]
    exact wshift_none A1 L1.length c1 A2 c2 n w
  · rcases Nat.lt_or_ge (pos L1.length L2.length n.toNat) L1.length with hp | hp
    · refine ⟨_, _, fun w hb => wshift_stem S A1 c1 A2 c2 L1 L2 n w (h1.keep (Keep.of_below hb)) (h2.keep (Keep.of_below hb)) hz (by omega) hl1 hl2 hc1 hc19 hn9 hp, fun h => by omega, fun _ => ⟨hz, by rw [List.length_drop]; omega, fun x => WL_shift_stem hz hp x⟩⟩
    · have hlt := pos_lt (b := L1.length) (x := n.toNat) hz
      refine ⟨_, _, fun w hb => wshift_cycle S A1 c1 A2 c2 L1 L2 n w (h1.keep (Keep.of_below hb)) (h2.keep (Keep.of_below hb)) hz (by omega) hl2 hc2 hc29 hn9 (pos L1.length L2.length n.toNat - L1.length) (by omega), fun h => by omega, fun _ => ⟨?_, ?_, fun x => WL_shift_cycle hz (by omega) x⟩⟩
      · rw [List.length_append, List.length_drop, List.length_take]; omega
      · rw [List.length_append, List.length_drop, List.length_take, List.length_nil]; omega
theorem unroll_all (S : Nat → Prop) (A1 : Option Addr) (c1 : Nat) (A2 : Option Addr) (c2 : Nat) (L1 L2 : List (List Bool)) (n : Int) (W : World) (h1 : LsIn S W A1 L1.length L1) (h2 : LsIn S W A2 L2.length L2) (h9 : L1.length + L2.length ≤ 7) (hl1 : ∀ l ∈ L1, l.length ≤ 1000000) (hl2 : ∀ l ∈ L2, l.length ≤ 1000000) (hn9 : n ≤ 9223372036854775807) :
    ∃ M1 M2, (∀ w, Below W.heap.size W w → Calls Try.prog 11 #[.agg #[.slice A1 L1.length c1, .slice A2 L2.length c2], .int .i64 n] w (WordPost M1 M2 w)) ∧ (L2.length = 0 → M1 = [] ∧ M2 = []) ∧
      (0 < L2.length → 0 < M2.length ∧ M1.length + M2.length ≤ 500000 ∧ (∀ x, WL M1 M2 x = WL L1 L2 x) ∧ M1.length = L1.length + min n.toNat 64 * L2.length) := by
  rcases Nat.eq_zero_or_pos L2.length with hz | hz
  · refine ⟨[], [], fun w _ => ?_, fun _ => ⟨rfl, rfl⟩, fun h => by omega⟩
    rw [hz]
    exact wunroll_none A1 L1.length c1 A2 c2 n w
  · have hm : min n.toNat 64 * L2.length ≤ 64 * 7 := Nat.mul_le_mul (by omega) (by omega)
    have hl := rep_len L2 (min n.toNat 64)
    refine ⟨_, _, fun w hb => wunroll_any S A1 c1 A2 c2 L1 L2 n _ w (h1.keep (Keep.of_below hb)) (h2.keep (Keep.of_below hb)) hz (by omega) hl1 hl2 hn9 rfl, fun h => by omega, fun _ => ⟨hz, ?_, fun x => WL_unroll hz _ x, ?_⟩⟩
    · rw [List.length_append, hl]; omega
    · rw [List.length_append, hl]
set_option maxRecDepth 100000 in
set_option maxHeartbeats 32000000 in
theorem wordShifts_any (kd pr : Int) (A : Option Addr) (n c : Nat) (t : LT) (A1 : Option Addr) (c1 : Nat) (L1 : List (List Bool)) (A2 : Option Addr) (c2 : Nat) (L2 : List (List Bool)) (at_ : Int) (W : World)
    (hd : DIn Some_ W t (c3 kd pr A n c)) (h1 : LsIn Some_ W A1 L1.length L1) (h2 : LsIn Some_ W A2 L2.length L2) (hc1 : L1.length ≤ c1) (hc19 : c1 ≤ 9223372036854775807) (hc2 : L2.length ≤ c2) (hc29 : c2 ≤ 9223372036854775807) (hn : L1.length ≤ 4611686018427387903) (hm : L2.length ≤ 4611686018427387903) (hx9 : at_ ≤ 9223372036854775807) :
    Calls Try.prog 3 #[.agg #[.int .i64 kd, .int .i64 pr, .slice A n c], .agg #[.slice A1 L1.length c1, .slice A2 L2.length c2], .int .i64 at_] W (WYes W) := by
  obtain ⟨x3, x4, hb, hbz⟩ := bstart2 24 27 W #[.int .i64 kd, .int .i64 pr, .slice A n c] #[.slice A1 L1.length c1, .slice A2 L2.length c2]
  have HB := hide hb
  have X3 := hide x3
  have X4 := hide x4
  have HF := hide (fun w (h : Below W.heap.size W w) => lfew_any Some_ t kd pr A n c A1 L1.length c1 A2 L2.length c2 L1 L2 w (hd.keep (Keep.of_below h)) (h1.keep (Keep.of_below h)) (h2.keep (Keep.of_below h)) hn hm)
  have HD := hide (hd.sub (S' := Lt W.heap.size) (fun b hlt _ => hlt))
  have DW1 := hide h1
  have DW2 := hide h2
  have HX9 := hide hx9
  have HCC := hide (And.intro hc1 (And.intro hc19 (And.intro hc2 hc29)))
  clear hb hbz hd h1 h2 x3 x4 hx9 hc1 hc19 hc2 hc29
  have HY := hide (show ∀ w', Below W.heap.size W w' → WYes W (.returned (.bool true)) w' from fun w' h => ⟨rfl, h⟩)
  go_enter Try.func3, Try.ntmps3
  go_wp2_with fail
  refine (lalive_any _).mono ?_
  rintro e w2 ⟨rfl, b2⟩
  have HB2 := hide (HB.out.next b2)
  have X3 := hide (X3.out.next b2)
  have X4 := hide (X4.out.next b2)
  clear b2
  have C0 := X3.out.cell 0 _ rfl
  have C1 := X3.out.cell 1 _ rfl
  have C2 := X3.out.cell 2 _ rfl
  have C3 := X4.out.cell 0 _ rfl
  have C4 := X4.out.cell 1 _ rfl
  go_wp2_with fail
  refine (HF.out _ HB2.out).mono ?_
  rintro e w3 ⟨bf, rfl, hf, b3⟩
  have HB3 := hide (HB2.out.next b3)
  have X3 := hide (X3.out.next b3)
  have X4 := hide (X4.out.next b3)
  clear b3 C0 C1 C2 C3 C4
  cases bf
  case false =>
    clear hf
    go_wp2_with fail
    go_ret
    exact HY.out _ HB3.out
  obtain ⟨-, hl, hf1, hf2⟩ := hf rfl
  have HL := hide hl
  have hl1 : ∀ l ∈ L1, l.length ≤ 1000000 := fun l h => by obtain ⟨j, hj⟩ := List.getElem?_of_mem h; have := hf1 j l hj; omega
  have hl2 : ∀ l ∈ L2, l.length ≤ 1000000 := fun l h => by obtain ⟨j, hj⟩ := List.getElem?_of_mem h; have := hf2 j l hj; omega
  obtain ⟨Ls1, Ls2, hsh, hsz, hsn⟩ := shift_all Some_ A1 c1 A2 c2 L1 L2 at_ W DW1.out DW2.out hl hl1 hl2 HCC.out.1 HCC.out.2.1 HCC.out.2.2.1 HCC.out.2.2.2 HX9.out
  obtain ⟨Lu1, Lu2, hun, huz, hunn⟩ := unroll_all Some_ A1 c1 A2 c2 L1 L2 at_ W DW1.out DW2.out hl hl1 hl2 HX9.out
  obtain ⟨x, hx⟩ : ∃ x, x = at_.toNat := ⟨_, rfl⟩
  rw [← hx] at hsn hunn
  have HX := hide hx.symm
  have HL1 := hide hl1
  have HL2 := hide hl2
  have HSH := hide hsh
  have HUN := hide hun
  have FZ := hide (fun hz : L2.length = 0 => (⟨(hsz hz).1, (hsz hz).2, (huz hz).1, (huz hz).2⟩ : Ls1 = [] ∧ Ls2 = [] ∧ Lu1 = [] ∧ Lu2 = []))
  have FN := hide (fun h : 0 < L2.length => (⟨(hsn h).1, (hsn h).2.1, (hunn h).1, (hunn h).2.1, (hsn h).2.2, (hunn h).2.2.1, (hunn h).2.2.2⟩ : 0 < Ls2.length ∧ Ls1.length + Ls2.length ≤ 500000 ∧ 0 < Lu2.length ∧ Lu1.length + Lu2.length ≤ 500000 ∧ (∀ y, WL Ls1 Ls2 y = WL L1 L2 (x + y)) ∧ (∀ y, WL Lu1 Lu2 y = WL L1 L2 y) ∧ Lu1.length = L1.length + min x 64 * L2.length))
  clear hf hl hf1 hf2 hl1 hl2 hsh hsz hsn hun huz hunn hx HF hn hm HCC
  go_upto_region 5 with fail
  have SOF := hide (fun w (h : Below w3.heap.size w3 w) => (⟨(X3.out.next h).cell 0 _ rfl, (X3.out.next h).cell 1 _ rfl, (X3.out.next h).cell 2 _ rfl, (X4.out.next h).cell 0 _ rfl, (X4.out.next h).cell 1 _ rfl⟩ : _ ∧ _ ∧ _ ∧ _ ∧ _))
  refine wp_drawnL (by kernel_rfl) (by kernel_rfl) (by kernel_rfl) (by kernel_rfl) (fun _ _ => True) (fun j v w => match j with | 0 => v = .agg #[.slice A1 L1.length c1, .slice A2 L2.length c2] | 1 => v = .int .i64 at_ | 2 => True | 3 => v = .agg #[.slice A1 L1.length c1, .slice A2 L2.length c2] | 4 => v = .int .i64 at_ | 5 => True | 6 => True | 7 => True | 8 => True | _ => True) (fun listed σ w => (listed.getD 8 false = false ∧ GQ w3 (spW 2 6 Ls1 Ls2) (spW 5 7 Lu1 Lu2) listed σ w) ∨ (listed.getD 8 false = true ∧ GQ2 w3 (spW 2 6 Ls1 Ls2) (spW 5 7 Lu1 Lu2) σ id w)) ?_ (fun _ => .inl ⟨rep_false _ _, GQ.start (bl_drewN w3 1)⟩) ?_ ?_
  · intro j v w w' hT h
    match j, h with
    | 0, h => exact h
    | 1, h => exact h
    | 2, h => trivial
    | 3, h => exact h
    | 4, h => exact h
    | 5, h => trivial
    | 6, h => trivial
    | 7, h => trivial
    | 8, h => trivial
    | j + 9, h => trivial
  · refine ⟨?_, ?_, ?_, ?_, ?_, ?_, ?_, ?_, ?_, trivial⟩
    · intro listed σ w a hin hout hl hla hs hc hp hG hF
      refine Guarded.none rfl ?_
      have h8 : listed.getD 8 false = false := (un_next (k := 8) hc hl (by kernel_rfl))
      have hG := (hG.resolve_right (fun h => by rw [h8] at h; cases h.1)).2
      have e4 : a.tmps.getD 4 undef = .pointer (some ⟨W.heap.size + 1, 0, none⟩) := hout 4 (outB_spec (by kernel_rfl))
      have CC := SOF.out w hG.below; obtain ⟨C0, C1, C2, C3, C4⟩ := CC
      refine Does.val (.agg #[.slice A1 L1.length c1, .slice A2 L2.length c2]) (w' := w) ?_ ⟨trivial, rfl, .inl ⟨(by rw [getD_set_ne false (show (0 : Nat) ≠ 8 by decide)]; exact h8), hG.next (spW_ok 2 6 Ls1 Ls2) (spW_ok 5 7 Lu1 Lu2) (Below.refl _ _) (show (0 : Nat) ≠ 2 ∧ (0 : Nat) ≠ 5 ∧ (0 : Nat) ≠ 6 ∧ (0 : Nat) ≠ 7 by decide)⟩⟩
      go_simp
    · intro listed σ w a hin hout hl hla hs hc hp hG hF
      refine Guarded.none rfl ?_
      have h8 : listed.getD 8 false = false := (un_next (k := 8) hc hl (by kernel_rfl))
      have hG := (hG.resolve_right (fun h => by rw [h8] at h; cases h.1)).2
      have e2 : a.tmps.getD 2 undef = .int .i64 at_ := hout 2 (outB_spec (by kernel_rfl))
      refine Does.val (.int .i64 at_) (w' := w) ?_ ⟨trivial, rfl, .inl ⟨(by rw [getD_set_ne false (show (1 : Nat) ≠ 8 by decide)]; exact h8), hG.next (spW_ok 2 6 Ls1 Ls2) (spW_ok 5 7 Lu1 Lu2) (Below.refl _ _) (show (1 : Nat) ≠ 2 ∧ (1 : Nat) ≠ 5 ∧ (1 : Nat) ≠ 6 ∧ (1 : Nat) ≠ 7 by decide)⟩⟩
      simp only [Array.getD_eq_getD_getElem?] at e2
      go_simp
    · intro listed σ w a hin hout hl hla hs hc hp hG hF
      refine Guarded.none rfl ?_
      have h8 : listed.getD 8 false = false := (un_next (k := 8) hc hl (by kernel_rfl))
      have hG := (hG.resolve_right (fun h => by rw [h8] at h; cases h.1)).2
      have e16 : a.tmps.getD 16 undef = .agg #[.slice A1 L1.length c1, .slice A2 L2.length c2] := (hin 0 16 rfl (hp ⟨0, .data⟩ (by simp) rfl)).trans (hF 0 (hp ⟨0, .data⟩ (by simp) rfl))
      have e17 : a.tmps.getD 17 undef = .int .i64 at_ := (hin 1 17 rfl (hp ⟨1, .data⟩ (by simp) rfl)).trans (hF 1 (hp ⟨1, .data⟩ (by simp) rfl))
      refine Does.call ?_ (HSH.out w (HB3.out.next hG.below)) ?_
      · go_simp
      · rintro e w' ⟨A, c, B, d, rfl, hd1, hd2, hb⟩
        exact ⟨_, rfl, trivial, trivial, .inl ⟨(by rw [getD_set_ne false (show (2 : Nat) ≠ 8 by decide)]; exact h8), hG.call (by kernel_rfl) (spW_ok 2 6 Ls1 Ls2) (spW_ok 5 7 Lu1 Lu2) (.inl rfl) rfl hb ⟨_, _, _, _, rfl, hd1.sub (fun b hlt h => .inr ⟨h, hlt⟩), hd2.sub (fun b hlt h => .inr ⟨h, hlt⟩)⟩⟩⟩
    · intro listed σ w a hin hout hl hla hs hc hp hG hF
      refine Guarded.none rfl ?_
      have h8 : listed.getD 8 false = false := (un_next (k := 8) hc (un_next (k := 5) hc hl (by kernel_rfl)) (by kernel_rfl))
      have hG := (hG.resolve_right (fun h => by rw [h8] at h; cases h.1)).2
      have e4 : a.tmps.getD 4 undef = .pointer (some ⟨W.heap.size + 1, 0, none⟩) := hout 4 (outB_spec (by kernel_rfl))
      have CC := SOF.out w hG.below; obtain ⟨C0, C1, C2, C3, C4⟩ := CC
      refine Does.val (.agg #[.slice A1 L1.length c1, .slice A2 L2.length c2]) (w' := w) ?_ ⟨trivial, rfl, .inl ⟨(by rw [getD_set_ne false (show (3 : Nat) ≠ 8 by decide)]; exact h8), hG.next (spW_ok 2 6 Ls1 Ls2) (spW_ok 5 7 Lu1 Lu2) (Below.refl _ _) (show (3 : Nat) ≠ 2 ∧ (3 : Nat) ≠ 5 ∧ (3 : Nat) ≠ 6 ∧ (3 : Nat) ≠ 7 by decide)⟩⟩
      go_simp
    · intro listed σ w a hin hout hl hla hs hc hp hG hF
      refine Guarded.none rfl ?_
      have h8 : listed.getD 8 false = false := (un_next (k := 8) hc (un_next (k := 5) hc hl (by kernel_rfl)) (by kernel_rfl))
      have hG := (hG.resolve_right (fun h => by rw [h8] at h; cases h.1)).2
      have e2 : a.tmps.getD 2 undef = .int .i64 at_ := hout 2 (outB_spec (by kernel_rfl))
      refine Does.val (.int .i64 at_) (w' := w) ?_ ⟨trivial, rfl, .inl ⟨(by rw [getD_set_ne false (show (4 : Nat) ≠ 8 by decide)]; exact h8), hG.next (spW_ok 2 6 Ls1 Ls2) (spW_ok 5 7 Lu1 Lu2) (Below.refl _ _) (show (4 : Nat) ≠ 2 ∧ (4 : Nat) ≠ 5 ∧ (4 : Nat) ≠ 6 ∧ (4 : Nat) ≠ 7 by decide)⟩⟩
      simp only [Array.getD_eq_getD_getElem?] at e2
      go_simp
    · intro listed σ w a hin hout hl hla hs hc hp hG hF
      refine Guarded.none rfl ?_
      have h8 : listed.getD 8 false = false := (un_next (k := 8) hc hl (by kernel_rfl))
      have hG := (hG.resolve_right (fun h => by rw [h8] at h; cases h.1)).2
      have e19 : a.tmps.getD 19 undef = .agg #[.slice A1 L1.length c1, .slice A2 L2.length c2] := (hin 3 19 rfl (hp ⟨3, .data⟩ (by simp) rfl)).trans (hF 3 (hp ⟨3, .data⟩ (by simp) rfl))
      have e20 : a.tmps.getD 20 undef = .int .i64 at_ := (hin 4 20 rfl (hp ⟨4, .data⟩ (by simp) rfl)).trans (hF 4 (hp ⟨4, .data⟩ (by simp) rfl))
      refine Does.call ?_ (HUN.out w (HB3.out.next hG.below)) ?_
      · go_simp
      · rintro e w' ⟨A, c, B, d, rfl, hd1, hd2, hb⟩
        exact ⟨_, rfl, trivial, trivial, .inl ⟨(by rw [getD_set_ne false (show (5 : Nat) ≠ 8 by decide)]; exact h8), hG.call (by kernel_rfl) (spW_ok 2 6 Ls1 Ls2) (spW_ok 5 7 Lu1 Lu2) (.inr rfl) rfl hb ⟨_, _, _, _, rfl, hd1.sub (fun b hlt h => .inr ⟨h, hlt⟩), hd2.sub (fun b hlt h => .inr ⟨h, hlt⟩)⟩⟩⟩
    · intro listed σ w a hin hout hl hla hs hc hp hG hF
      refine Guarded.none rfl ?_
      have h8 : listed.getD 8 false = false := (un_next (k := 8) hc hl (by kernel_rfl))
      have hG := (hG.resolve_right (fun h => by rw [h8] at h; cases h.1)).2
      refine Does.val (.pointer (some ⟨w.heap.size, 0, none⟩)) (w' := w.alloc (.cells #[.slice none 0 0, .slice none 0 0] 27)) ?_ ⟨trivial, trivial, .inl ⟨(by rw [getD_set_ne false (show (6 : Nat) ≠ 8 by decide)]; exact h8), hG.made (by kernel_rfl) (spW_ok 2 6 Ls1 Ls2) (spW_ok 5 7 Lu1 Lu2) (.inl rfl) rfl⟩⟩
      go_simp
    · intro listed σ w a hin hout hl hla hs hc hp hG hF
      refine Guarded.none rfl ?_
      have h8 : listed.getD 8 false = false := (un_next (k := 8) hc hl (by kernel_rfl))
      have hG := (hG.resolve_right (fun h => by rw [h8] at h; cases h.1)).2
      refine Does.val (.pointer (some ⟨w.heap.size, 0, none⟩)) (w' := w.alloc (.cells #[.slice none 0 0, .slice none 0 0] 27)) ?_ ⟨trivial, trivial, .inl ⟨(by rw [getD_set_ne false (show (7 : Nat) ≠ 8 by decide)]; exact h8), hG.made (by kernel_rfl) (spW_ok 2 6 Ls1 Ls2) (spW_ok 5 7 Lu1 Lu2) (.inr rfl) rfl⟩⟩
      go_simp
    · intro listed σ w a hin hout hl hla hs hc hp hG hF
      refine Guarded.none rfl ?_
      have hG := (hG.resolve_right (fun h => by rw [hl] at h; cases h.1)).2
      obtain ⟨hb, g1, g2, cs1, cs2, e1, e2, eg1, eg2, hg1, hg2, hne, b1, b2, p1, p2⟩ := hG.all (spW_ok 2 6 Ls1 Ls2) (spW_ok 5 7 Lu1 Lu2) (hp ⟨2, .data⟩ (by simp) rfl) (hp ⟨5, .chain⟩ (by simp) rfl) (hp ⟨6, .data⟩ (by simp) rfl) (hp ⟨7, .phase⟩ (by simp) rfl)
      have hpp := p1
      obtain ⟨A9, c9, B9, d9, rfl, h91, h92⟩ := p1
      have e7 := (hin 6 7 rfl (hp ⟨6, .data⟩ (by simp) rfl)).trans eg1
      have e18 := (hin 2 18 rfl (hp ⟨2, .data⟩ (by simp) rfl)).trans e1
      refine Does.store_box (T := 27) (cells := #[.slice A9 Ls1.length c9, .slice B9 Ls2.length d9]) rfl e7 e18 b1 (by kernel_rfl) rfl (by simp [Value.oneCell']) (fun w2 x9 o9 => ?_)
      have h9 : 8 < listed.size := by rw [show listed.size = 10 from hs]; decide
      exact ⟨trivial, trivial, .inr ⟨(by simp [Array.getD, h9]), hb.trans (o9.below hb.size hg1), g1, g2, _, _, ((upd_ne σ undef (show (2 : Nat) ≠ 8 by decide)).trans e1), ((upd_ne σ undef (show (5 : Nat) ≠ 8 by decide)).trans e2), ((upd_ne σ undef (show (6 : Nat) ≠ 8 by decide)).trans eg1), ((upd_ne σ undef (show (7 : Nat) ≠ 8 by decide)).trans eg2), hg1, hg2, hne, x9, b2.other o9 (Ne.symm hne), ((spW_ok 2 6 Ls1 Ls2)).keep _ _ _ _ (Keep.of_only o9 (fun h => h.1 rfl)) hpp, ((spW_ok 5 7 Lu1 Lu2)).keep _ _ _ _ (Keep.of_only o9 (fun h => h.1 rfl)) p2⟩⟩
  · intro o ho
    injection ho with ho; subst ho
    intro listed σ w a hall hin hout hG hF
    refine Guarded.none rfl ?_
    obtain ⟨hb, g1b, g2b, cs1, cs2, e1, e2, eg1, eg2, hg1, hg2, hne, b1, b2, p1, p2⟩ := (hG.resolve_left (fun h => by have h7 := hall 8 (by decide); rw [h.1] at h7; cases h7)).2
    replace eg1 : σ 6 = .pointer (some ⟨g1b, 0, none⟩) := eg1
    replace eg2 : σ 7 = .pointer (some ⟨g2b, 0, none⟩) := eg2
    have P91 := p1
    have hqq := p2
    obtain ⟨A9, c9, B9, d9, rfl, h91, h92⟩ := p2
    have e8 := (hin 7 8 rfl (by decide)).trans eg2
    have e21 := (hin 5 21 rfl (by decide)).trans e2
    refine Does.store_box (T := 27) (cells := #[.slice A9 Lu1.length c9, .slice B9 Lu2.length d9]) rfl e8 e21 b2 (by kernel_rfl) rfl (by simp [Value.oneCell']) (fun Wb x92 o9 => ?_)
    have HB9b := hide (hb.trans (o9.below hb.size hg2))
    have x91 : Box 27 Wb g1b cs1 := b1.other o9 hne
    have P91 := ((spW_ok 2 6 Ls1 Ls2)).keep _ _ _ _ (Keep.of_only o9 (fun h => h.2 rfl)) P91
    have P92 := ((spW_ok 5 7 Lu1 Lu2)).keep _ _ _ _ (Keep.of_only o9 (fun h => h.2 rfl)) hqq
    rw [show fin _ σ undef _ = (Act.put (Act.put (Act.put (Act.put (Act.put (Act.put (Act.put (Act.put (Act.put (Act.put _ (some 16) (σ 0)) (some 17) (σ 1)) (some 18) (σ 2)) (some 19) (σ 3)) (some 20) (σ 4)) (some 21) (σ 5)) (some 7) (σ 6)) (some 8) (σ 7)) none (σ 8)) none undef) from (fin_all hall).trans rfl]
    simp only [Act.put, List.setIfInBounds_toArray, List.set_cons_zero, List.set_cons_succ]
    rw [eg1, eg2]
    have X91b := hide x91
    have X92b := hide x92
    have P91b := hide P91
    have P92b := hide P92
    have HNEb := hide hne
    clear hF hG hall hin hout SOF hb e1 e2 eg1 eg2 b1 b2 p1 o9 hqq e8 e21 x91 x92 hne
    generalize σ 0 = tt0 ; generalize σ 1 = tt1 ; generalize σ 2 = tt2 ; generalize σ 3 = tt3 ; generalize σ 4 = tt4 ; generalize σ 5 = tt5 ; generalize σ 6 = tt6 ; generalize σ 7 = tt7 ; generalize σ 8 = tt8 
    clear σ
    obtain ⟨As, cs, Bs, ds, rfl, h95, h96⟩ := P91b.out
    have DS1 := hide (h95.sub (S' := Some_) (fun _ _ _ => trivial))
    have DS2 := hide (h96.sub (S' := Some_) (fun _ _ _ => trivial))
    have X7 := hide X91b.out
    clear h95 h96 P91b X91b
    obtain ⟨Au, cu, Bu, du, hcs, h95, h96⟩ := P92b.out
    simp only [Array.mk.injEq, List.cons.injEq, Value.slice.injEq, and_true, true_and] at hcs
    obtain ⟨⟨q01, q02⟩, q03, q04⟩ := hcs
    subst A9 c9 B9 d9
    have DU1 := hide (h95.sub (S' := Some_) (fun _ _ _ => trivial))
    have DU2 := hide (h96.sub (S' := Some_) (fun _ _ _ => trivial))
    have X8 := hide X92b.out
    clear h95 h96 P92b X92b
    have HBb := hide (HB3.out.next HB9b.out)
    have X3 := hide (X3.out.next HB9b.out)
    have X4 := hide (X4.out.next HB9b.out)
    clear HB9b HNEb HSH HUN
    have C4 := X4.out.cell 1 _ rfl
    by_cases hz : L2.length = 0
    · obtain ⟨e1, e2, e3, e4⟩ := FZ.out hz
      subst e1 e2 e3 e4
      have D0 := X7.out.cell 0 _ rfl
      have D1 := X7.out.cell 1 _ rfl
      have D2 := X8.out.cell 0 _ rfl
      have D3 := X8.out.cell 1 _ rfl
      simp only [List.length_nil] at D0 D1 D2 D3
      rw [hz] at C4
      clear X3 X4 X7 X8 HD DW1 DW2 HL DS1 DS2 DU1 DU2 FZ FN
      go_wp2_with fail
      go_ret
      exact HY.out _ HBb.out
    have g0 : ((L2.length : Int) == 0) = false := by rw [beq_eq_false_iff_ne]; omega
    obtain ⟨HS0, HS9, HU0, HU9, hws, hwu, hlu⟩ := FN.out (by omega)
    have HS0 := hide HS0
    have HS9 := hide HS9
    have HU0 := hide HU0
    have HU9 := hide HU9
    have HN0 := hide (show 0 < L2.length by omega)
    have HN9 := hide (show L1.length + L2.length ≤ 500000 by have := HL.out; omega)
    obtain ⟨rr, hrr⟩ : ∃ rr, rr = HV L1 L2 (norm t) x := ⟨_, rfl⟩
    obtain ⟨r3, hr3⟩ : ∃ r3, r3 = HV L1 L2 (norm t) 3 := ⟨_, rfl⟩
    have VW := hide hrr.symm
    have VW3 := hide hr3.symm
    have VS := hide (show HV Ls1 Ls2 (norm t) 0 = rr from (H_shift (k := x) (perL L1 L2) HN0.out (perL Ls1 Ls2) HS0.out hws (norm t) 0).trans hrr.symm)
    have VU := hide (show HV Lu1 Lu2 (norm t) 3 = r3 from (H_shift (k := 0) (perL L1 L2) HN0.out (perL Lu1 Lu2) HU0.out (fun y => (hwu y).trans (by rw [Nat.zero_add]; rfl)) (norm t) 3).trans (by rw [Nat.zero_add]; exact hr3.symm))
    have ES := hide (show lettersOf Ls1 Ls2 0 9 = lettersOf L1 L2 x 9 from by unfold lettersOf; exact List.map_congr_left (fun i _ => by rw [Nat.zero_add]; exact hws i))
    have EU := hide (show lettersOf Lu1 Lu2 0 9 = lettersOf L1 L2 0 9 from by unfold lettersOf; exact List.map_congr_left (fun i _ => hwu _))
    have HLUX := hide hlu
    clear hrr hr3 hws hwu hlu FN FZ hz
    go_upto_region 8 with fail
    clear C4 g0
    have SOF := hide (fun w (h : Below Wb.heap.size Wb w) => (⟨(X3.out.next h).cell 0 _ rfl, (X3.out.next h).cell 1 _ rfl, (X3.out.next h).cell 2 _ rfl, (X4.out.next h).cell 0 _ rfl, (X4.out.next h).cell 1 _ rfl, (X7.out.next h).cell 0 _ rfl, (X7.out.next h).cell 1 _ rfl, (X8.out.next h).cell 0 _ rfl, (X8.out.next h).cell 1 _ rfl⟩ : _ ∧ _ ∧ _ ∧ _ ∧ _ ∧ _ ∧ _ ∧ _ ∧ _))
    refine wp_drawn (by kernel_rfl) (by kernel_rfl) (by kernel_rfl) (fun w w' => Below w.heap.size w w') (fun j v w => match j with | 0 => v = .agg #[.int .i64 kd, .int .i64 pr, .slice A n c] | 1 => v = .agg #[.slice As Ls1.length cs, .slice Bs Ls2.length ds] | 2 => v = .bool rr | 3 => v = .agg #[.int .i64 kd, .int .i64 pr, .slice A n c] | 4 => v = .agg #[.slice A1 L1.length c1, .slice A2 L2.length c2] | 5 => v = .int .i64 at_ | 6 => v = .bool rr | 7 => v = .bool false | 8 => v = .bool false | 9 => v = .agg #[.int .i64 kd, .int .i64 pr, .slice A n c] | 10 => v = .agg #[.slice Au Lu1.length cu, .slice Bu Lu2.length du] | 11 => v = .bool r3 | 12 => v = .agg #[.int .i64 kd, .int .i64 pr, .slice A n c] | 13 => v = .agg #[.slice A1 L1.length c1, .slice A2 L2.length c2] | 14 => v = .bool r3 | 15 => v = .bool false | 16 => v = .bool false | _ => True) (fun _ _ w => Below Wb.heap.size Wb w) ?_ (fun _ => bl_drewN Wb 1) ?_ ?_
    · intro j v w w' hT h
      match j, h with
      | 0, h => exact h
      | 1, h => exact h
      | 2, h => exact h
      | 3, h => exact h
      | 4, h => exact h
      | 5, h => exact h
      | 6, h => exact h
      | 7, h => exact h
      | 8, h => exact h
      | 9, h => exact h
      | 10, h => exact h
      | 11, h => exact h
      | 12, h => exact h
      | 13, h => exact h
      | 14, h => exact h
      | 15, h => exact h
      | 16, h => exact h
      | j + 17, h => trivial
    · refine ⟨?_, ?_, ?_, ?_, ?_, ?_, ?_, ?_, ?_, ?_, ?_, ?_, ?_, ?_, ?_, ?_, ?_, trivial⟩
      · intro listed σ w a hin hout hl hc hp hG hF
        refine Guarded.none rfl ?_
        have e3 : a.tmps.getD 3 undef = .pointer (some ⟨W.heap.size, 0, none⟩) := hout 3 (outB_spec (by kernel_rfl))
        have CC := SOF.out w hG; obtain ⟨C0, C1, C2, C3, C4, C5, C6, C7, C8⟩ := CC
        refine Does.val (.agg #[.int .i64 kd, .int .i64 pr, .slice A n c]) (w' := w) ?_ ⟨Below.refl _ _, rfl, hG⟩
        go_simp
      · intro listed σ w a hin hout hl hc hp hG hF
        refine Guarded.none rfl ?_
        have e7 : a.tmps.getD 7 undef = .pointer (some ⟨g1b, 0, none⟩) := hout 7 (outB_spec (by kernel_rfl))
        have CC := SOF.out w hG; obtain ⟨C0, C1, C2, C3, C4, C5, C6, C7, C8⟩ := CC
        refine Does.val (.agg #[.slice As Ls1.length cs, .slice Bs Ls2.length ds]) (w' := w) ?_ ⟨Below.refl _ _, rfl, hG⟩
        go_simp
      · intro listed σ w a hin hout hl hc hp hG hF
        refine Guarded.none rfl ?_
        have e42 : a.tmps.getD 42 undef = .agg #[.int .i64 kd, .int .i64 pr, .slice A n c] := (hin 0 42 rfl (hp ⟨0, .data⟩ (by simp) rfl)).trans (hF 0 (hp ⟨0, .data⟩ (by simp) rfl))
        have e43 : a.tmps.getD 43 undef = .agg #[.slice As Ls1.length cs, .slice Bs Ls2.length ds] := (hin 1 43 rfl (hp ⟨1, .data⟩ (by simp) rfl)).trans (hF 1 (hp ⟨1, .data⟩ (by simp) rfl))
        refine Does.call ?_ (hv_call Some_ t kd pr A n c As cs Bs ds Ls1 Ls2 (0 : Int) 0 rr w ((HD.out.keep (Keep.of_below (HBb.out.next hG))).sub (fun _ _ _ => trivial)) (DS1.out.keep (Keep.of_below hG)) (DS2.out.keep (Keep.of_below hG)) HS0.out HS9.out (by omega) rfl VS.out) ?_
        · go_simp
        · rintro e w' ⟨rfl, hb⟩
          exact ⟨_, rfl, hb, rfl, hG.next hb⟩
      · intro listed σ w a hin hout hl hc hp hG hF
        refine Guarded.none rfl ?_
        have e3 : a.tmps.getD 3 undef = .pointer (some ⟨W.heap.size, 0, none⟩) := hout 3 (outB_spec (by kernel_rfl))
        have CC := SOF.out w hG; obtain ⟨C0, C1, C2, C3, C4, C5, C6, C7, C8⟩ := CC
        refine Does.val (.agg #[.int .i64 kd, .int .i64 pr, .slice A n c]) (w' := w) ?_ ⟨Below.refl _ _, rfl, hG⟩
        go_simp
      · intro listed σ w a hin hout hl hc hp hG hF
        refine Guarded.none rfl ?_
        have e4 : a.tmps.getD 4 undef = .pointer (some ⟨W.heap.size + 1, 0, none⟩) := hout 4 (outB_spec (by kernel_rfl))
        have CC := SOF.out w hG; obtain ⟨C0, C1, C2, C3, C4, C5, C6, C7, C8⟩ := CC
        refine Does.val (.agg #[.slice A1 L1.length c1, .slice A2 L2.length c2]) (w' := w) ?_ ⟨Below.refl _ _, rfl, hG⟩
        go_simp
      · intro listed σ w a hin hout hl hc hp hG hF
        refine Guarded.none rfl ?_
        have e2 : a.tmps.getD 2 undef = .int .i64 at_ := hout 2 (outB_spec (by kernel_rfl))
        refine Does.val (.int .i64 at_) (w' := w) ?_ ⟨Below.refl _ _, rfl, hG⟩
        simp only [Array.getD_eq_getD_getElem?] at e2
        go_simp
      · intro listed σ w a hin hout hl hc hp hG hF
        refine Guarded.none rfl ?_
        have e45 : a.tmps.getD 45 undef = .agg #[.int .i64 kd, .int .i64 pr, .slice A n c] := (hin 3 45 rfl (hp ⟨3, .data⟩ (by simp) rfl)).trans (hF 3 (hp ⟨3, .data⟩ (by simp) rfl))
        have e46 : a.tmps.getD 46 undef = .agg #[.slice A1 L1.length c1, .slice A2 L2.length c2] := (hin 4 46 rfl (hp ⟨4, .data⟩ (by simp) rfl)).trans (hF 4 (hp ⟨4, .data⟩ (by simp) rfl))
        have e47 : a.tmps.getD 47 undef = .int .i64 at_ := (hin 5 47 rfl (hp ⟨5, .data⟩ (by simp) rfl)).trans (hF 5 (hp ⟨5, .data⟩ (by simp) rfl))
        refine Does.call ?_ (hv_call Some_ t kd pr A n c A1 c1 A2 c2 L1 L2 at_ x rr w ((HD.out.keep (Keep.of_below (HBb.out.next hG))).sub (fun _ _ _ => trivial)) (DW1.out.keep (Keep.of_below (HBb.out.next hG))) (DW2.out.keep (Keep.of_below (HBb.out.next hG))) HN0.out HN9.out HX9.out HX.out VW.out) ?_
        · go_simp
        · rintro e w' ⟨rfl, hb⟩
          exact ⟨_, rfl, hb, rfl, hG.next hb⟩
      · intro listed σ w a hin hout hl hc hp hG hF
        refine Guarded.none rfl ?_
        have e44 : a.tmps.getD 44 undef = .bool rr := (hin 2 44 rfl (hp ⟨2, .data⟩ (by simp) rfl)).trans (hF 2 (hp ⟨2, .data⟩ (by simp) rfl))
        have e48 : a.tmps.getD 48 undef = .bool rr := (hin 6 48 rfl (hp ⟨6, .data⟩ (by simp) rfl)).trans (hF 6 (hp ⟨6, .data⟩ (by simp) rfl))
        refine Does.val (.bool false) (w' := w) ?_ ⟨Below.refl _ _, rfl, hG⟩
        simp only [Array.getD_eq_getD_getElem?] at e44 e48
        go_simp
      · intro listed σ w a hin hout hl hc hp hG hF
        refine Guarded.none rfl ?_
        have e49 : a.tmps.getD 49 undef = .bool false := (hin 7 49 rfl (hp ⟨7, .data⟩ (by simp) rfl)).trans (hF 7 (hp ⟨7, .data⟩ (by simp) rfl))
        refine Does.val (.bool false) (w' := w) ?_ ⟨Below.refl _ _, rfl, hG⟩
        simp only [Array.getD_eq_getD_getElem?] at e49
        go_simp
      · intro listed σ w a hin hout hl hc hp hG hF
        refine Guarded.some (d := 50) (b := false) rfl rfl ((hin 8 50 rfl (hp ⟨8, .guard⟩ (by simp) rfl)).trans (hF 8 (hp ⟨8, .guard⟩ (by simp) rfl))) ?_
        refine Or.inl ⟨rfl, ?_⟩
        have e3 : a.tmps.getD 3 undef = .pointer (some ⟨W.heap.size, 0, none⟩) := hout 3 (outB_spec (by kernel_rfl))
        have CC := SOF.out w hG; obtain ⟨C0, C1, C2, C3, C4, C5, C6, C7, C8⟩ := CC
        refine Does.val (.agg #[.int .i64 kd, .int .i64 pr, .slice A n c]) (w' := w) ?_ ⟨Below.refl _ _, rfl, hG⟩
        go_simp
      · intro listed σ w a hin hout hl hc hp hG hF
        refine Guarded.some (d := 50) (b := false) rfl rfl ((hin 8 50 rfl (hp ⟨8, .guard⟩ (by simp) rfl)).trans (hF 8 (hp ⟨8, .guard⟩ (by simp) rfl))) ?_
        refine Or.inl ⟨rfl, ?_⟩
        have e8 : a.tmps.getD 8 undef = .pointer (some ⟨g2b, 0, none⟩) := hout 8 (outB_spec (by kernel_rfl))
        have CC := SOF.out w hG; obtain ⟨C0, C1, C2, C3, C4, C5, C6, C7, C8⟩ := CC
        refine Does.val (.agg #[.slice Au Lu1.length cu, .slice Bu Lu2.length du]) (w' := w) ?_ ⟨Below.refl _ _, rfl, hG⟩
        go_simp
      · intro listed σ w a hin hout hl hc hp hG hF
        refine Guarded.some (d := 50) (b := false) rfl rfl ((hin 8 50 rfl (hp ⟨8, .guard⟩ (by simp) rfl)).trans (hF 8 (hp ⟨8, .guard⟩ (by simp) rfl))) ?_
        refine Or.inl ⟨rfl, ?_⟩
        have e51 : a.tmps.getD 51 undef = .agg #[.int .i64 kd, .int .i64 pr, .slice A n c] := (hin 9 51 rfl (hp ⟨9, .data⟩ (by simp) rfl)).trans (hF 9 (hp ⟨9, .data⟩ (by simp) rfl))
        have e52 : a.tmps.getD 52 undef = .agg #[.slice Au Lu1.length cu, .slice Bu Lu2.length du] := (hin 10 52 rfl (hp ⟨10, .data⟩ (by simp) rfl)).trans (hF 10 (hp ⟨10, .data⟩ (by simp) rfl))
        refine Does.call ?_ (hv_call Some_ t kd pr A n c Au cu Bu du Lu1 Lu2 (3 : Int) 3 r3 w ((HD.out.keep (Keep.of_below (HBb.out.next hG))).sub (fun _ _ _ => trivial)) (DU1.out.keep (Keep.of_below hG)) (DU2.out.keep (Keep.of_below hG)) HU0.out HU9.out (by omega) rfl VU.out) ?_
        · go_simp
        · rintro e w' ⟨rfl, hb⟩
          exact ⟨_, rfl, hb, rfl, hG.next hb⟩
      · intro listed σ w a hin hout hl hc hp hG hF
        refine Guarded.some (d := 50) (b := false) rfl rfl ((hin 8 50 rfl (hp ⟨8, .guard⟩ (by simp) rfl)).trans (hF 8 (hp ⟨8, .guard⟩ (by simp) rfl))) ?_
        refine Or.inl ⟨rfl, ?_⟩
        have e3 : a.tmps.getD 3 undef = .pointer (some ⟨W.heap.size, 0, none⟩) := hout 3 (outB_spec (by kernel_rfl))
        have CC := SOF.out w hG; obtain ⟨C0, C1, C2, C3, C4, C5, C6, C7, C8⟩ := CC
        refine Does.val (.agg #[.int .i64 kd, .int .i64 pr, .slice A n c]) (w' := w) ?_ ⟨Below.refl _ _, rfl, hG⟩
        go_simp
      · intro listed σ w a hin hout hl hc hp hG hF
        refine Guarded.some (d := 50) (b := false) rfl rfl ((hin 8 50 rfl (hp ⟨8, .guard⟩ (by simp) rfl)).trans (hF 8 (hp ⟨8, .guard⟩ (by simp) rfl))) ?_
        refine Or.inl ⟨rfl, ?_⟩
        have e4 : a.tmps.getD 4 undef = .pointer (some ⟨W.heap.size + 1, 0, none⟩) := hout 4 (outB_spec (by kernel_rfl))
        have CC := SOF.out w hG; obtain ⟨C0, C1, C2, C3, C4, C5, C6, C7, C8⟩ := CC
        refine Does.val (.agg #[.slice A1 L1.length c1, .slice A2 L2.length c2]) (w' := w) ?_ ⟨Below.refl _ _, rfl, hG⟩
        go_simp
      · intro listed σ w a hin hout hl hc hp hG hF
        refine Guarded.some (d := 50) (b := false) rfl rfl ((hin 8 50 rfl (hp ⟨8, .guard⟩ (by simp) rfl)).trans (hF 8 (hp ⟨8, .guard⟩ (by simp) rfl))) ?_
        refine Or.inl ⟨rfl, ?_⟩
        have e54 : a.tmps.getD 54 undef = .agg #[.int .i64 kd, .int .i64 pr, .slice A n c] := (hin 12 54 rfl (hp ⟨12, .data⟩ (by simp) rfl)).trans (hF 12 (hp ⟨12, .data⟩ (by simp) rfl))
        have e55 : a.tmps.getD 55 undef = .agg #[.slice A1 L1.length c1, .slice A2 L2.length c2] := (hin 13 55 rfl (hp ⟨13, .data⟩ (by simp) rfl)).trans (hF 13 (hp ⟨13, .data⟩ (by simp) rfl))
        refine Does.call ?_ (hv_call Some_ t kd pr A n c A1 c1 A2 c2 L1 L2 (3 : Int) 3 r3 w ((HD.out.keep (Keep.of_below (HBb.out.next hG))).sub (fun _ _ _ => trivial)) (DW1.out.keep (Keep.of_below (HBb.out.next hG))) (DW2.out.keep (Keep.of_below (HBb.out.next hG))) HN0.out HN9.out (by omega) rfl VW3.out) ?_
        · go_simp
        · rintro e w' ⟨rfl, hb⟩
          exact ⟨_, rfl, hb, rfl, hG.next hb⟩
      · intro listed σ w a hin hout hl hc hp hG hF
        refine Guarded.some (d := 50) (b := false) rfl rfl ((hin 8 50 rfl (hp ⟨8, .guard⟩ (by simp) rfl)).trans (hF 8 (hp ⟨8, .guard⟩ (by simp) rfl))) ?_
        refine Or.inl ⟨rfl, ?_⟩
        have e53 : a.tmps.getD 53 undef = .bool r3 := (hin 11 53 rfl (hp ⟨11, .data⟩ (by simp) rfl)).trans (hF 11 (hp ⟨11, .data⟩ (by simp) rfl))
        have e56 : a.tmps.getD 56 undef = .bool r3 := (hin 14 56 rfl (hp ⟨14, .data⟩ (by simp) rfl)).trans (hF 14 (hp ⟨14, .data⟩ (by simp) rfl))
        refine Does.val (.bool false) (w' := w) ?_ ⟨Below.refl _ _, rfl, hG⟩
        simp only [Array.getD_eq_getD_getElem?] at e53 e56
        go_simp
      · intro listed σ w a hin hout hl hc hp hG hF
        refine Guarded.none rfl ?_
        have e50 : a.tmps.getD 50 undef = .bool false := (hin 8 50 rfl (hp ⟨8, .data⟩ (by simp) rfl)).trans (hF 8 (hp ⟨8, .data⟩ (by simp) rfl))
        have e57 : a.tmps.getD 57 undef = .bool false := (hin 15 57 rfl (hp ⟨15, .data⟩ (by simp) rfl)).trans (hF 15 (hp ⟨15, .data⟩ (by simp) rfl))
        refine Does.val (.bool false) (w' := w) ?_ ⟨Below.refl _ _, rfl, hG⟩
        simp only [Array.getD_eq_getD_getElem?] at e50 e57
        go_simp
    · intro listed σ W9 hall hG hF
      rw [show mid _ σ listed _ = (Act.put (Act.put (Act.put (Act.put (Act.put (Act.put (Act.put (Act.put (Act.put (Act.put (Act.put (Act.put (Act.put (Act.put (Act.put (Act.put (Act.put _ (some 42) (σ 0)) (some 43) (σ 1)) (some 44) (σ 2)) (some 45) (σ 3)) (some 46) (σ 4)) (some 47) (σ 5)) (some 48) (σ 6)) (some 49) (σ 7)) (some 50) (σ 8)) (some 51) (σ 9)) (some 52) (σ 10)) (some 53) (σ 11)) (some 54) (σ 12)) (some 55) (σ 13)) (some 56) (σ 14)) (some 57) (σ 15)) (some 58) (σ 16)) from (mid_all hall).trans rfl]
      generalize σ 0 = tt0
      generalize σ 1 = tt1
      generalize σ 2 = tt2
      generalize σ 3 = tt3
      generalize σ 4 = tt4
      generalize σ 5 = tt5
      generalize σ 6 = tt6
      generalize σ 7 = tt7
      generalize σ 8 = tt8
      generalize σ 9 = tt9
      generalize σ 10 = tt10
      generalize σ 11 = tt11
      generalize σ 12 = tt12
      generalize σ 13 = tt13
      generalize σ 14 = tt14
      generalize σ 15 = tt15
      rw [show σ 16 = .bool false from hF 16 (by decide)]
      simp only [Act.put, List.setIfInBounds_toArray, List.set_cons_zero, List.set_cons_succ]
      have TG := hG
      clear hF hG hall
      clear σ
      have HB9 := hide TG
      have HBd := hide (HBb.out.next TG)
      have X3 := hide (X3.out.next TG)
      have X4 := hide (X4.out.next TG)
      have X7 := hide (X7.out.next TG)
      have X8 := hide (X8.out.next TG)
      clear SOF TG VS VU VW VW3
      have hmx : ∀ (w : World) (ts : Array TypeId) (t : TypeId) (k k' : IntKind), (Builtin.max_ ts t #[.int k at_, .int k' 0]).run Try.prog w = .ok (.int k (x : Int)) w := fun w ts t k k' => by
        rw [run_max_int2]; congr 2; have := HX.out; split <;> omega
      by_cases hxm : (1000000 : Int) < (x : Int)
      · have gx : decide ((1000000 : Int) < (x : Int)) = true := decide_eq_true hxm
        go_wp2_with fail
        go_ret
        exact HY.out _ HBd.out
      have gx : decide ((1000000 : Int) < (x : Int)) = false := decide_eq_false hxm
      obtain ⟨m, hm⟩ : ∃ m, m = min x 64 := ⟨_, rfl⟩
      have hmn : ∀ (w : World) (ts : Array TypeId) (t : TypeId) (k k' : IntKind), (Builtin.min_ ts t #[.int k (x : Int), .int k' 64]).run Try.prog w = .ok (.int k (m : Int)) w := fun w ts t k k' => by
        rw [run_min_int2]; congr 2; split <;> omega
      obtain ⟨p, hp⟩ : ∃ p, p = m * L2.length := ⟨_, rfl⟩
      have HMUL := hide (show (m : Int) * (L2.length : Int) = (p : Int) from by rw [hp]; exact (Int.natCast_mul _ _).symm)
      have hp9 : p ≤ 448 := by
        have h7 := HL.out
        have : m * L2.length ≤ 64 * 7 := Nat.mul_le_mul (by omega) (by omega)
        omega
      have HLU := hide (show (Lu1.length : Int) = (L1.length : Int) + (p : Int) from by rw [HLUX.out, hp, hm]; exact Int.natCast_add _ _)
      have hl9 := HL.out
      clear hm hp HLUX
      go_upto_region 13 with fail
      have SOF := hide (fun w (h : Below W9.heap.size W9 w) => (⟨(X3.out.next h).cell 0 _ rfl, (X3.out.next h).cell 1 _ rfl, (X3.out.next h).cell 2 _ rfl, (X4.out.next h).cell 0 _ rfl, (X4.out.next h).cell 1 _ rfl, (X7.out.next h).cell 0 _ rfl, (X7.out.next h).cell 1 _ rfl, (X8.out.next h).cell 0 _ rfl, (X8.out.next h).cell 1 _ rfl⟩ : _ ∧ _ ∧ _ ∧ _ ∧ _ ∧ _ ∧ _ ∧ _ ∧ _))
      refine wp_drawnL (by kernel_rfl) (by kernel_rfl) (by kernel_rfl) (by kernel_rfl) (fun w w' => Below w.heap.size w w') (fun j v w => match j with | 0 => v = .agg #[.slice As Ls1.length cs, .slice Bs Ls2.length ds] | 1 => v = .agg #[.slice As Ls1.length cs, .slice Bs Ls2.length ds] | 2 => ∃ A c, v = .slice A 9 c ∧ LsIn Some_ w A 9 (lettersOf L1 L2 x 9) | 3 => v = .agg #[.slice A1 L1.length c1, .slice A2 L2.length c2] | 4 => v = .agg #[.slice A1 L1.length c1, .slice A2 L2.length c2] | 5 => v = .int .i64 (x : Int) | 6 => ∃ A c, v = .slice A 9 c ∧ LsIn Some_ w A 9 (lettersOf L1 L2 x 9) | 7 => v = .bool true | 8 => v = .bool true | 9 => v = .agg #[.slice Au Lu1.length cu, .slice Bu Lu2.length du] | 10 => v = .agg #[.slice Au Lu1.length cu, .slice Bu Lu2.length du] | 11 => ∃ A c, v = .slice A 9 c ∧ LsIn Some_ w A 9 (lettersOf L1 L2 0 9) | 12 => v = .agg #[.slice A1 L1.length c1, .slice A2 L2.length c2] | 13 => v = .agg #[.slice A1 L1.length c1, .slice A2 L2.length c2] | 14 => ∃ A c, v = .slice A 9 c ∧ LsIn Some_ w A 9 (lettersOf L1 L2 0 9) | 15 => v = .bool true | 16 => v = .bool true | 17 => v = .bool true | 18 => v = .pointer (some ⟨g2b, 0, none⟩) | 19 => v = .slice Au Lu1.length cu | 20 => v = .int .i64 (Lu1.length : Int) | 21 => v = .pointer (some ⟨W.heap.size + 1, 0, none⟩) | 22 => v = .slice A1 L1.length c1 | 23 => v = .int .i64 (L1.length : Int) | 24 => v = .int .i64 (x : Int) | 25 => v = .int .i64 (m : Int) | 26 => v = .pointer (some ⟨W.heap.size + 1, 1, none⟩) | 27 => v = .slice A2 L2.length c2 | 28 => v = .int .i64 (L2.length : Int) | 29 => v = .int .i64 (p : Int) | 30 => v = .int .i64 ((L1.length : Int) + (p : Int)) | 31 => v = .bool true | 32 => v = .bool true | _ => True) (fun _ _ w => Below W9.heap.size W9 w) ?_ (fun _ => bl_drewN W9 1) ?_ ?_
      · intro j v w w' hT h
        match j, h with
        | 0, h => exact h
        | 1, h => exact h
        | 2, h => exact (by obtain ⟨A, c, e, h1⟩ := h; exact ⟨A, c, e, h1.keep (Keep.of_below hT)⟩)
        | 3, h => exact h
        | 4, h => exact h
        | 5, h => exact h
        | 6, h => exact (by obtain ⟨A, c, e, h1⟩ := h; exact ⟨A, c, e, h1.keep (Keep.of_below hT)⟩)
        | 7, h => exact h
        | 8, h => exact h
        | 9, h => exact h
        | 10, h => exact h
        | 11, h => exact (by obtain ⟨A, c, e, h1⟩ := h; exact ⟨A, c, e, h1.keep (Keep.of_below hT)⟩)
        | 12, h => exact h
        | 13, h => exact h
        | 14, h => exact (by obtain ⟨A, c, e, h1⟩ := h; exact ⟨A, c, e, h1.keep (Keep.of_below hT)⟩)
        | 15, h => exact h
        | 16, h => exact h
        | 17, h => exact h
        | 18, h => exact h
        | 19, h => exact h
        | 20, h => exact h
        | 21, h => exact h
        | 22, h => exact h
        | 23, h => exact h
        | 24, h => exact h
        | 25, h => exact h
        | 26, h => exact h
        | 27, h => exact h
        | 28, h => exact h
        | 29, h => exact h
        | 30, h => exact h
        | 31, h => exact h
        | 32, h => exact h
        | j + 33, h => trivial
      · refine ⟨?_, ?_, ?_, ?_, ?_, ?_, ?_, ?_, ?_, ?_, ?_, ?_, ?_, ?_, ?_, ?_, ?_, ?_, ?_, ?_, ?_, ?_, ?_, ?_, ?_, ?_, ?_, ?_, ?_, ?_, ?_, ?_, ?_, trivial⟩
        · intro listed σ w a hin hout hl hla hs hc hp hG hF
          refine Guarded.none rfl ?_
          have e7 : a.tmps.getD 7 undef = .pointer (some ⟨g1b, 0, none⟩) := hout 7 (outB_spec (by kernel_rfl))
          have CC := SOF.out w hG; obtain ⟨C0, C1, C2, C3, C4, C5, C6, C7, C8⟩ := CC
          refine Does.val (.agg #[.slice As Ls1.length cs, .slice Bs Ls2.length ds]) (w' := w) ?_ ⟨Below.refl _ _, rfl, hG⟩
          go_simp
        · intro listed σ w a hin hout hl hla hs hc hp hG hF
          refine Guarded.none rfl ?_
          have e63 : a.tmps.getD 63 undef = .agg #[.slice As Ls1.length cs, .slice Bs Ls2.length ds] := (hin 0 63 rfl (hp ⟨0, .data⟩ (by simp) rfl)).trans (hF 0 (hp ⟨0, .data⟩ (by simp) rfl))
          refine Does.call ?_ (as_any As Ls1.length cs Bs Ls2.length ds w) ?_
          · go_simp
          · rintro e w' ⟨rfl, hb⟩
            exact ⟨_, rfl, hb, rfl, hG.next hb⟩
        · intro listed σ w a hin hout hl hla hs hc hp hG hF
          refine Guarded.none rfl ?_
          have e64 : a.tmps.getD 64 undef = .agg #[.slice As Ls1.length cs, .slice Bs Ls2.length ds] := (hin 1 64 rfl (hp ⟨1, .data⟩ (by simp) rfl)).trans (hF 1 (hp ⟨1, .data⟩ (by simp) rfl))
          refine Does.call ?_ (LettersPost.eq Ls1 Ls2 0 rfl ES.out (letters_any Some_ As cs Bs ds Ls1 Ls2 0 9 w (DS1.out.keep (Keep.of_below (HB9.out.next hG))) (DS2.out.keep (Keep.of_below (HB9.out.next hG))) HS0.out HS9.out (by omega) (by omega))) ?_
          · go_simp
          · rintro e w' ⟨A, c, rfl, hd, hb⟩
            exact ⟨_, rfl, hb, ⟨A, c, rfl, hd.sub (fun _ _ _ => trivial)⟩, hG.next hb⟩
        · intro listed σ w a hin hout hl hla hs hc hp hG hF
          refine Guarded.none rfl ?_
          have e4 : a.tmps.getD 4 undef = .pointer (some ⟨W.heap.size + 1, 0, none⟩) := hout 4 (outB_spec (by kernel_rfl))
          have CC := SOF.out w hG; obtain ⟨C0, C1, C2, C3, C4, C5, C6, C7, C8⟩ := CC
          refine Does.val (.agg #[.slice A1 L1.length c1, .slice A2 L2.length c2]) (w' := w) ?_ ⟨Below.refl _ _, rfl, hG⟩
          go_simp
        · intro listed σ w a hin hout hl hla hs hc hp hG hF
          refine Guarded.none rfl ?_
          have e66 : a.tmps.getD 66 undef = .agg #[.slice A1 L1.length c1, .slice A2 L2.length c2] := (hin 3 66 rfl (hp ⟨3, .data⟩ (by simp) rfl)).trans (hF 3 (hp ⟨3, .data⟩ (by simp) rfl))
          refine Does.call ?_ (as_any A1 L1.length c1 A2 L2.length c2 w) ?_
          · go_simp
          · rintro e w' ⟨rfl, hb⟩
            exact ⟨_, rfl, hb, rfl, hG.next hb⟩
        · intro listed σ w a hin hout hl hla hs hc hp hG hF
          refine Guarded.none rfl ?_
          have e9 : a.tmps.getD 9 undef = .int .i64 (x : Int) := hout 9 (outB_spec (by kernel_rfl))
          refine Does.val (.int .i64 (x : Int)) (w' := w) ?_ ⟨Below.refl _ _, rfl, hG⟩
          simp only [Array.getD_eq_getD_getElem?] at e9
          go_simp
        · intro listed σ w a hin hout hl hla hs hc hp hG hF
          refine Guarded.none rfl ?_
          have e67 : a.tmps.getD 67 undef = .agg #[.slice A1 L1.length c1, .slice A2 L2.length c2] := (hin 4 67 rfl (hp ⟨4, .data⟩ (by simp) rfl)).trans (hF 4 (hp ⟨4, .data⟩ (by simp) rfl))
          have e68 : a.tmps.getD 68 undef = .int .i64 (x : Int) := (hin 5 68 rfl (hp ⟨5, .data⟩ (by simp) rfl)).trans (hF 5 (hp ⟨5, .data⟩ (by simp) rfl))
          refine Does.call ?_ (LettersPost.eq L1 L2 x rfl rfl (letters_any Some_ A1 c1 A2 c2 L1 L2 x 9 w (DW1.out.keep (Keep.of_below (HBd.out.next hG))) (DW2.out.keep (Keep.of_below (HBd.out.next hG))) HN0.out HN9.out (by omega) (by omega))) ?_
          · go_simp
          · rintro e w' ⟨A, c, rfl, hd, hb⟩
            exact ⟨_, rfl, hb, ⟨A, c, rfl, hd.sub (fun _ _ _ => trivial)⟩, hG.next hb⟩
        · intro listed σ w a hin hout hl hla hs hc hp hG hF
          refine Guarded.none rfl ?_
          have e65 := hin 2 65 rfl (hp ⟨2, .data⟩ (by simp) rfl)
          obtain ⟨Am2, cm2, ev2, hd2⟩ := hF 2 (hp ⟨2, .data⟩ (by simp) rfl)
          rw [ev2] at e65
          have e69 := hin 6 69 rfl (hp ⟨6, .data⟩ (by simp) rfl)
          obtain ⟨Am6, cm6, ev6, hd6⟩ := hF 6 (hp ⟨6, .data⟩ (by simp) rfl)
          rw [ev6] at e69
          refine Does.call ?_ (rlsame_any Some_ Some_ Am2 Am6 9 cm2 9 cm6 (lettersOf L1 L2 x 9) (lettersOf L1 L2 x 9) w (by omega) (by omega) hd2 hd6 (lettersOf_small HL1.out HL2.out x 9)) ?_
          · go_simp
          · rintro e w' ⟨rfl, hb⟩
            exact ⟨_, rfl, hb, (congrArg Value.bool (decide_eq_true rfl)), hG.next hb⟩
        · intro listed σ w a hin hout hl hla hs hc hp hG hF
          refine Guarded.none rfl ?_
          have e70 : a.tmps.getD 70 undef = .bool true := (hin 7 70 rfl (hp ⟨7, .data⟩ (by simp) rfl)).trans (hF 7 (hp ⟨7, .data⟩ (by simp) rfl))
          refine Does.val (.bool true) (w' := w) ?_ ⟨Below.refl _ _, rfl, hG⟩
          simp only [Array.getD_eq_getD_getElem?] at e70
          go_simp
        · intro listed σ w a hin hout hl hla hs hc hp hG hF
          refine Guarded.some (d := 71) (b := true) rfl rfl ((hin 8 71 rfl (hp ⟨8, .guard⟩ (by simp) rfl)).trans (hF 8 (hp ⟨8, .guard⟩ (by simp) rfl))) ?_
          refine Or.inl ⟨rfl, ?_⟩
          have e8 : a.tmps.getD 8 undef = .pointer (some ⟨g2b, 0, none⟩) := hout 8 (outB_spec (by kernel_rfl))
          have CC := SOF.out w hG; obtain ⟨C0, C1, C2, C3, C4, C5, C6, C7, C8⟩ := CC
          refine Does.val (.agg #[.slice Au Lu1.length cu, .slice Bu Lu2.length du]) (w' := w) ?_ ⟨Below.refl _ _, rfl, hG⟩
          go_simp
        · intro listed σ w a hin hout hl hla hs hc hp hG hF
          refine Guarded.some (d := 71) (b := true) rfl rfl ((hin 8 71 rfl (hp ⟨8, .guard⟩ (by simp) rfl)).trans (hF 8 (hp ⟨8, .guard⟩ (by simp) rfl))) ?_
          refine Or.inl ⟨rfl, ?_⟩
          have e72 : a.tmps.getD 72 undef = .agg #[.slice Au Lu1.length cu, .slice Bu Lu2.length du] := (hin 9 72 rfl (hp ⟨9, .data⟩ (by simp) rfl)).trans (hF 9 (hp ⟨9, .data⟩ (by simp) rfl))
          refine Does.call ?_ (as_any Au Lu1.length cu Bu Lu2.length du w) ?_
          · go_simp
          · rintro e w' ⟨rfl, hb⟩
            exact ⟨_, rfl, hb, rfl, hG.next hb⟩
        · intro listed σ w a hin hout hl hla hs hc hp hG hF
          refine Guarded.some (d := 71) (b := true) rfl rfl ((hin 8 71 rfl (hp ⟨8, .guard⟩ (by simp) rfl)).trans (hF 8 (hp ⟨8, .guard⟩ (by simp) rfl))) ?_
          refine Or.inl ⟨rfl, ?_⟩
          have e73 : a.tmps.getD 73 undef = .agg #[.slice Au Lu1.length cu, .slice Bu Lu2.length du] := (hin 10 73 rfl (hp ⟨10, .data⟩ (by simp) rfl)).trans (hF 10 (hp ⟨10, .data⟩ (by simp) rfl))
          refine Does.call ?_ (LettersPost.eq Lu1 Lu2 0 rfl EU.out (letters_any Some_ Au cu Bu du Lu1 Lu2 0 9 w (DU1.out.keep (Keep.of_below (HB9.out.next hG))) (DU2.out.keep (Keep.of_below (HB9.out.next hG))) HU0.out HU9.out (by omega) (by omega))) ?_
          · go_simp
          · rintro e w' ⟨A, c, rfl, hd, hb⟩
            exact ⟨_, rfl, hb, ⟨A, c, rfl, hd.sub (fun _ _ _ => trivial)⟩, hG.next hb⟩
        · intro listed σ w a hin hout hl hla hs hc hp hG hF
          refine Guarded.some (d := 71) (b := true) rfl rfl ((hin 8 71 rfl (hp ⟨8, .guard⟩ (by simp) rfl)).trans (hF 8 (hp ⟨8, .guard⟩ (by simp) rfl))) ?_
          refine Or.inl ⟨rfl, ?_⟩
          have e4 : a.tmps.getD 4 undef = .pointer (some ⟨W.heap.size + 1, 0, none⟩) := hout 4 (outB_spec (by kernel_rfl))
          have CC := SOF.out w hG; obtain ⟨C0, C1, C2, C3, C4, C5, C6, C7, C8⟩ := CC
          refine Does.val (.agg #[.slice A1 L1.length c1, .slice A2 L2.length c2]) (w' := w) ?_ ⟨Below.refl _ _, rfl, hG⟩
          go_simp
        · intro listed σ w a hin hout hl hla hs hc hp hG hF
          refine Guarded.some (d := 71) (b := true) rfl rfl ((hin 8 71 rfl (hp ⟨8, .guard⟩ (by simp) rfl)).trans (hF 8 (hp ⟨8, .guard⟩ (by simp) rfl))) ?_
          refine Or.inl ⟨rfl, ?_⟩
          have e75 : a.tmps.getD 75 undef = .agg #[.slice A1 L1.length c1, .slice A2 L2.length c2] := (hin 12 75 rfl (hp ⟨12, .data⟩ (by simp) rfl)).trans (hF 12 (hp ⟨12, .data⟩ (by simp) rfl))
          refine Does.call ?_ (as_any A1 L1.length c1 A2 L2.length c2 w) ?_
          · go_simp
          · rintro e w' ⟨rfl, hb⟩
            exact ⟨_, rfl, hb, rfl, hG.next hb⟩
        · intro listed σ w a hin hout hl hla hs hc hp hG hF
          refine Guarded.some (d := 71) (b := true) rfl rfl ((hin 8 71 rfl (hp ⟨8, .guard⟩ (by simp) rfl)).trans (hF 8 (hp ⟨8, .guard⟩ (by simp) rfl))) ?_
          refine Or.inl ⟨rfl, ?_⟩
          have e76 : a.tmps.getD 76 undef = .agg #[.slice A1 L1.length c1, .slice A2 L2.length c2] := (hin 13 76 rfl (hp ⟨13, .data⟩ (by simp) rfl)).trans (hF 13 (hp ⟨13, .data⟩ (by simp) rfl))
          refine Does.call ?_ (LettersPost.eq L1 L2 0 rfl rfl (letters_any Some_ A1 c1 A2 c2 L1 L2 0 9 w (DW1.out.keep (Keep.of_below (HBd.out.next hG))) (DW2.out.keep (Keep.of_below (HBd.out.next hG))) HN0.out HN9.out (by omega) (by omega))) ?_
          · go_simp
          · rintro e w' ⟨A, c, rfl, hd, hb⟩
            exact ⟨_, rfl, hb, ⟨A, c, rfl, hd.sub (fun _ _ _ => trivial)⟩, hG.next hb⟩
        · intro listed σ w a hin hout hl hla hs hc hp hG hF
          refine Guarded.some (d := 71) (b := true) rfl rfl ((hin 8 71 rfl (hp ⟨8, .guard⟩ (by simp) rfl)).trans (hF 8 (hp ⟨8, .guard⟩ (by simp) rfl))) ?_
          refine Or.inl ⟨rfl, ?_⟩
          have e74 := hin 11 74 rfl (hp ⟨11, .data⟩ (by simp) rfl)
          obtain ⟨Am11, cm11, ev11, hd11⟩ := hF 11 (hp ⟨11, .data⟩ (by simp) rfl)
          rw [ev11] at e74
          have e77 := hin 14 77 rfl (hp ⟨14, .data⟩ (by simp) rfl)
          obtain ⟨Am14, cm14, ev14, hd14⟩ := hF 14 (hp ⟨14, .data⟩ (by simp) rfl)
          rw [ev14] at e77
          refine Does.call ?_ (rlsame_any Some_ Some_ Am11 Am14 9 cm11 9 cm14 (lettersOf L1 L2 0 9) (lettersOf L1 L2 0 9) w (by omega) (by omega) hd11 hd14 (lettersOf_small HL1.out HL2.out 0 9)) ?_
          · go_simp
          · rintro e w' ⟨rfl, hb⟩
            exact ⟨_, rfl, hb, (congrArg Value.bool (decide_eq_true rfl)), hG.next hb⟩
        · intro listed σ w a hin hout hl hla hs hc hp hG hF
          refine Guarded.none rfl ?_
          have e71 : a.tmps.getD 71 undef = .bool true := (hin 8 71 rfl (hp ⟨8, .data⟩ (by simp) rfl)).trans (hF 8 (hp ⟨8, .data⟩ (by simp) rfl))
          have e78 : a.tmps.getD 78 undef = .bool true := (hin 15 78 rfl (hp ⟨15, .data⟩ (by simp) rfl)).trans (hF 15 (hp ⟨15, .data⟩ (by simp) rfl))
          refine Does.val (.bool true) (w' := w) ?_ ⟨Below.refl _ _, rfl, hG⟩
          simp only [Array.getD_eq_getD_getElem?] at e71 e78
          go_simp
        · intro listed σ w a hin hout hl hla hs hc hp hG hF
          refine Guarded.none rfl ?_
          have e79 : a.tmps.getD 79 undef = .bool true := (hin 16 79 rfl (hp ⟨16, .data⟩ (by simp) rfl)).trans (hF 16 (hp ⟨16, .data⟩ (by simp) rfl))
          refine Does.val (.bool true) (w' := w) ?_ ⟨Below.refl _ _, rfl, hG⟩
          simp only [Array.getD_eq_getD_getElem?] at e79
          go_simp
        · intro listed σ w a hin hout hl hla hs hc hp hG hF
          refine Guarded.some (d := 80) (b := true) rfl rfl ((hin 17 80 rfl (hp ⟨17, .guard⟩ (by simp) rfl)).trans (hF 17 (hp ⟨17, .guard⟩ (by simp) rfl))) ?_
          refine Or.inl ⟨rfl, ?_⟩
          have e8 : a.tmps.getD 8 undef = .pointer (some ⟨g2b, 0, none⟩) := hout 8 (outB_spec (by kernel_rfl))
          refine Does.val (.pointer (some ⟨g2b, 0, none⟩)) (w' := w) ?_ ⟨Below.refl _ _, rfl, hG⟩
          simp only [Array.getD_eq_getD_getElem?] at e8
          go_simp
        · intro listed σ w a hin hout hl hla hs hc hp hG hF
          refine Guarded.some (d := 80) (b := true) rfl rfl ((hin 17 80 rfl (hp ⟨17, .guard⟩ (by simp) rfl)).trans (hF 17 (hp ⟨17, .guard⟩ (by simp) rfl))) ?_
          refine Or.inl ⟨rfl, ?_⟩
          have e81 : a.tmps.getD 81 undef = .pointer (some ⟨g2b, 0, none⟩) := (hin 18 81 rfl (hp ⟨18, .data⟩ (by simp) rfl)).trans (hF 18 (hp ⟨18, .data⟩ (by simp) rfl))
          have CC := SOF.out w hG; obtain ⟨C0, C1, C2, C3, C4, C5, C6, C7, C8⟩ := CC
          refine Does.val (.slice Au Lu1.length cu) (w' := w) ?_ ⟨Below.refl _ _, rfl, hG⟩
          go_simp
        · intro listed σ w a hin hout hl hla hs hc hp hG hF
          refine Guarded.some (d := 80) (b := true) rfl rfl ((hin 17 80 rfl (hp ⟨17, .guard⟩ (by simp) rfl)).trans (hF 17 (hp ⟨17, .guard⟩ (by simp) rfl))) ?_
          refine Or.inl ⟨rfl, ?_⟩
          have e82 : a.tmps.getD 82 undef = .slice Au Lu1.length cu := (hin 19 82 rfl (hp ⟨19, .data⟩ (by simp) rfl)).trans (hF 19 (hp ⟨19, .data⟩ (by simp) rfl))
          refine Does.val (.int .i64 (Lu1.length : Int)) (w' := w) ?_ ⟨Below.refl _ _, rfl, hG⟩
          simp only [Array.getD_eq_getD_getElem?] at e82
          go_simp
        · intro listed σ w a hin hout hl hla hs hc hp hG hF
          refine Guarded.some (d := 80) (b := true) rfl rfl ((hin 17 80 rfl (hp ⟨17, .guard⟩ (by simp) rfl)).trans (hF 17 (hp ⟨17, .guard⟩ (by simp) rfl))) ?_
          refine Or.inl ⟨rfl, ?_⟩
          have e4 : a.tmps.getD 4 undef = .pointer (some ⟨W.heap.size + 1, 0, none⟩) := hout 4 (outB_spec (by kernel_rfl))
          refine Does.val (.pointer (some ⟨W.heap.size + 1, 0, none⟩)) (w' := w) ?_ ⟨Below.refl _ _, rfl, hG⟩
          simp only [Array.getD_eq_getD_getElem?] at e4
          go_simp
        · intro listed σ w a hin hout hl hla hs hc hp hG hF
          refine Guarded.some (d := 80) (b := true) rfl rfl ((hin 17 80 rfl (hp ⟨17, .guard⟩ (by simp) rfl)).trans (hF 17 (hp ⟨17, .guard⟩ (by simp) rfl))) ?_
          refine Or.inl ⟨rfl, ?_⟩
          have e84 : a.tmps.getD 84 undef = .pointer (some ⟨W.heap.size + 1, 0, none⟩) := (hin 21 84 rfl (hp ⟨21, .data⟩ (by simp) rfl)).trans (hF 21 (hp ⟨21, .data⟩ (by simp) rfl))
          have CC := SOF.out w hG; obtain ⟨C0, C1, C2, C3, C4, C5, C6, C7, C8⟩ := CC
          refine Does.val (.slice A1 L1.length c1) (w' := w) ?_ ⟨Below.refl _ _, rfl, hG⟩
          go_simp
        · intro listed σ w a hin hout hl hla hs hc hp hG hF
          refine Guarded.some (d := 80) (b := true) rfl rfl ((hin 17 80 rfl (hp ⟨17, .guard⟩ (by simp) rfl)).trans (hF 17 (hp ⟨17, .guard⟩ (by simp) rfl))) ?_
          refine Or.inl ⟨rfl, ?_⟩
          have e85 : a.tmps.getD 85 undef = .slice A1 L1.length c1 := (hin 22 85 rfl (hp ⟨22, .data⟩ (by simp) rfl)).trans (hF 22 (hp ⟨22, .data⟩ (by simp) rfl))
          refine Does.val (.int .i64 (L1.length : Int)) (w' := w) ?_ ⟨Below.refl _ _, rfl, hG⟩
          simp only [Array.getD_eq_getD_getElem?] at e85
          go_simp
        · intro listed σ w a hin hout hl hla hs hc hp hG hF
          refine Guarded.some (d := 80) (b := true) rfl rfl ((hin 17 80 rfl (hp ⟨17, .guard⟩ (by simp) rfl)).trans (hF 17 (hp ⟨17, .guard⟩ (by simp) rfl))) ?_
          refine Or.inl ⟨rfl, ?_⟩
          have e9 : a.tmps.getD 9 undef = .int .i64 (x : Int) := hout 9 (outB_spec (by kernel_rfl))
          refine Does.val (.int .i64 (x : Int)) (w' := w) ?_ ⟨Below.refl _ _, rfl, hG⟩
          simp only [Array.getD_eq_getD_getElem?] at e9
          go_simp
        · intro listed σ w a hin hout hl hla hs hc hp hG hF
          refine Guarded.some (d := 80) (b := true) rfl rfl ((hin 17 80 rfl (hp ⟨17, .guard⟩ (by simp) rfl)).trans (hF 17 (hp ⟨17, .guard⟩ (by simp) rfl))) ?_
          refine Or.inl ⟨rfl, ?_⟩
          have e87 : a.tmps.getD 87 undef = .int .i64 (x : Int) := (hin 24 87 rfl (hp ⟨24, .data⟩ (by simp) rfl)).trans (hF 24 (hp ⟨24, .data⟩ (by simp) rfl))
          refine Does.val (.int .i64 (m : Int)) (w' := w) ?_ ⟨Below.refl _ _, rfl, hG⟩
          simp only [Array.getD_eq_getD_getElem?] at e87
          go_simp
        · intro listed σ w a hin hout hl hla hs hc hp hG hF
          refine Guarded.some (d := 80) (b := true) rfl rfl ((hin 17 80 rfl (hp ⟨17, .guard⟩ (by simp) rfl)).trans (hF 17 (hp ⟨17, .guard⟩ (by simp) rfl))) ?_
          refine Or.inl ⟨rfl, ?_⟩
          have e4 : a.tmps.getD 4 undef = .pointer (some ⟨W.heap.size + 1, 0, none⟩) := hout 4 (outB_spec (by kernel_rfl))
          refine Does.val (.pointer (some ⟨W.heap.size + 1, 1, none⟩)) (w' := w) ?_ ⟨Below.refl _ _, rfl, hG⟩
          simp only [Array.getD_eq_getD_getElem?] at e4
          go_simp
        · intro listed σ w a hin hout hl hla hs hc hp hG hF
          refine Guarded.some (d := 80) (b := true) rfl rfl ((hin 17 80 rfl (hp ⟨17, .guard⟩ (by simp) rfl)).trans (hF 17 (hp ⟨17, .guard⟩ (by simp) rfl))) ?_
          refine Or.inl ⟨rfl, ?_⟩
          have e89 : a.tmps.getD 89 undef = .pointer (some ⟨W.heap.size + 1, 1, none⟩) := (hin 26 89 rfl (hp ⟨26, .data⟩ (by simp) rfl)).trans (hF 26 (hp ⟨26, .data⟩ (by simp) rfl))
          have CC := SOF.out w hG; obtain ⟨C0, C1, C2, C3, C4, C5, C6, C7, C8⟩ := CC
          refine Does.val (.slice A2 L2.length c2) (w' := w) ?_ ⟨Below.refl _ _, rfl, hG⟩
          go_simp
        · intro listed σ w a hin hout hl hla hs hc hp hG hF
          refine Guarded.some (d := 80) (b := true) rfl rfl ((hin 17 80 rfl (hp ⟨17, .guard⟩ (by simp) rfl)).trans (hF 17 (hp ⟨17, .guard⟩ (by simp) rfl))) ?_
          refine Or.inl ⟨rfl, ?_⟩
          have e90 : a.tmps.getD 90 undef = .slice A2 L2.length c2 := (hin 27 90 rfl (hp ⟨27, .data⟩ (by simp) rfl)).trans (hF 27 (hp ⟨27, .data⟩ (by simp) rfl))
          refine Does.val (.int .i64 (L2.length : Int)) (w' := w) ?_ ⟨Below.refl _ _, rfl, hG⟩
          simp only [Array.getD_eq_getD_getElem?] at e90
          go_simp
        · intro listed σ w a hin hout hl hla hs hc hp hG hF
          refine Guarded.some (d := 80) (b := true) rfl rfl ((hin 17 80 rfl (hp ⟨17, .guard⟩ (by simp) rfl)).trans (hF 17 (hp ⟨17, .guard⟩ (by simp) rfl))) ?_
          refine Or.inl ⟨rfl, ?_⟩
          have e88 : a.tmps.getD 88 undef = .int .i64 (m : Int) := (hin 25 88 rfl (hp ⟨25, .data⟩ (by simp) rfl)).trans (hF 25 (hp ⟨25, .data⟩ (by simp) rfl))
          have e91 : a.tmps.getD 91 undef = .int .i64 (L2.length : Int) := (hin 28 91 rfl (hp ⟨28, .data⟩ (by simp) rfl)).trans (hF 28 (hp ⟨28, .data⟩ (by simp) rfl))
          refine Does.val (.int .i64 (p : Int)) (w' := w) ?_ ⟨Below.refl _ _, rfl, hG⟩
          simp only [Array.getD_eq_getD_getElem?] at e88 e91
          go_simp
          first | done | (rw [HMUL.out]; exact i64w (by omega) (by omega)) | (rw [HMUL.out]; exact congrArg (Value.int .i64) (i64w (by omega) (by omega)))
        · intro listed σ w a hin hout hl hla hs hc hp hG hF
          refine Guarded.some (d := 80) (b := true) rfl rfl ((hin 17 80 rfl (hp ⟨17, .guard⟩ (by simp) rfl)).trans (hF 17 (hp ⟨17, .guard⟩ (by simp) rfl))) ?_
          refine Or.inl ⟨rfl, ?_⟩
          have e86 : a.tmps.getD 86 undef = .int .i64 (L1.length : Int) := (hin 23 86 rfl (hp ⟨23, .data⟩ (by simp) rfl)).trans (hF 23 (hp ⟨23, .data⟩ (by simp) rfl))
          have e92 : a.tmps.getD 92 undef = .int .i64 (p : Int) := (hin 29 92 rfl (hp ⟨29, .data⟩ (by simp) rfl)).trans (hF 29 (hp ⟨29, .data⟩ (by simp) rfl))
          refine Does.val (.int .i64 ((L1.length : Int) + (p : Int))) (w' := w) ?_ ⟨Below.refl _ _, rfl, hG⟩
          simp only [Array.getD_eq_getD_getElem?] at e86 e92
          go_simp
          first | done | exact i64w (by omega) (by omega)
        · intro listed σ w a hin hout hl hla hs hc hp hG hF
          refine Guarded.some (d := 80) (b := true) rfl rfl ((hin 17 80 rfl (hp ⟨17, .guard⟩ (by simp) rfl)).trans (hF 17 (hp ⟨17, .guard⟩ (by simp) rfl))) ?_
          refine Or.inl ⟨rfl, ?_⟩
          have e83 : a.tmps.getD 83 undef = .int .i64 (Lu1.length : Int) := (hin 20 83 rfl (hp ⟨20, .data⟩ (by simp) rfl)).trans (hF 20 (hp ⟨20, .data⟩ (by simp) rfl))
          have e93 : a.tmps.getD 93 undef = .int .i64 ((L1.length : Int) + (p : Int)) := (hin 30 93 rfl (hp ⟨30, .data⟩ (by simp) rfl)).trans (hF 30 (hp ⟨30, .data⟩ (by simp) rfl))
          refine Does.val (.bool true) (w' := w) ?_ ⟨Below.refl _ _, rfl, hG⟩
          simp only [Array.getD_eq_getD_getElem?] at e83 e93
          go_simp
          first | done | exact HLU.out
        · intro listed σ w a hin hout hl hla hs hc hp hG hF
          refine Guarded.none rfl ?_
          have e80 : a.tmps.getD 80 undef = .bool true := (hin 17 80 rfl (hp ⟨17, .data⟩ (by simp) rfl)).trans (hF 17 (hp ⟨17, .data⟩ (by simp) rfl))
          have e94 : a.tmps.getD 94 undef = .bool true := (hin 31 94 rfl (hp ⟨31, .data⟩ (by simp) rfl)).trans (hF 31 (hp ⟨31, .data⟩ (by simp) rfl))
          refine Does.val (.bool true) (w' := w) ?_ ⟨Below.refl _ _, rfl, hG⟩
          simp only [Array.getD_eq_getD_getElem?] at e80 e94
          go_simp
      · intro o ho
        injection ho with ho; subst ho
        intro listed σ w a hall hin hout hG hF
        refine Guarded.none rfl ?_
        have e95 : a.tmps.getD 95 undef = .bool true := (hin 32 95 rfl (by decide)).trans (hF 32 (by decide))
        refine Does.val (.bool true) (w' := w) (by simp only [Array.getD_eq_getD_getElem?] at *; go_simp) ?_
        rw [show fin _ σ (.bool true) _ = (Act.put (Act.put (Act.put (Act.put (Act.put (Act.put (Act.put (Act.put (Act.put (Act.put (Act.put (Act.put (Act.put (Act.put (Act.put (Act.put (Act.put (Act.put (Act.put (Act.put (Act.put (Act.put (Act.put (Act.put (Act.put (Act.put (Act.put (Act.put (Act.put (Act.put (Act.put (Act.put (Act.put (Act.put _ (some 63) (σ 0)) (some 64) (σ 1)) (some 65) (σ 2)) (some 66) (σ 3)) (some 67) (σ 4)) (some 68) (σ 5)) (some 69) (σ 6)) (some 70) (σ 7)) (some 71) (σ 8)) (some 72) (σ 9)) (some 73) (σ 10)) (some 74) (σ 11)) (some 75) (σ 12)) (some 76) (σ 13)) (some 77) (σ 14)) (some 78) (σ 15)) (some 79) (σ 16)) (some 80) (σ 17)) (some 81) (σ 18)) (some 82) (σ 19)) (some 83) (σ 20)) (some 84) (σ 21)) (some 85) (σ 22)) (some 86) (σ 23)) (some 87) (σ 24)) (some 88) (σ 25)) (some 89) (σ 26)) (some 90) (σ 27)) (some 91) (σ 28)) (some 92) (σ 29)) (some 93) (σ 30)) (some 94) (σ 31)) (some 95) (σ 32)) (some 6) (.bool true)) from (fin_all hall).trans rfl]
        simp only [Act.put, List.setIfInBounds_toArray, List.set_cons_zero, List.set_cons_succ]
        have HBe := hide (HBd.out.next hG)
        generalize σ 0 = tt0 at *; generalize σ 1 = tt1 at *; generalize σ 2 = tt2 at *; generalize σ 3 = tt3 at *; generalize σ 4 = tt4 at *; generalize σ 5 = tt5 at *; generalize σ 6 = tt6 at *; generalize σ 7 = tt7 at *; generalize σ 8 = tt8 at *; generalize σ 9 = tt9 at *; generalize σ 10 = tt10 at *; generalize σ 11 = tt11 at *; generalize σ 12 = tt12 at *; generalize σ 13 = tt13 at *; generalize σ 14 = tt14 at *; generalize σ 15 = tt15 at *; generalize σ 16 = tt16 at *; generalize σ 17 = tt17 at *; generalize σ 18 = tt18 at *; generalize σ 19 = tt19 at *; generalize σ 20 = tt20 at *; generalize σ 21 = tt21 at *; generalize σ 22 = tt22 at *; generalize σ 23 = tt23 at *; generalize σ 24 = tt24 at *; generalize σ 25 = tt25 at *; generalize σ 26 = tt26 at *; generalize σ 27 = tt27 at *; generalize σ 28 = tt28 at *; generalize σ 29 = tt29 at *; generalize σ 30 = tt30 at *; generalize σ 31 = tt31 at *; generalize σ 32 = tt32 at *
        clear hF hG hall hin hout SOF
        go_wp2_with fail
        go_ret
        exact HY.out _ HBe.out
theorem wordShifts_walk (kd pr : Int) (A : Option Addr) (n c : Nat) (t : LT) (A1 : Option Addr) (n1 c1 : Nat) (L1 : List (List Bool)) (A2 : Option Addr) (n2 c2 : Nat) (L2 : List (List Bool)) (at_ : Int) (W : World)
    (hd : DIn Some_ W t (c3 kd pr A n c)) (h1 : LsIn Some_ W A1 n1 L1) (h2 : LsIn Some_ W A2 n2 L2) (hc1 : n1 ≤ c1) (hc19 : c1 ≤ 9223372036854775807) (_ : A1 = none → n1 = 0 ∧ c1 = 0) (hc2 : n2 ≤ c2) (hc29 : c2 ≤ 9223372036854775807) (_ : A2 = none → n2 = 0 ∧ c2 = 0)
    (hn : n1 ≤ 4611686018427387903) (hm : n2 ≤ 4611686018427387903) (_ : -9223372036854775808 ≤ at_) (hx9 : at_ ≤ 9223372036854775807) :
    Calls Try.prog 3 #[.agg #[.int .i64 kd, .int .i64 pr, .slice A n c], .agg #[.slice A1 n1 c1, .slice A2 n2 c2], .int .i64 at_] W (WYes W) := by
  obtain rfl := h1.1
  obtain rfl := h2.1
  exact wordShifts_any kd pr A n c t A1 c1 L1 A2 c2 L2 at_ W hd h1 h2 hc1 hc19 hc2 hc29 hn hm hx9
end Go.Proofs.Ytljocjjdfgpbaaa
