/- 'LexPlaces', walked. -/
import Derived.Test.YtifikcaiknnjfaaLexLaw
import Derived.Deep.DeepCutAuto
namespace Go.Proofs.Ytifikcaiknnjfaa
open Go.RowKit
open Lx

/-- Where tokens begin goes up. -/
theorem asc_starts {n : Nat} (ts : List Tok) : ∀ i, Asc n i ts → (∀ (k : Nat) (t : Tok), ts[k]? = some t → i ≤ t.2.1 ∧ t.2.1 < t.2.2 ∧ t.2.2 ≤ n) ∧ ∀ (k m : Nat) (t u : Tok), k < m → ts[k]? = some t → ts[m]? = some u → t.2.1 < u.2.1 := by
  induction ts with
  | nil => intro i _; exact ⟨fun k t h => by simp at h, fun k m t u _ h => by simp at h⟩
  | cons x ts ih =>
    intro i h
    obtain ⟨h1, h2, h3, h4⟩ := h
    obtain ⟨k1, k2⟩ := ih _ h4
    refine ⟨fun k t hk => ?_, fun k m t u hkm hk hm => ?_⟩
    · cases k with
      | zero => simp at hk; subst hk; exact ⟨h1, h2, h3⟩
      | succ k => have := k1 k t (by simpa using hk); omega
    · cases m with
      | zero => omega
      | succ m =>
        have hm' : ts[m]? = some u := by simpa using hm
        cases k with
        | zero =>
          simp at hk; subst hk
          have := k1 m u hm'; omega
        | succ k => exact k2 k m t u (by omega) (by simpa using hk) hm'
theorem full_starts {n : Nat} {ts : List Tok} (h : Asc n 0 ts) : (∀ (k : Nat) (t : Tok), (ts ++ [(5, n, n)])[k]? = some t → t.2.1 ≤ t.2.2 ∧ t.2.2 ≤ n) ∧ ∀ (k m : Nat) (t u : Tok), k < m → (ts ++ [(5, n, n)])[k]? = some t → (ts ++ [(5, n, n)])[m]? = some u → t.2.1 < u.2.1 := by
  obtain ⟨h1, h2⟩ := asc_starts ts 0 h
  have hl : ∀ (k : Nat) (t : Tok), (ts ++ [(5, n, n)])[k]? = some t → (k < ts.length ∧ ts[k]? = some t) ∨ (k = ts.length ∧ t = (5, n, n)) := by
    intro k t hk
    rcases Nat.lt_trichotomy k ts.length with hlt | he | hgt
    · rw [List.getElem?_append_left hlt] at hk; exact Or.inl ⟨hlt, hk⟩
    · subst he
      rw [List.getElem?_append_right (Nat.le_refl _), Nat.sub_self] at hk
      simp at hk; exact Or.inr ⟨rfl, hk.symm⟩
    · rw [List.getElem?_eq_none (by rw [List.length_append, List.length_cons, List.length_nil]; omega)] at hk; cases hk
  refine ⟨fun k t hk => ?_, fun k m t u hkm hk hm => ?_⟩
  · rcases hl k t hk with ⟨_, h⟩ | ⟨_, rfl⟩
    · have := h1 k t h; omega
    · exact ⟨Nat.le_refl _, Nat.le_refl _⟩
  · rcases hl m u hm with ⟨hmlt, hm'⟩ | ⟨rfl, rfl⟩
    · rcases hl k t hk with ⟨_, hk'⟩ | ⟨rfl, _⟩
      · exact h2 k m t u hkm hk' hm'
      · omega
    · rcases hl k t hk with ⟨_, hk'⟩ | ⟨rfl, _⟩
      · have := h1 k t hk'; dsimp only; omega
      · omega
set_option maxRecDepth 100000 in
set_option maxHeartbeats 16000000 in
theorem lexPlaces_walk (s : ByteArray) (w0 : World) (hs : s.size ≤ 9223372036854775807) : Calls Try.prog 5 #[.string s] w0 (LexYes w0) := by
  have h0 := lexalive_yes w0
  by_cases h1 : 4000 < s.size
  · have g1 : (4000 : Int) < (s.size : Int) := by omega
    clear h1
    go_enter Try.func5, Try.ntmps5
    go_wp2_with fail
    refine h0.mono ?_
    rintro e w1 ⟨rfl, b1⟩
    have B1 := hide b1
    clear h0 b1
    go_wp2_with fail
    go_ret
    exact ⟨rfl, B1.out⟩
  · have g1 : ¬ (4000 : Int) < (s.size : Int) := by omega
    have H1 := hide (fun W => all_any s W hs)
    unfold AllPost at H1
    by_cases hc : (lexAll (byteAt s) s.size).code = 0
    · obtain ⟨-, ts, hts, -, hasc⟩ := lexAll_toks hc
      have hp0 : resPos s (lexAll (byteAt s) s.size) = (0, 0) := by unfold resPos; rw [if_pos hc]
      rw [hc, hp0, hts] at H1
      obtain ⟨hin1, hin2⟩ := full_starts hasc
      have hlen : (ts ++ [(5, s.size, s.size)]).length ≤ 5000 := by
        have := hasc.lens ts 0 (Nat.zero_le _)
        rw [List.length_append, List.length_cons, List.length_nil]; omega
      generalize (ts ++ [(5, s.size, s.size)] : List Tok) = L at *
      have HI1 := hide hin1
      have HI2 := hide hin2
      clear hts hasc hin1 hin2 hp0 hc ts
      go_enter Try.func5, Try.ntmps5
      go_wp2_with fail
      refine h0.mono ?_
      rintro e w1 ⟨rfl, b1⟩
      have B1 := hide b1
      clear h0 b1
      go_wp2_with fail
      refine (H1.out _).mono ?_
      rintro e w2 ⟨v, rfl, b2, l2⟩
      have l2' : LRow 33 4 w2 w1.heap.size v (L.map (tk s)).length (flatK (L.map (tk s))) := by rw [List.length_map]; exact l2
      obtain ⟨A, cT, rfl, hc1, hc2, k2⟩ := l2'.kin
      rw [List.length_map] at k2 hc1
      obtain ⟨nT, hnT⟩ : ∃ x, x = L.length := ⟨_, rfl⟩
      rw [List.length_map, ← hnT]
      rw [← hnT] at k2 hc1 hlen
      have HNT := hide hnT
      have A2 := bl_alloc w2 (.cells #[.int .i64 0, .int .i64 0] 25)
      have B2 := hide ((B1.out.next b2).next A2)
      have K2 := hide (k2.below A2)
      clear b2 l2 l2' k2 A2 B1 H1 hnT
      go_wp2_with fail
      generalize w2.alloc (.cells #[.int .i64 0, .int .i64 0] 25) = W2 at *
      go_loopw [6, 7, 8, 9] (fun k ln cl i wr => ∃ ii kk : Nat, ii ≤ s.size + 1 ∧ kk ≤ nT ∧ ln = .int .i64 ((posAt (byteAt s) ii).1 : Nat) ∧ cl = .int .i64 ((posAt (byteAt s) ii).2 : Nat) ∧ (k = .int .i64 (kk : Int) ∧ Hid (kk < nT → ∀ t : Tok, L[kk]? = some t → ii ≤ t.2.1)) ∧ i = .int .i64 (ii : Int) ∧ Hid (Below W2.heap.size W2 wr)) (fun _ _ _ i _ => s.size + 1 - (intOf i).toNat)
      case atStart => exact ⟨0, 0, Nat.zero_le _, Nat.zero_le _, rfl, rfl, ⟨rfl, hide (fun _ _ _ => Nat.zero_le _)⟩, rfl, hide (Below.refl _ _)⟩
      case round =>
        obtain ⟨ii, kk, hii, hkk, rfl, rfl, ⟨rfl, HK⟩, rfl, HR9⟩ := hrel
        obtain ⟨p, hp⟩ : ∃ p, posAt (byteAt s) ii = p := ⟨_, rfl⟩
        rw [hp]
        by_cases hi2 : ii ≤ s.size
        · by_cases hkn : kk < nT
          · obtain ⟨ba, oa, t, hA, hlt, ht, c0, c1, c2, c3⟩ := (K2.out.below HR9.out).at_ hkn
            subst hA
            obtain ⟨u, hu⟩ : ∃ u, L[kk]? = some u := ⟨L[kk]'(by rw [← HNT.out]; exact hkn), List.getElem?_eq_getElem _⟩
            have htu : t = tk s u := by rw [List.getElem?_map, hu] at ht; injection ht with ht; exact ht.symm
            subst htu
            by_cases hat : u.2.1 = ii
            · have hu1 := HI1.out kk u hu
              have HTX := hide (show s.extract ii (ii + (tk s u).text.size) = (tk s u).text by
                show s.extract ii (ii + (s.extract u.2.1 u.2.2).size) = s.extract u.2.1 u.2.2
                rw [ext_size s _ _ hu1.1 hu1.2, hat, show ii + (u.2.2 - ii) = u.2.2 by omega])
              have htz : ii + (tk s u).text.size ≤ s.size := by
                show ii + (s.extract u.2.1 u.2.2).size ≤ s.size
                rw [ext_size s _ _ hu1.1 hu1.2]; omega
              have c2' : wr.cell? ⟨ba, oa + kk * 4 + 2, none⟩ = some (.int .i64 (p.1 : Nat)) := by rw [c2]; show some (Value.int .i64 ((posAt (byteAt s) u.2.1).1 : Nat)) = _; rw [hat, hp]
              have c3' : wr.cell? ⟨ba, oa + kk * 4 + 3, none⟩ = some (.int .i64 (p.2 : Nat)) := by rw [c3]; show some (Value.int .i64 ((posAt (byteAt s) u.2.1).2 : Nat)) = _; rw [hat, hp]
              have HKN := hide (show kk + 1 < nT → ∀ t : Tok, L[kk + 1]? = some t → ii + 1 ≤ t.2.1 from fun _ x hx => by
                have := HI2.out kk (kk + 1) u x (by omega) hu hx; omega)
              generalize (tk s u).text = tx at *
              have SOF := hide (show ∀ W, Below wr.heap.size wr W → W.cell? ⟨ba, oa + kk * 4 + 1, none⟩ = some (.string tx) from fun W h => (below_cell h hlt).trans c1)
              clear c0 c2 c3 ht hu hu1 hat HK
              go_upto_region 15 with fail
              clear c1 c2' c3'
              generalize hW9 : wr = W9a at *
              clear hW9
              refine wp_drawn (by kernel_rfl) (by kernel_rfl) (by kernel_rfl) (fun w w' => Below w.heap.size w w') (fun j v w => match j with | 0 => v = .int .i64 (ii : Int) | 1 => v = .int .i64 (tx.size : Int) | 2 => v = .int .i64 ((ii : Int) + (tx.size : Int)) | 3 => v = .string s | 4 => v = .int .i64 (s.size : Int) | 5 => v = .bool false | 6 => v = .bool false | 7 => v = .string s | 8 => v = .int .i64 (ii : Int) | 9 => v = .int .i64 (ii : Int) | 10 => v = .int .i64 (tx.size : Int) | 11 => v = .int .i64 ((ii : Int) + (tx.size : Int)) | 12 => v = .string tx | 13 => v = .slice (some ⟨ba, oa, none⟩) nT cT | 14 => v = .int .i64 (kk : Int) | 15 => v = .pointer (some ⟨ba, oa + kk * 4, none⟩) | 16 => v = .pointer (some ⟨ba, oa + kk * 4 + 1, none⟩) | 17 => v = .string tx | 18 => v = .bool false | 19 => v = .bool false | _ => True) (fun _ _ w => Below W9a.heap.size W9a w) ?_ (fun _ => bl_drewN W9a 1) ?_ ?_
              · intro j v w w' hT h
                match j, h with
                | 0, h => exact h
                | 1, h => exact h
                | 2, h => exact h
                | 3, h => exact h
                | 4, h => exact h
                | 5, h => exact h
                | 6, h => exact h
                | 7, h => exact h
                | 8, h => exact h
                | 9, h => exact h
                | 10, h => exact h
                | 11, h => exact h
                | 12, h => exact h
                | 13, h => exact h
                | 14, h => exact h
                | 15, h => exact h
                | 16, h => exact h
                | 17, h => exact h
                | 18, h => exact h
                | 19, h => exact h
                | j + 20, h => trivial
              · refine ⟨?_, ?_, ?_, ?_, ?_, ?_, ?_, ?_, ?_, ?_, ?_, ?_, ?_, ?_, ?_, ?_, ?_, ?_, ?_, ?_, trivial⟩
                · intro listed σ w a hin hout hl hc hp hG hF
                  refine Guarded.none rfl ?_
                  have e9 : a.tmps.getD 9 undef = .int .i64 (ii : Int) := hout 9 (outB_spec (by kernel_rfl))
                  refine Does.val (.int .i64 (ii : Int)) (w' := w) ?_ ⟨Below.refl _ _, rfl, hG⟩
                  simp only [Array.getD_eq_getD_getElem?] at e9
                  go_simp
                · intro listed σ w a hin hout hl hc hp hG hF
                  refine Guarded.none rfl ?_
                  have e10 : a.tmps.getD 10 undef = .int .i64 (tx.size : Int) := hout 10 (outB_spec (by kernel_rfl))
                  refine Does.val (.int .i64 (tx.size : Int)) (w' := w) ?_ ⟨Below.refl _ _, rfl, hG⟩
                  simp only [Array.getD_eq_getD_getElem?] at e10
                  go_simp
                · intro listed σ w a hin hout hl hc hp hG hF
                  refine Guarded.none rfl ?_
                  have e59 : a.tmps.getD 59 undef = .int .i64 (ii : Int) := (hin 0 59 rfl (hp ⟨0, .data⟩ (by simp) rfl)).trans (hF 0 (hp ⟨0, .data⟩ (by simp) rfl))
                  have e60 : a.tmps.getD 60 undef = .int .i64 (tx.size : Int) := (hin 1 60 rfl (hp ⟨1, .data⟩ (by simp) rfl)).trans (hF 1 (hp ⟨1, .data⟩ (by simp) rfl))
                  refine Does.val (.int .i64 ((ii : Int) + (tx.size : Int))) (w' := w) ?_ ⟨Below.refl _ _, rfl, hG⟩
                  simp only [Array.getD_eq_getD_getElem?] at e59 e60
                  go_simp
                  (try (exact IntWalk.i64_in _ (by omega)))
                · intro listed σ w a hin hout hl hc hp hG hF
                  refine Guarded.none rfl ?_
                  have e0 : a.tmps.getD 0 undef = .string s := hout 0 (outB_spec (by kernel_rfl))
                  refine Does.val (.string s) (w' := w) ?_ ⟨Below.refl _ _, rfl, hG⟩
                  simp only [Array.getD_eq_getD_getElem?] at e0
                  go_simp
                · intro listed σ w a hin hout hl hc hp hG hF
                  refine Guarded.none rfl ?_
                  have e62 : a.tmps.getD 62 undef = .string s := (hin 3 62 rfl (hp ⟨3, .data⟩ (by simp) rfl)).trans (hF 3 (hp ⟨3, .data⟩ (by simp) rfl))
                  refine Does.val (.int .i64 (s.size : Int)) (w' := w) ?_ ⟨Below.refl _ _, rfl, hG⟩
                  simp only [Array.getD_eq_getD_getElem?] at e62
                  go_simp
                · intro listed σ w a hin hout hl hc hp hG hF
                  refine Guarded.none rfl ?_
                  have e61 : a.tmps.getD 61 undef = .int .i64 ((ii : Int) + (tx.size : Int)) := (hin 2 61 rfl (hp ⟨2, .data⟩ (by simp) rfl)).trans (hF 2 (hp ⟨2, .data⟩ (by simp) rfl))
                  have e63 : a.tmps.getD 63 undef = .int .i64 (s.size : Int) := (hin 4 63 rfl (hp ⟨4, .data⟩ (by simp) rfl)).trans (hF 4 (hp ⟨4, .data⟩ (by simp) rfl))
                  refine Does.val (.bool false) (w' := w) ?_ ⟨Below.refl _ _, rfl, hG⟩
                  simp only [Array.getD_eq_getD_getElem?] at e61 e63
                  go_simp
                  (try (simp; omega))
                  (try omega)
                · intro listed σ w a hin hout hl hc hp hG hF
                  refine Guarded.none rfl ?_
                  have e64 : a.tmps.getD 64 undef = .bool false := (hin 5 64 rfl (hp ⟨5, .data⟩ (by simp) rfl)).trans (hF 5 (hp ⟨5, .data⟩ (by simp) rfl))
                  refine Does.val (.bool false) (w' := w) ?_ ⟨Below.refl _ _, rfl, hG⟩
                  simp only [Array.getD_eq_getD_getElem?] at e64
                  go_simp
                · intro listed σ w a hin hout hl hc hp hG hF
                  refine Guarded.some (d := 65) (b := false) rfl rfl ((hin 6 65 rfl (hp ⟨6, .guard⟩ (by simp) rfl)).trans (hF 6 (hp ⟨6, .guard⟩ (by simp) rfl))) ?_
                  refine Or.inl ⟨rfl, ?_⟩
                  have e0 : a.tmps.getD 0 undef = .string s := hout 0 (outB_spec (by kernel_rfl))
                  refine Does.val (.string s) (w' := w) ?_ ⟨Below.refl _ _, rfl, hG⟩
                  simp only [Array.getD_eq_getD_getElem?] at e0
                  go_simp
                · intro listed σ w a hin hout hl hc hp hG hF
                  refine Guarded.some (d := 65) (b := false) rfl rfl ((hin 6 65 rfl (hp ⟨6, .guard⟩ (by simp) rfl)).trans (hF 6 (hp ⟨6, .guard⟩ (by simp) rfl))) ?_
                  refine Or.inl ⟨rfl, ?_⟩
                  have e9 : a.tmps.getD 9 undef = .int .i64 (ii : Int) := hout 9 (outB_spec (by kernel_rfl))
                  refine Does.val (.int .i64 (ii : Int)) (w' := w) ?_ ⟨Below.refl _ _, rfl, hG⟩
                  simp only [Array.getD_eq_getD_getElem?] at e9
                  go_simp
                · intro listed σ w a hin hout hl hc hp hG hF
                  refine Guarded.some (d := 65) (b := false) rfl rfl ((hin 6 65 rfl (hp ⟨6, .guard⟩ (by simp) rfl)).trans (hF 6 (hp ⟨6, .guard⟩ (by simp) rfl))) ?_
                  refine Or.inl ⟨rfl, ?_⟩
                  have e9 : a.tmps.getD 9 undef = .int .i64 (ii : Int) := hout 9 (outB_spec (by kernel_rfl))
                  refine Does.val (.int .i64 (ii : Int)) (w' := w) ?_ ⟨Below.refl _ _, rfl, hG⟩
                  simp only [Array.getD_eq_getD_getElem?] at e9
                  go_simp
                · intro listed σ w a hin hout hl hc hp hG hF
                  refine Guarded.some (d := 65) (b := false) rfl rfl ((hin 6 65 rfl (hp ⟨6, .guard⟩ (by simp) rfl)).trans (hF 6 (hp ⟨6, .guard⟩ (by simp) rfl))) ?_
                  refine Or.inl ⟨rfl, ?_⟩
                  have e10 : a.tmps.getD 10 undef = .int .i64 (tx.size : Int) := hout 10 (outB_spec (by kernel_rfl))
                  refine Does.val (.int .i64 (tx.size : Int)) (w' := w) ?_ ⟨Below.refl _ _, rfl, hG⟩
                  simp only [Array.getD_eq_getD_getElem?] at e10
                  go_simp
                · intro listed σ w a hin hout hl hc hp hG hF
                  refine Guarded.some (d := 65) (b := false) rfl rfl ((hin 6 65 rfl (hp ⟨6, .guard⟩ (by simp) rfl)).trans (hF 6 (hp ⟨6, .guard⟩ (by simp) rfl))) ?_
                  refine Or.inl ⟨rfl, ?_⟩
                  have e68 : a.tmps.getD 68 undef = .int .i64 (ii : Int) := (hin 9 68 rfl (hp ⟨9, .data⟩ (by simp) rfl)).trans (hF 9 (hp ⟨9, .data⟩ (by simp) rfl))
                  have e69 : a.tmps.getD 69 undef = .int .i64 (tx.size : Int) := (hin 10 69 rfl (hp ⟨10, .data⟩ (by simp) rfl)).trans (hF 10 (hp ⟨10, .data⟩ (by simp) rfl))
                  refine Does.val (.int .i64 ((ii : Int) + (tx.size : Int))) (w' := w) ?_ ⟨Below.refl _ _, rfl, hG⟩
                  simp only [Array.getD_eq_getD_getElem?] at e68 e69
                  go_simp
                  (try (exact IntWalk.i64_in _ (by omega)))
                · intro listed σ w a hin hout hl hc hp hG hF
                  refine Guarded.some (d := 65) (b := false) rfl rfl ((hin 6 65 rfl (hp ⟨6, .guard⟩ (by simp) rfl)).trans (hF 6 (hp ⟨6, .guard⟩ (by simp) rfl))) ?_
                  refine Or.inl ⟨rfl, ?_⟩
                  have e66 : a.tmps.getD 66 undef = .string s := (hin 7 66 rfl (hp ⟨7, .data⟩ (by simp) rfl)).trans (hF 7 (hp ⟨7, .data⟩ (by simp) rfl))
                  have e67 : a.tmps.getD 67 undef = .int .i64 (ii : Int) := (hin 8 67 rfl (hp ⟨8, .data⟩ (by simp) rfl)).trans (hF 8 (hp ⟨8, .data⟩ (by simp) rfl))
                  have e70 : a.tmps.getD 70 undef = .int .i64 ((ii : Int) + (tx.size : Int)) := (hin 11 70 rfl (hp ⟨11, .data⟩ (by simp) rfl)).trans (hF 11 (hp ⟨11, .data⟩ (by simp) rfl))
                  refine Does.val (.string tx) (w' := w) ?_ ⟨Below.refl _ _, rfl, hG⟩
                  simp only [Array.getD_eq_getD_getElem?] at e66 e67 e70
                  go_simp
                  (try (rw [if_pos (show (0 : Int) ≤ (ii : Int) + (tx.size : Int) ∧ (ii : Int) + (tx.size : Int) ≤ (s.size : Int) from ⟨by omega, by omega⟩), if_pos (show (ii : Int) ≤ (ii : Int) + (tx.size : Int) by omega)]))
                  (try (intro hh; exfalso; omega))
                  (try (rw [show ((ii : Int) + (tx.size : Int)).toNat = ii + tx.size by omega]))
                  (try (rw [HTX.out]))
                · intro listed σ w a hin hout hl hc hp hG hF
                  refine Guarded.some (d := 65) (b := false) rfl rfl ((hin 6 65 rfl (hp ⟨6, .guard⟩ (by simp) rfl)).trans (hF 6 (hp ⟨6, .guard⟩ (by simp) rfl))) ?_
                  refine Or.inl ⟨rfl, ?_⟩
                  have e3 : a.tmps.getD 3 undef = .slice (some ⟨ba, oa, none⟩) nT cT := hout 3 (outB_spec (by kernel_rfl))
                  refine Does.val (.slice (some ⟨ba, oa, none⟩) nT cT) (w' := w) ?_ ⟨Below.refl _ _, rfl, hG⟩
                  simp only [Array.getD_eq_getD_getElem?] at e3
                  go_simp
                · intro listed σ w a hin hout hl hc hp hG hF
                  refine Guarded.some (d := 65) (b := false) rfl rfl ((hin 6 65 rfl (hp ⟨6, .guard⟩ (by simp) rfl)).trans (hF 6 (hp ⟨6, .guard⟩ (by simp) rfl))) ?_
                  refine Or.inl ⟨rfl, ?_⟩
                  have e6 : a.tmps.getD 6 undef = .int .i64 (kk : Int) := hout 6 (outB_spec (by kernel_rfl))
                  refine Does.val (.int .i64 (kk : Int)) (w' := w) ?_ ⟨Below.refl _ _, rfl, hG⟩
                  simp only [Array.getD_eq_getD_getElem?] at e6
                  go_simp
                · intro listed σ w a hin hout hl hc hp hG hF
                  refine Guarded.some (d := 65) (b := false) rfl rfl ((hin 6 65 rfl (hp ⟨6, .guard⟩ (by simp) rfl)).trans (hF 6 (hp ⟨6, .guard⟩ (by simp) rfl))) ?_
                  refine Or.inl ⟨rfl, ?_⟩
                  have e72 : a.tmps.getD 72 undef = .slice (some ⟨ba, oa, none⟩) nT cT := (hin 13 72 rfl (hp ⟨13, .data⟩ (by simp) rfl)).trans (hF 13 (hp ⟨13, .data⟩ (by simp) rfl))
                  have e73 : a.tmps.getD 73 undef = .int .i64 (kk : Int) := (hin 14 73 rfl (hp ⟨14, .data⟩ (by simp) rfl)).trans (hF 14 (hp ⟨14, .data⟩ (by simp) rfl))
                  refine Does.val (.pointer (some ⟨ba, oa + kk * 4, none⟩)) (w' := w) ?_ ⟨Below.refl _ _, rfl, hG⟩
                  simp only [Array.getD_eq_getD_getElem?] at e72 e73
                  go_simp
                  (try (intro hh; exfalso; omega))
                  (try (intro hh; exfalso; omega))
                · intro listed σ w a hin hout hl hc hp hG hF
                  refine Guarded.some (d := 65) (b := false) rfl rfl ((hin 6 65 rfl (hp ⟨6, .guard⟩ (by simp) rfl)).trans (hF 6 (hp ⟨6, .guard⟩ (by simp) rfl))) ?_
                  refine Or.inl ⟨rfl, ?_⟩
                  have e74 : a.tmps.getD 74 undef = .pointer (some ⟨ba, oa + kk * 4, none⟩) := (hin 15 74 rfl (hp ⟨15, .data⟩ (by simp) rfl)).trans (hF 15 (hp ⟨15, .data⟩ (by simp) rfl))
                  refine Does.val (.pointer (some ⟨ba, oa + kk * 4 + 1, none⟩)) (w' := w) ?_ ⟨Below.refl _ _, rfl, hG⟩
                  simp only [Array.getD_eq_getD_getElem?] at e74
                  go_simp
                · intro listed σ w a hin hout hl hc hp hG hF
                  refine Guarded.some (d := 65) (b := false) rfl rfl ((hin 6 65 rfl (hp ⟨6, .guard⟩ (by simp) rfl)).trans (hF 6 (hp ⟨6, .guard⟩ (by simp) rfl))) ?_
                  refine Or.inl ⟨rfl, ?_⟩
                  have e75 : a.tmps.getD 75 undef = .pointer (some ⟨ba, oa + kk * 4 + 1, none⟩) := (hin 16 75 rfl (hp ⟨16, .data⟩ (by simp) rfl)).trans (hF 16 (hp ⟨16, .data⟩ (by simp) rfl))
                  have CC := SOF.out w hG; obtain C1 := CC
                  refine Does.val (.string tx) (w' := w) ?_ ⟨Below.refl _ _, rfl, hG⟩
                  go_simp
                · intro listed σ w a hin hout hl hc hp hG hF
                  refine Guarded.some (d := 65) (b := false) rfl rfl ((hin 6 65 rfl (hp ⟨6, .guard⟩ (by simp) rfl)).trans (hF 6 (hp ⟨6, .guard⟩ (by simp) rfl))) ?_
                  refine Or.inl ⟨rfl, ?_⟩
                  have e71 : a.tmps.getD 71 undef = .string tx := (hin 12 71 rfl (hp ⟨12, .data⟩ (by simp) rfl)).trans (hF 12 (hp ⟨12, .data⟩ (by simp) rfl))
                  have e76 : a.tmps.getD 76 undef = .string tx := (hin 17 76 rfl (hp ⟨17, .data⟩ (by simp) rfl)).trans (hF 17 (hp ⟨17, .data⟩ (by simp) rfl))
                  refine Does.val (.bool false) (w' := w) ?_ ⟨Below.refl _ _, rfl, hG⟩
                  simp only [Array.getD_eq_getD_getElem?] at e71 e76
                  go_simp
                · intro listed σ w a hin hout hl hc hp hG hF
                  refine Guarded.none rfl ?_
                  have e65 : a.tmps.getD 65 undef = .bool false := (hin 6 65 rfl (hp ⟨6, .data⟩ (by simp) rfl)).trans (hF 6 (hp ⟨6, .data⟩ (by simp) rfl))
                  have e77 : a.tmps.getD 77 undef = .bool false := (hin 18 77 rfl (hp ⟨18, .data⟩ (by simp) rfl)).trans (hF 18 (hp ⟨18, .data⟩ (by simp) rfl))
                  refine Does.val (.bool false) (w' := w) ?_ ⟨Below.refl _ _, rfl, hG⟩
                  simp only [Array.getD_eq_getD_getElem?] at e65 e77
                  go_simp
              · intro listed σ W9 hall hG hF
                rw [show mid _ σ listed _ = (Act.put (Act.put (Act.put (Act.put (Act.put (Act.put (Act.put (Act.put (Act.put (Act.put (Act.put (Act.put (Act.put (Act.put (Act.put (Act.put (Act.put (Act.put (Act.put (Act.put _ (some 59) (σ 0)) (some 60) (σ 1)) (some 61) (σ 2)) (some 62) (σ 3)) (some 63) (σ 4)) (some 64) (σ 5)) (some 65) (σ 6)) (some 66) (σ 7)) (some 67) (σ 8)) (some 68) (σ 9)) (some 69) (σ 10)) (some 70) (σ 11)) (some 71) (σ 12)) (some 72) (σ 13)) (some 73) (σ 14)) (some 74) (σ 15)) (some 75) (σ 16)) (some 76) (σ 17)) (some 77) (σ 18)) (some 78) (σ 19)) from (mid_all hall).trans rfl]
                generalize σ 0 = tt0
                generalize σ 1 = tt1
                generalize σ 2 = tt2
                generalize σ 3 = tt3
                generalize σ 4 = tt4
                generalize σ 5 = tt5
                generalize σ 6 = tt6
                generalize σ 7 = tt7
                generalize σ 8 = tt8
                generalize σ 9 = tt9
                generalize σ 10 = tt10
                generalize σ 11 = tt11
                generalize σ 12 = tt12
                generalize σ 13 = tt13
                generalize σ 14 = tt14
                generalize σ 15 = tt15
                generalize σ 16 = tt16
                generalize σ 17 = tt17
                generalize σ 18 = tt18
                rw [show σ 19 = .bool false from hF 19 (by decide)]
                simp only [Act.put, List.setIfInBounds_toArray, List.set_cons_zero, List.set_cons_succ]
                have TG := hG
                clear hF hG hall
                clear σ
                have HR9 := hide (HR9.out.next TG)
                clear SOF TG HTX
                go_upto_region 18 with fail
                have hps : posAt (byteAt s) (ii + 1) = stepP (posAt (byteAt s) ii) (byteAt s ii) := rfl
                have hpl := posAt_le (byteAt s) ii
                have HPP := hide hp
                by_cases hin : ii < s.size
                · have hbe := byteAt_eq s ii hin
                  by_cases h10 : byteAt s ii = 10
                  · have b10 : (((s[ii]'hin).toNat : Int) == 10) = true := by rw [beq_iff_eq]; omega
                    rw [stepP, if_pos h10, hp] at hps
                    have HPS := hide hps
                    rw [hp] at hpl
                    clear hps hbe h10 hp
                    go_wp2_with fail
                    go_roundw
                    case rel => exact ⟨ii + 1, kk + 1, by omega, by omega, by rw [HPS.out]; go_num, by rw [HPS.out]; rfl, ⟨by go_num, HKN⟩, by go_num, HR9⟩
                    case measure => simp [intOf]; omega
                  · have b10 : (((s[ii]'hin).toNat : Int) == 10) = false := by rw [beq_eq_false_iff_ne]; omega
                    rw [stepP, if_neg h10, hp] at hps
                    have HPS := hide hps
                    rw [hp] at hpl
                    clear hps hbe h10 hp
                    go_wp2_with fail
                    go_roundw
                    case rel => exact ⟨ii + 1, kk + 1, by omega, by omega, by rw [HPS.out], by rw [HPS.out]; go_num, ⟨by go_num, HKN⟩, by go_num, HR9⟩
                    case measure => simp [intOf]; omega
                · have h0 : byteAt s ii = 0 := by unfold byteAt; rw [dif_neg hin]
                  rw [stepP, if_neg (by rw [h0]; decide), hp] at hps
                  have HPS := hide hps
                  rw [hp] at hpl
                  clear hps h0 hp
                  go_wp2_with fail
                  go_roundw
                  case rel => exact ⟨ii + 1, kk + 1, by omega, by omega, by rw [HPS.out], by rw [HPS.out]; go_num, ⟨by go_num, HKN⟩, by go_num, HR9⟩
                  case measure => simp [intOf]; omega
            · have HKN := hide (show kk < nT → ∀ t : Tok, L[kk]? = some t → ii + 1 ≤ t.2.1 from fun h x hx => by
                have h2 := HK.out h x hx
                rw [hu] at hx; injection hx with hx
                rw [← hx] at h2 ⊢
                omega)
              have hne : ¬ (posAt (byteAt s) u.2.1 = p) := fun h => hat (posAt_inj (byteAt s) (h.trans hp.symm))
              have hq1 : (tk s u).line = (posAt (byteAt s) u.2.1).1 := rfl
              have hq2 : (tk s u).col = (posAt (byteAt s) u.2.1).2 := rfl
              rw [hq1] at c2
              rw [hq2] at c3
              generalize posAt (byteAt s) u.2.1 = pu at *
              clear c0 c1 ht hu hat HK hq1 hq2
              by_cases hf : pu.1 = p.1
              · have n2 : ¬ (((pu.2 : Nat) : Int) = ((p.2 : Nat) : Int)) := fun h => hne (Prod.ext hf (by omega))
                rw [hf] at c2
                clear hne hf
                go_upto_region 18 with fail
                have hps : posAt (byteAt s) (ii + 1) = stepP (posAt (byteAt s) ii) (byteAt s ii) := rfl
                have hpl := posAt_le (byteAt s) ii
                have HPP := hide hp
                by_cases hin : ii < s.size
                · have hbe := byteAt_eq s ii hin
                  by_cases h10 : byteAt s ii = 10
                  · have b10 : (((s[ii]'hin).toNat : Int) == 10) = true := by rw [beq_iff_eq]; omega
                    rw [stepP, if_pos h10, hp] at hps
                    have HPS := hide hps
                    rw [hp] at hpl
                    clear hps hbe h10 hp
                    go_wp2_with fail
                    go_roundw
                    case rel => exact ⟨ii + 1, kk, by omega, by omega, by rw [HPS.out]; go_num, by rw [HPS.out]; rfl, ⟨rfl, HKN⟩, by go_num, HR9⟩
                    case measure => simp [intOf]; omega
                  · have b10 : (((s[ii]'hin).toNat : Int) == 10) = false := by rw [beq_eq_false_iff_ne]; omega
                    rw [stepP, if_neg h10, hp] at hps
                    have HPS := hide hps
                    rw [hp] at hpl
                    clear hps hbe h10 hp
                    go_wp2_with fail
                    go_roundw
                    case rel => exact ⟨ii + 1, kk, by omega, by omega, by rw [HPS.out], by rw [HPS.out]; go_num, ⟨rfl, HKN⟩, by go_num, HR9⟩
                    case measure => simp [intOf]; omega
                · have h0 : byteAt s ii = 0 := by unfold byteAt; rw [dif_neg hin]
                  rw [stepP, if_neg (by rw [h0]; decide), hp] at hps
                  have HPS := hide hps
                  rw [hp] at hpl
                  clear hps h0 hp
                  go_wp2_with fail
                  go_roundw
                  case rel => exact ⟨ii + 1, kk, by omega, by omega, by rw [HPS.out], by rw [HPS.out]; go_num, ⟨rfl, HKN⟩, by go_num, HR9⟩
                  case measure => simp [intOf]; omega
              · have n1 : ¬ (((pu.1 : Nat) : Int) = ((p.1 : Nat) : Int)) := by omega
                clear hne hf
                go_upto_region 18 with fail
                have hps : posAt (byteAt s) (ii + 1) = stepP (posAt (byteAt s) ii) (byteAt s ii) := rfl
                have hpl := posAt_le (byteAt s) ii
                have HPP := hide hp
                by_cases hin : ii < s.size
                · have hbe := byteAt_eq s ii hin
                  by_cases h10 : byteAt s ii = 10
                  · have b10 : (((s[ii]'hin).toNat : Int) == 10) = true := by rw [beq_iff_eq]; omega
                    rw [stepP, if_pos h10, hp] at hps
                    have HPS := hide hps
                    rw [hp] at hpl
                    clear hps hbe h10 hp
                    go_wp2_with fail
                    go_roundw
                    case rel => exact ⟨ii + 1, kk, by omega, by omega, by rw [HPS.out]; go_num, by rw [HPS.out]; rfl, ⟨rfl, HKN⟩, by go_num, HR9⟩
                    case measure => simp [intOf]; omega
                  · have b10 : (((s[ii]'hin).toNat : Int) == 10) = false := by rw [beq_eq_false_iff_ne]; omega
                    rw [stepP, if_neg h10, hp] at hps
                    have HPS := hide hps
                    rw [hp] at hpl
                    clear hps hbe h10 hp
                    go_wp2_with fail
                    go_roundw
                    case rel => exact ⟨ii + 1, kk, by omega, by omega, by rw [HPS.out], by rw [HPS.out]; go_num, ⟨rfl, HKN⟩, by go_num, HR9⟩
                    case measure => simp [intOf]; omega
                · have h0 : byteAt s ii = 0 := by unfold byteAt; rw [dif_neg hin]
                  rw [stepP, if_neg (by rw [h0]; decide), hp] at hps
                  have HPS := hide hps
                  rw [hp] at hpl
                  clear hps h0 hp
                  go_wp2_with fail
                  go_roundw
                  case rel => exact ⟨ii + 1, kk, by omega, by omega, by rw [HPS.out], by rw [HPS.out]; go_num, ⟨rfl, HKN⟩, by go_num, HR9⟩
                  case measure => simp [intOf]; omega
          · obtain rfl : kk = nT := by omega
            have HKN := hide (show kk < kk → ∀ t : Tok, L[kk]? = some t → ii + 1 ≤ t.2.1 from fun h => absurd h (Nat.lt_irrefl _))
            clear HK
            go_upto_region 18 with fail
            have hps : posAt (byteAt s) (ii + 1) = stepP (posAt (byteAt s) ii) (byteAt s ii) := rfl
            have hpl := posAt_le (byteAt s) ii
            have HPP := hide hp
            by_cases hin : ii < s.size
            · have hbe := byteAt_eq s ii hin
              by_cases h10 : byteAt s ii = 10
              · have b10 : (((s[ii]'hin).toNat : Int) == 10) = true := by rw [beq_iff_eq]; omega
                rw [stepP, if_pos h10, hp] at hps
                have HPS := hide hps
                rw [hp] at hpl
                clear hps hbe h10 hp
                go_wp2_with fail
                go_roundw
                case rel => exact ⟨ii + 1, kk, by omega, by omega, by rw [HPS.out]; go_num, by rw [HPS.out]; rfl, ⟨rfl, HKN⟩, by go_num, HR9⟩
                case measure => simp [intOf]; omega
              · have b10 : (((s[ii]'hin).toNat : Int) == 10) = false := by rw [beq_eq_false_iff_ne]; omega
                rw [stepP, if_neg h10, hp] at hps
                have HPS := hide hps
                rw [hp] at hpl
                clear hps hbe h10 hp
                go_wp2_with fail
                go_roundw
                case rel => exact ⟨ii + 1, kk, by omega, by omega, by rw [HPS.out], by rw [HPS.out]; go_num, ⟨rfl, HKN⟩, by go_num, HR9⟩
                case measure => simp [intOf]; omega
            · have h0 : byteAt s ii = 0 := by unfold byteAt; rw [dif_neg hin]
              rw [stepP, if_neg (by rw [h0]; decide), hp] at hps
              have HPS := hide hps
              rw [hp] at hpl
              clear hps h0 hp
              go_wp2_with fail
              go_roundw
              case rel => exact ⟨ii + 1, kk, by omega, by omega, by rw [HPS.out], by rw [HPS.out]; go_num, ⟨rfl, HKN⟩, by go_num, HR9⟩
              case measure => simp [intOf]; omega
        · have hkn : kk = nT := by
            rcases Nat.lt_or_ge kk nT with h | h
            · exfalso
              have hl : kk < L.length := by rw [← HNT.out]; exact h
              have h2 := HK.out h _ (List.getElem?_eq_getElem hl)
              have h3 := HI1.out kk _ (List.getElem?_eq_getElem hl)
              omega
            · omega
          subst hkn
          have HF := hide (B2.out.next HR9.out)
          clear HK
          go_wp2_with fail
          go_ret
          exact ⟨rfl, HF.out⟩
    · have hpl := posAt_le (byteAt s) (lexAll (byteAt s) s.size).off
      have hp0 : resPos s (lexAll (byteAt s) s.size) = posAt (byteAt s) (lexAll (byteAt s) s.size).off := by unfold resPos; rw [if_neg hc]
      rw [hp0] at H1
      have bc : (((lexAll (byteAt s) s.size).code : Int) != 0) = true := by simp; omega
      generalize posAt (byteAt s) (lexAll (byteAt s) s.size).off = p at *
      generalize (lexAll (byteAt s) s.size).code = cd at *
      have q1 : (1 : Int) ≤ (p.1 : Int) := by omega
      have q2 : (1 : Int) ≤ (p.2 : Int) := by omega
      clear hc h1 hs hpl hp0
      go_enter Try.func5, Try.ntmps5
      go_wp2_with fail
      refine h0.mono ?_
      rintro e w1 ⟨rfl, b1⟩
      have B1 := hide b1
      clear h0 b1
      go_wp2_with fail
      refine (H1.out _).mono ?_
      rintro e w2 ⟨v, rfl, b2, l2⟩
      have B2 := hide ((B1.out.next b2).next (bl_alloc w2 (.cells #[.int .i64 (p.1 : Nat), .int .i64 (p.2 : Nat)] 25)))
      clear b2 l2 B1 H1
      go_wp2_with fail
      go_ret
      exact ⟨rfl, B2.out⟩
end Go.Proofs.Ytifikcaiknnjfaa
