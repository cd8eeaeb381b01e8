/- 'LexSpells', walked. -/
import Derived.Test.YtifikcaiknnjfaaLexLaw
import Derived.Deep.DeepCutAuto
namespace Go.Proofs.Ytifikcaiknnjfaa
open Go.RowKit
open Lx

theorem sizes_tk (s : ByteArray) (ts : List Tok) (h : ∀ t ∈ ts, t.2.1 ≤ t.2.2 ∧ t.2.2 ≤ s.size) : sizesB ((ts.map (tk s)).map (·.text)) = lens ts := by
  induction ts with
  | nil => rfl
  | cons t ts ih =>
    have h1 := h t (List.mem_cons_self ..)
    have h2 := ih (fun u hu => h u (List.mem_cons_of_mem _ hu))
    have h3 : (tk s t).text.size = t.2.2 - t.2.1 := ext_size s _ _ h1.1 h1.2
    simp only [sizesB, lens, List.map_cons, List.sum_cons] at h2 ⊢
    rw [h3, h2]
theorem good_le {f : Nat → Nat} {n : Nat} {ts : List Tok} (h : ∀ t ∈ ts, Lx.Good f n t) : ∀ t ∈ ts, t.2.1 ≤ t.2.2 ∧ t.2.2 ≤ n := fun t ht => by
  obtain ⟨h1, -, h3, -⟩ := h t ht
  have := tokEnd_gt f h1
  rw [← h3] at this
  omega
theorem full_le {n : Nat} {ts : List Tok} (h : ∀ t ∈ ts, t.2.1 ≤ t.2.2 ∧ t.2.2 ≤ n) : ∀ t ∈ ts ++ [((5, n, n) : Tok)], t.2.1 ≤ t.2.2 ∧ t.2.2 ≤ n := fun t ht => by
  rcases List.mem_append.1 ht with ht | ht
  · exact h t ht
  · have : t = (5, n, n) := by simpa using ht
    subst this
    exact ⟨Nat.le_refl _, Nat.le_refl _⟩
/-- What 'LexSpells' asks, on plain values: T the tokens of s, o their spelling, T' its tokens. -/
theorem spells_math (s : ByteArray) (hs : s.size ≤ 4000) (hc : (lexAll (byteAt s) s.size).code = 0) : ∃ (T T' : List TK) (o : ByteArray) (m : Nat),
    (lexAll (byteAt s) s.size).toks.map (tk s) = T ∧ (lexAll (byteAt o) o.size).toks.map (tk o) = T' ∧ (lexAll (byteAt o) o.size).code = 0 ∧ spellB (T.map (·.text)) = o ∧ T'.map (fun u : TK => (u.kind, u.text)) = T.map (fun u : TK => (u.kind, u.text)) ∧
    T.length = m + 1 ∧ m ≤ 4000 ∧ (T[m]?).map (·.kind) = some 5 ∧ o.size ≤ 16384 ∧ sizesB (T.map (·.text)) ≤ 4000 := by
  obtain ⟨-, ts, hts, hg, hasc⟩ := lexAll_toks hc
  have hl := hasc.lens ts 0 (Nat.zero_le _)
  have hle := good_le hg
  have hfl := full_le hle
  have hsz := sizes_tk s (ts ++ [(5, s.size, s.size)]) hfl
  have hlen : lens (ts ++ [((5, s.size, s.size) : Tok)]) = lens ts := by simp [lens]
  obtain ⟨o, ho⟩ : ∃ o, spellB (((ts ++ [((5, s.size, s.size) : Tok)]).map (tk s)).map (·.text)) = o := ⟨_, rfl⟩
  have hbo : bts o = spellL (ts.map (textF (byteAt s)) ++ [[]]) := by
    rw [← ho, spellB_bts, List.map_map]
    have := tk_texts s (ts ++ [(5, s.size, s.size)]) hfl
    rw [show (bts ∘ fun x : TK => x.text) = fun u : TK => bts u.text from rfl, this, List.map_append]
    simp only [List.map_cons, List.map_nil, textF_end]
  have hag := spell_again hg hasc (by omega)
  rw [← hbo, ← byteAt_bts, bts_len] at hag
  obtain ⟨ts', h1, h2, h3⟩ := hag
  have hos : o.size ≤ 16384 := by
    rw [← bts_len, hbo, spell_parts, spell_len]; omega
  refine ⟨_, _, o, ts.length, rfl, rfl, by rw [h1], ?_, ?_, ?_, by omega, ?_, hos, ?_⟩
  · rw [hts]; exact ho
  · rw [h1, hts]; exact again_same h2 hle h3
  · rw [hts, List.length_map, List.length_append, List.length_cons, List.length_nil]
  · rw [hts, List.map_append, List.getElem?_append_right (by rw [List.length_map]; exact Nat.le_refl _), List.length_map, Nat.sub_self]; rfl
  · rw [hts, hsz, hlen]; omega
set_option maxRecDepth 100000 in
set_option maxHeartbeats 16000000 in
theorem lexSpells_walk (s : ByteArray) (w0 : World) (hs : s.size ≤ 9223372036854775807) : Calls Try.prog 6 #[.string s] w0 (LexYes w0) := by
  have h0 := lexalive_yes w0
  by_cases h1 : 4000 < s.size
  · have g1 : (4000 : Int) < (s.size : Int) := by omega
    clear h1
    go_enter Try.func6, Try.ntmps6
    go_wp2_with fail
    refine h0.mono ?_
    rintro e w1 ⟨rfl, b1⟩
    have B1 := hide b1
    clear h0 b1
    go_wp2_with fail
    go_ret
    exact ⟨rfl, B1.out⟩
  · have g1 : ¬ (4000 : Int) < (s.size : Int) := by omega
    have H1 := hide (fun W => all_any s W hs)
    unfold AllPost at H1
    by_cases hc : (lexAll (byteAt s) s.size).code = 0
    · obtain ⟨T, T', o, m, e1, e2, e3, e4, e5, e6, e7, e8, e9, e10⟩ := spells_math s (by omega) hc
      have hp0 : resPos s (lexAll (byteAt s) s.size) = (0, 0) := by unfold resPos; rw [if_pos hc]
      have hl1 : (lexAll (byteAt s) s.size).toks.length = T.length := by rw [← e1, List.length_map]
      rw [hc, hp0, e1, hl1] at H1
      have H2 := hide (fun W => all_any o W (by omega))
      unfold AllPost at H2
      have hp1 : resPos o (lexAll (byteAt o) o.size) = (0, 0) := by unfold resPos; rw [if_pos e3]
      have hl2 : (lexAll (byteAt o) o.size).toks.length = T'.length := by rw [← e2, List.length_map]
      rw [e3, hp1, e2, hl2] at H2
      have hTl : T'.length = T.length := by have := congrArg List.length e5; rwa [List.length_map, List.length_map] at this
      obtain ⟨n, hn⟩ : ∃ n, T.length = n := ⟨_, rfl⟩
      rw [hTl] at H2
      have htx : T'.map (·.text) = T.map (·.text) := by
        have := congrArg (List.map Prod.snd) e5
        rwa [List.map_map, List.map_map] at this
      have HS1 := hide (fun (A : Option Addr) (c : Nat) W (h : KIn W A n T) => spell_any A n c T W h (by omega) (by omega))
      have HS2 := hide (fun (A : Option Addr) (c : Nat) W (h : KIn W A n T') => spell_any A n c T' W h (by omega) (by rw [htx]; omega))
      rw [e4] at HS1
      rw [htx, e4] at HS2
      have gn : ((n : Int) - 1) = (m : Int) := by omega
      have HM := hide (show m < n by omega)
      have HM5 := hide (fun t (h : T[m]? = some t) => (show t.kind = 5 by rw [h] at e8; simpa using e8))
      have hnb : n ≤ 5000 := by omega
      rw [hn] at H1 H2
      have HTT := hide e5
      have HNL := hide hn
      have HNL' := hide (hTl.trans hn)
      clear e1 e2 e3 e4 e5 e6 e7 e8 e9 e10 hp0 hp1 hl1 hl2 hTl htx hn hc
      go_enter Try.func6, Try.ntmps6
      go_wp2_with fail
      refine h0.mono ?_
      rintro e w1 ⟨rfl, b1⟩
      have B1 := hide b1
      clear h0 b1
      go_wp2_with fail
      refine (H1.out _).mono ?_
      rintro e w2 ⟨v, rfl, b2, l2⟩
      have l2' : LRow 33 4 w2 w1.heap.size v T.length (flatK T) := by rw [HNL.out]; exact l2
      obtain ⟨A, cA, rfl, hc1, hc2, k2⟩ := l2'.kin
      rw [HNL.out] at k2 ⊢
      have A2 := bl_alloc w2 (.cells #[.int .i64 0, .int .i64 0] 25)
      have B2 := hide ((B1.out.next b2).next A2)
      have K2 := hide (k2.below A2)
      have hsp := HS1.out A cA _ (k2.below A2)
      clear b2 l2 l2' k2 A2 B1 H1 hc1
      go_wp2_with fail
      refine hsp.mono ?_
      rintro e w3 ⟨rfl, b3⟩
      have B3 := hide (B2.out.next b3)
      have K3 := hide (K2.out.below b3)
      clear hsp b3 B2 K2
      go_wp2_with fail
      refine (H2.out _).mono ?_
      rintro e w4 ⟨v4, rfl, b4, l4⟩
      have l4' : LRow 33 4 w4 w3.heap.size v4 T'.length (flatK T') := by rw [HNL'.out]; exact l4
      obtain ⟨A4, cB, rfl, hc3, hc4, k4⟩ := l4'.kin
      rw [HNL'.out] at k4 ⊢
      have A5 := bl_alloc w4 (.cells #[.int .i64 0, .int .i64 0] 25)
      have B5 := hide ((B3.out.next b4).next A5)
      have KA := hide ((K3.out.below b4).below A5)
      have KB := hide (k4.below A5)
      clear b4 l4 l4' k4 A5 B3 K3 H2 hc3
      go_wp2_with fail
      generalize w4.alloc (.cells #[.int .i64 0, .int .i64 0] 25) = W4 at *
      go_loopw [46] (fun i wr => ∃ q : Nat, q ≤ n ∧ i = .int .i64 (q : Int) ∧ Hid (Below W4.heap.size W4 wr)) (fun i _ => n - (intOf i).toNat)
      case atStart => exact ⟨0, Nat.zero_le _, rfl, hide (Below.refl _ _)⟩
      case round =>
        obtain ⟨q, hq, rfl, HR⟩ := hrel
        by_cases hqn : q < n
        · obtain ⟨ba, oa, t, hA, hlt, ht, c0, c1, -, -⟩ := (KA.out.below HR.out).at_ hqn
          obtain ⟨bb, ob, t2, hB, hlt2, ht2, d0, d1, -, -⟩ := (KB.out.below HR.out).at_ hqn
          subst hA hB
          have htt : t2.kind = t.kind ∧ t2.text = t.text := by
            have h1 : (T'.map (fun u : TK => (u.kind, u.text)))[q]? = some (t2.kind, t2.text) := by rw [List.getElem?_map, ht2]; rfl
            have h2 : (T.map (fun u : TK => (u.kind, u.text)))[q]? = some (t.kind, t.text) := by rw [List.getElem?_map, ht]; rfl
            rw [HTT.out, h2] at h1
            injection h1 with h1
            injection h1 with h1 h3
            exact ⟨h1.symm, h3.symm⟩
          rw [htt.1] at d0
          rw [htt.2] at d1
          have SOF := hide (show ∀ W, Below wr.heap.size wr W → (W.cell? ⟨ba, oa + q * 4, none⟩ = some (.int .i64 (t.kind : Nat)) ∧ W.cell? ⟨ba, oa + q * 4 + 1, none⟩ = some (.string t.text) ∧ W.cell? ⟨bb, ob + q * 4, none⟩ = some (.int .i64 (t.kind : Nat)) ∧ W.cell? ⟨bb, ob + q * 4 + 1, none⟩ = some (.string t.text)) from fun W h => ⟨(below_cell h hlt).trans c0, (below_cell h hlt).trans c1, (below_cell h hlt2).trans d0, (below_cell h hlt2).trans d1⟩)
          clear ht ht2 c0 c1 d0 d1 htt
          go_upto_region 15 with fail
          refine wp_drawn (by kernel_rfl) (by kernel_rfl) (by kernel_rfl) (fun w w' => Below w.heap.size w w') (fun j v w => match j with | 0 => v = .slice (some ⟨ba, oa, none⟩) n cA | 1 => v = .int .i64 (q : Int) | 2 => v = .pointer (some ⟨ba, oa + q * 4, none⟩) | 3 => v = .pointer (some ⟨ba, oa + q * 4, none⟩) | 4 => v = .int .i64 (t.kind : Nat) | 5 => v = .slice (some ⟨bb, ob, none⟩) n cB | 6 => v = .int .i64 (q : Int) | 7 => v = .pointer (some ⟨bb, ob + q * 4, none⟩) | 8 => v = .pointer (some ⟨bb, ob + q * 4, none⟩) | 9 => v = .int .i64 (t.kind : Nat) | 10 => v = .bool false | 11 => v = .bool false | 12 => v = .slice (some ⟨ba, oa, none⟩) n cA | 13 => v = .int .i64 (q : Int) | 14 => v = .pointer (some ⟨ba, oa + q * 4, none⟩) | 15 => v = .pointer (some ⟨ba, oa + q * 4 + 1, none⟩) | 16 => v = .string t.text | 17 => v = .slice (some ⟨bb, ob, none⟩) n cB | 18 => v = .int .i64 (q : Int) | 19 => v = .pointer (some ⟨bb, ob + q * 4, none⟩) | 20 => v = .pointer (some ⟨bb, ob + q * 4 + 1, none⟩) | 21 => v = .string t.text | 22 => v = .bool false | 23 => v = .bool false | _ => True) (fun _ _ w => Below wr.heap.size wr w) ?_ (fun _ => bl_drewN wr 1) ?_ ?_
          · intro j v w w' hT h
            match j, h with
            | 0, h => exact h
            | 1, h => exact h
            | 2, h => exact h
            | 3, h => exact h
            | 4, h => exact h
            | 5, h => exact h
            | 6, h => exact h
            | 7, h => exact h
            | 8, h => exact h
            | 9, h => exact h
            | 10, h => exact h
            | 11, h => exact h
            | 12, h => exact h
            | 13, h => exact h
            | 14, h => exact h
            | 15, h => exact h
            | 16, h => exact h
            | 17, h => exact h
            | 18, h => exact h
            | 19, h => exact h
            | 20, h => exact h
            | 21, h => exact h
            | 22, h => exact h
            | 23, h => exact h
            | j + 24, h => trivial
          · refine ⟨?_, ?_, ?_, ?_, ?_, ?_, ?_, ?_, ?_, ?_, ?_, ?_, ?_, ?_, ?_, ?_, ?_, ?_, ?_, ?_, ?_, ?_, ?_, ?_, trivial⟩
            · intro listed σ w a hin hout hl hc hp hG hF
              refine Guarded.none rfl ?_
              have e3 : a.tmps.getD 3 undef = .slice (some ⟨ba, oa, none⟩) n cA := hout 3 (outB_spec (by kernel_rfl))
              refine Does.val (.slice (some ⟨ba, oa, none⟩) n cA) (w' := w) ?_ ⟨Below.refl _ _, rfl, hG⟩
              simp only [Array.getD_eq_getD_getElem?] at e3
              go_simp
            · intro listed σ w a hin hout hl hc hp hG hF
              refine Guarded.none rfl ?_
              have e10 : a.tmps.getD 10 undef = .int .i64 (q : Int) := hout 10 (outB_spec (by kernel_rfl))
              refine Does.val (.int .i64 (q : Int)) (w' := w) ?_ ⟨Below.refl _ _, rfl, hG⟩
              simp only [Array.getD_eq_getD_getElem?] at e10
              go_simp
            · intro listed σ w a hin hout hl hc hp hG hF
              refine Guarded.none rfl ?_
              have e49 : a.tmps.getD 49 undef = .slice (some ⟨ba, oa, none⟩) n cA := (hin 0 49 rfl (hp ⟨0, .data⟩ (by simp) rfl)).trans (hF 0 (hp ⟨0, .data⟩ (by simp) rfl))
              have e50 : a.tmps.getD 50 undef = .int .i64 (q : Int) := (hin 1 50 rfl (hp ⟨1, .data⟩ (by simp) rfl)).trans (hF 1 (hp ⟨1, .data⟩ (by simp) rfl))
              refine Does.val (.pointer (some ⟨ba, oa + q * 4, none⟩)) (w' := w) ?_ ⟨Below.refl _ _, rfl, hG⟩
              simp only [Array.getD_eq_getD_getElem?] at e49 e50
              go_simp
              (try (intro hh; exfalso; omega))
              (try (intro hh; exfalso; omega))
            · intro listed σ w a hin hout hl hc hp hG hF
              refine Guarded.none rfl ?_
              have e51 : a.tmps.getD 51 undef = .pointer (some ⟨ba, oa + q * 4, none⟩) := (hin 2 51 rfl (hp ⟨2, .data⟩ (by simp) rfl)).trans (hF 2 (hp ⟨2, .data⟩ (by simp) rfl))
              refine Does.val (.pointer (some ⟨ba, oa + q * 4, none⟩)) (w' := w) ?_ ⟨Below.refl _ _, rfl, hG⟩
              simp only [Array.getD_eq_getD_getElem?] at e51
              go_simp
            · intro listed σ w a hin hout hl hc hp hG hF
              refine Guarded.none rfl ?_
              have e52 : a.tmps.getD 52 undef = .pointer (some ⟨ba, oa + q * 4, none⟩) := (hin 3 52 rfl (hp ⟨3, .data⟩ (by simp) rfl)).trans (hF 3 (hp ⟨3, .data⟩ (by simp) rfl))
              have CC := SOF.out w hG; obtain ⟨C0, C1, D0, D1⟩ := CC
              refine Does.val (.int .i64 (t.kind : Nat)) (w' := w) ?_ ⟨Below.refl _ _, rfl, hG⟩
              go_simp
            · intro listed σ w a hin hout hl hc hp hG hF
              refine Guarded.none rfl ?_
              have e7 : a.tmps.getD 7 undef = .slice (some ⟨bb, ob, none⟩) n cB := hout 7 (outB_spec (by kernel_rfl))
              refine Does.val (.slice (some ⟨bb, ob, none⟩) n cB) (w' := w) ?_ ⟨Below.refl _ _, rfl, hG⟩
              simp only [Array.getD_eq_getD_getElem?] at e7
              go_simp
            · intro listed σ w a hin hout hl hc hp hG hF
              refine Guarded.none rfl ?_
              have e10 : a.tmps.getD 10 undef = .int .i64 (q : Int) := hout 10 (outB_spec (by kernel_rfl))
              refine Does.val (.int .i64 (q : Int)) (w' := w) ?_ ⟨Below.refl _ _, rfl, hG⟩
              simp only [Array.getD_eq_getD_getElem?] at e10
              go_simp
            · intro listed σ w a hin hout hl hc hp hG hF
              refine Guarded.none rfl ?_
              have e54 : a.tmps.getD 54 undef = .slice (some ⟨bb, ob, none⟩) n cB := (hin 5 54 rfl (hp ⟨5, .data⟩ (by simp) rfl)).trans (hF 5 (hp ⟨5, .data⟩ (by simp) rfl))
              have e55 : a.tmps.getD 55 undef = .int .i64 (q : Int) := (hin 6 55 rfl (hp ⟨6, .data⟩ (by simp) rfl)).trans (hF 6 (hp ⟨6, .data⟩ (by simp) rfl))
              refine Does.val (.pointer (some ⟨bb, ob + q * 4, none⟩)) (w' := w) ?_ ⟨Below.refl _ _, rfl, hG⟩
              simp only [Array.getD_eq_getD_getElem?] at e54 e55
              go_simp
              (try (intro hh; exfalso; omega))
              (try (intro hh; exfalso; omega))
            · intro listed σ w a hin hout hl hc hp hG hF
              refine Guarded.none rfl ?_
              have e56 : a.tmps.getD 56 undef = .pointer (some ⟨bb, ob + q * 4, none⟩) := (hin 7 56 rfl (hp ⟨7, .data⟩ (by simp) rfl)).trans (hF 7 (hp ⟨7, .data⟩ (by simp) rfl))
              refine Does.val (.pointer (some ⟨bb, ob + q * 4, none⟩)) (w' := w) ?_ ⟨Below.refl _ _, rfl, hG⟩
              simp only [Array.getD_eq_getD_getElem?] at e56
              go_simp
            · intro listed σ w a hin hout hl hc hp hG hF
              refine Guarded.none rfl ?_
              have e57 : a.tmps.getD 57 undef = .pointer (some ⟨bb, ob + q * 4, none⟩) := (hin 8 57 rfl (hp ⟨8, .data⟩ (by simp) rfl)).trans (hF 8 (hp ⟨8, .data⟩ (by simp) rfl))
              have CC := SOF.out w hG; obtain ⟨C0, C1, D0, D1⟩ := CC
              refine Does.val (.int .i64 (t.kind : Nat)) (w' := w) ?_ ⟨Below.refl _ _, rfl, hG⟩
              go_simp
            · intro listed σ w a hin hout hl hc hp hG hF
              refine Guarded.none rfl ?_
              have e53 : a.tmps.getD 53 undef = .int .i64 (t.kind : Nat) := (hin 4 53 rfl (hp ⟨4, .data⟩ (by simp) rfl)).trans (hF 4 (hp ⟨4, .data⟩ (by simp) rfl))
              have e58 : a.tmps.getD 58 undef = .int .i64 (t.kind : Nat) := (hin 9 58 rfl (hp ⟨9, .data⟩ (by simp) rfl)).trans (hF 9 (hp ⟨9, .data⟩ (by simp) rfl))
              refine Does.val (.bool false) (w' := w) ?_ ⟨Below.refl _ _, rfl, hG⟩
              simp only [Array.getD_eq_getD_getElem?] at e53 e58
              go_simp
            · intro listed σ w a hin hout hl hc hp hG hF
              refine Guarded.none rfl ?_
              have e59 : a.tmps.getD 59 undef = .bool false := (hin 10 59 rfl (hp ⟨10, .data⟩ (by simp) rfl)).trans (hF 10 (hp ⟨10, .data⟩ (by simp) rfl))
              refine Does.val (.bool false) (w' := w) ?_ ⟨Below.refl _ _, rfl, hG⟩
              simp only [Array.getD_eq_getD_getElem?] at e59
              go_simp
            · intro listed σ w a hin hout hl hc hp hG hF
              refine Guarded.some (d := 60) (b := false) rfl rfl ((hin 11 60 rfl (hp ⟨11, .guard⟩ (by simp) rfl)).trans (hF 11 (hp ⟨11, .guard⟩ (by simp) rfl))) ?_
              refine Or.inl ⟨rfl, ?_⟩
              have e3 : a.tmps.getD 3 undef = .slice (some ⟨ba, oa, none⟩) n cA := hout 3 (outB_spec (by kernel_rfl))
              refine Does.val (.slice (some ⟨ba, oa, none⟩) n cA) (w' := w) ?_ ⟨Below.refl _ _, rfl, hG⟩
              simp only [Array.getD_eq_getD_getElem?] at e3
              go_simp
            · intro listed σ w a hin hout hl hc hp hG hF
              refine Guarded.some (d := 60) (b := false) rfl rfl ((hin 11 60 rfl (hp ⟨11, .guard⟩ (by simp) rfl)).trans (hF 11 (hp ⟨11, .guard⟩ (by simp) rfl))) ?_
              refine Or.inl ⟨rfl, ?_⟩
              have e10 : a.tmps.getD 10 undef = .int .i64 (q : Int) := hout 10 (outB_spec (by kernel_rfl))
              refine Does.val (.int .i64 (q : Int)) (w' := w) ?_ ⟨Below.refl _ _, rfl, hG⟩
              simp only [Array.getD_eq_getD_getElem?] at e10
              go_simp
            · intro listed σ w a hin hout hl hc hp hG hF
              refine Guarded.some (d := 60) (b := false) rfl rfl ((hin 11 60 rfl (hp ⟨11, .guard⟩ (by simp) rfl)).trans (hF 11 (hp ⟨11, .guard⟩ (by simp) rfl))) ?_
              refine Or.inl ⟨rfl, ?_⟩
              have e61 : a.tmps.getD 61 undef = .slice (some ⟨ba, oa, none⟩) n cA := (hin 12 61 rfl (hp ⟨12, .data⟩ (by simp) rfl)).trans (hF 12 (hp ⟨12, .data⟩ (by simp) rfl))
              have e62 : a.tmps.getD 62 undef = .int .i64 (q : Int) := (hin 13 62 rfl (hp ⟨13, .data⟩ (by simp) rfl)).trans (hF 13 (hp ⟨13, .data⟩ (by simp) rfl))
              refine Does.val (.pointer (some ⟨ba, oa + q * 4, none⟩)) (w' := w) ?_ ⟨Below.refl _ _, rfl, hG⟩
              simp only [Array.getD_eq_getD_getElem?] at e61 e62
              go_simp
              (try (intro hh; exfalso; omega))
              (try (intro hh; exfalso; omega))
            · intro listed σ w a hin hout hl hc hp hG hF
              refine Guarded.some (d := 60) (b := false) rfl rfl ((hin 11 60 rfl (hp ⟨11, .guard⟩ (by simp) rfl)).trans (hF 11 (hp ⟨11, .guard⟩ (by simp) rfl))) ?_
              refine Or.inl ⟨rfl, ?_⟩
              have e63 : a.tmps.getD 63 undef = .pointer (some ⟨ba, oa + q * 4, none⟩) := (hin 14 63 rfl (hp ⟨14, .data⟩ (by simp) rfl)).trans (hF 14 (hp ⟨14, .data⟩ (by simp) rfl))
              refine Does.val (.pointer (some ⟨ba, oa + q * 4 + 1, none⟩)) (w' := w) ?_ ⟨Below.refl _ _, rfl, hG⟩
              simp only [Array.getD_eq_getD_getElem?] at e63
              go_simp
            · intro listed σ w a hin hout hl hc hp hG hF
              refine Guarded.some (d := 60) (b := false) rfl rfl ((hin 11 60 rfl (hp ⟨11, .guard⟩ (by simp) rfl)).trans (hF 11 (hp ⟨11, .guard⟩ (by simp) rfl))) ?_
              refine Or.inl ⟨rfl, ?_⟩
              have e64 : a.tmps.getD 64 undef = .pointer (some ⟨ba, oa + q * 4 + 1, none⟩) := (hin 15 64 rfl (hp ⟨15, .data⟩ (by simp) rfl)).trans (hF 15 (hp ⟨15, .data⟩ (by simp) rfl))
              have CC := SOF.out w hG; obtain ⟨C0, C1, D0, D1⟩ := CC
              refine Does.val (.string t.text) (w' := w) ?_ ⟨Below.refl _ _, rfl, hG⟩
              go_simp
            · intro listed σ w a hin hout hl hc hp hG hF
              refine Guarded.some (d := 60) (b := false) rfl rfl ((hin 11 60 rfl (hp ⟨11, .guard⟩ (by simp) rfl)).trans (hF 11 (hp ⟨11, .guard⟩ (by simp) rfl))) ?_
              refine Or.inl ⟨rfl, ?_⟩
              have e7 : a.tmps.getD 7 undef = .slice (some ⟨bb, ob, none⟩) n cB := hout 7 (outB_spec (by kernel_rfl))
              refine Does.val (.slice (some ⟨bb, ob, none⟩) n cB) (w' := w) ?_ ⟨Below.refl _ _, rfl, hG⟩
              simp only [Array.getD_eq_getD_getElem?] at e7
              go_simp
            · intro listed σ w a hin hout hl hc hp hG hF
              refine Guarded.some (d := 60) (b := false) rfl rfl ((hin 11 60 rfl (hp ⟨11, .guard⟩ (by simp) rfl)).trans (hF 11 (hp ⟨11, .guard⟩ (by simp) rfl))) ?_
              refine Or.inl ⟨rfl, ?_⟩
              have e10 : a.tmps.getD 10 undef = .int .i64 (q : Int) := hout 10 (outB_spec (by kernel_rfl))
              refine Does.val (.int .i64 (q : Int)) (w' := w) ?_ ⟨Below.refl _ _, rfl, hG⟩
              simp only [Array.getD_eq_getD_getElem?] at e10
              go_simp
            · intro listed σ w a hin hout hl hc hp hG hF
              refine Guarded.some (d := 60) (b := false) rfl rfl ((hin 11 60 rfl (hp ⟨11, .guard⟩ (by simp) rfl)).trans (hF 11 (hp ⟨11, .guard⟩ (by simp) rfl))) ?_
              refine Or.inl ⟨rfl, ?_⟩
              have e66 : a.tmps.getD 66 undef = .slice (some ⟨bb, ob, none⟩) n cB := (hin 17 66 rfl (hp ⟨17, .data⟩ (by simp) rfl)).trans (hF 17 (hp ⟨17, .data⟩ (by simp) rfl))
              have e67 : a.tmps.getD 67 undef = .int .i64 (q : Int) := (hin 18 67 rfl (hp ⟨18, .data⟩ (by simp) rfl)).trans (hF 18 (hp ⟨18, .data⟩ (by simp) rfl))
              refine Does.val (.pointer (some ⟨bb, ob + q * 4, none⟩)) (w' := w) ?_ ⟨Below.refl _ _, rfl, hG⟩
              simp only [Array.getD_eq_getD_getElem?] at e66 e67
              go_simp
              (try (intro hh; exfalso; omega))
              (try (intro hh; exfalso; omega))
            · intro listed σ w a hin hout hl hc hp hG hF
              refine Guarded.some (d := 60) (b := false) rfl rfl ((hin 11 60 rfl (hp ⟨11, .guard⟩ (by simp) rfl)).trans (hF 11 (hp ⟨11, .guard⟩ (by simp) rfl))) ?_
              refine Or.inl ⟨rfl, ?_⟩
              have e68 : a.tmps.getD 68 undef = .pointer (some ⟨bb, ob + q * 4, none⟩) := (hin 19 68 rfl (hp ⟨19, .data⟩ (by simp) rfl)).trans (hF 19 (hp ⟨19, .data⟩ (by simp) rfl))
              refine Does.val (.pointer (some ⟨bb, ob + q * 4 + 1, none⟩)) (w' := w) ?_ ⟨Below.refl _ _, rfl, hG⟩
              simp only [Array.getD_eq_getD_getElem?] at e68
              go_simp
            · intro listed σ w a hin hout hl hc hp hG hF
              refine Guarded.some (d := 60) (b := false) rfl rfl ((hin 11 60 rfl (hp ⟨11, .guard⟩ (by simp) rfl)).trans (hF 11 (hp ⟨11, .guard⟩ (by simp) rfl))) ?_
              refine Or.inl ⟨rfl, ?_⟩
              have e69 : a.tmps.getD 69 undef = .pointer (some ⟨bb, ob + q * 4 + 1, none⟩) := (hin 20 69 rfl (hp ⟨20, .data⟩ (by simp) rfl)).trans (hF 20 (hp ⟨20, .data⟩ (by simp) rfl))
              have CC := SOF.out w hG; obtain ⟨C0, C1, D0, D1⟩ := CC
              refine Does.val (.string t.text) (w' := w) ?_ ⟨Below.refl _ _, rfl, hG⟩
              go_simp
            · intro listed σ w a hin hout hl hc hp hG hF
              refine Guarded.some (d := 60) (b := false) rfl rfl ((hin 11 60 rfl (hp ⟨11, .guard⟩ (by simp) rfl)).trans (hF 11 (hp ⟨11, .guard⟩ (by simp) rfl))) ?_
              refine Or.inl ⟨rfl, ?_⟩
              have e65 : a.tmps.getD 65 undef = .string t.text := (hin 16 65 rfl (hp ⟨16, .data⟩ (by simp) rfl)).trans (hF 16 (hp ⟨16, .data⟩ (by simp) rfl))
              have e70 : a.tmps.getD 70 undef = .string t.text := (hin 21 70 rfl (hp ⟨21, .data⟩ (by simp) rfl)).trans (hF 21 (hp ⟨21, .data⟩ (by simp) rfl))
              refine Does.val (.bool false) (w' := w) ?_ ⟨Below.refl _ _, rfl, hG⟩
              simp only [Array.getD_eq_getD_getElem?] at e65 e70
              go_simp
            · intro listed σ w a hin hout hl hc hp hG hF
              refine Guarded.none rfl ?_
              have e60 : a.tmps.getD 60 undef = .bool false := (hin 11 60 rfl (hp ⟨11, .data⟩ (by simp) rfl)).trans (hF 11 (hp ⟨11, .data⟩ (by simp) rfl))
              have e71 : a.tmps.getD 71 undef = .bool false := (hin 22 71 rfl (hp ⟨22, .data⟩ (by simp) rfl)).trans (hF 22 (hp ⟨22, .data⟩ (by simp) rfl))
              refine Does.val (.bool false) (w' := w) ?_ ⟨Below.refl _ _, rfl, hG⟩
              simp only [Array.getD_eq_getD_getElem?] at e60 e71
              go_simp
          · intro listed σ W9 hall hG hF
            rw [show mid _ σ listed _ = (Act.put (Act.put (Act.put (Act.put (Act.put (Act.put (Act.put (Act.put (Act.put (Act.put (Act.put (Act.put (Act.put (Act.put (Act.put (Act.put (Act.put (Act.put (Act.put (Act.put (Act.put (Act.put (Act.put (Act.put _ (some 49) (σ 0)) (some 50) (σ 1)) (some 51) (σ 2)) (some 52) (σ 3)) (some 53) (σ 4)) (some 54) (σ 5)) (some 55) (σ 6)) (some 56) (σ 7)) (some 57) (σ 8)) (some 58) (σ 9)) (some 59) (σ 10)) (some 60) (σ 11)) (some 61) (σ 12)) (some 62) (σ 13)) (some 63) (σ 14)) (some 64) (σ 15)) (some 65) (σ 16)) (some 66) (σ 17)) (some 67) (σ 18)) (some 68) (σ 19)) (some 69) (σ 20)) (some 70) (σ 21)) (some 71) (σ 22)) (some 72) (σ 23)) from (mid_all hall).trans rfl]
            generalize σ 0 = tt0
            generalize σ 1 = tt1
            generalize σ 2 = tt2
            generalize σ 3 = tt3
            generalize σ 4 = tt4
            generalize σ 5 = tt5
            generalize σ 6 = tt6
            generalize σ 7 = tt7
            generalize σ 8 = tt8
            generalize σ 9 = tt9
            generalize σ 10 = tt10
            generalize σ 11 = tt11
            generalize σ 12 = tt12
            generalize σ 13 = tt13
            generalize σ 14 = tt14
            generalize σ 15 = tt15
            generalize σ 16 = tt16
            generalize σ 17 = tt17
            generalize σ 18 = tt18
            generalize σ 19 = tt19
            generalize σ 20 = tt20
            generalize σ 21 = tt21
            generalize σ 22 = tt22
            rw [show σ 23 = .bool false from hF 23 (by decide)]
            simp only [Act.put, List.setIfInBounds_toArray, List.set_cons_zero, List.set_cons_succ]
            have TG := hG
            clear hF hG hall
            clear σ
            have HR2 := hide (HR.out.next TG)
            clear SOF TG
            go_wp2_with fail
            go_roundw
            case rel => exact ⟨q + 1, by omega, by go_num, HR2⟩
            case measure => simp [intOf]; omega
        · obtain ⟨ba, oa, t, hA, hlt, ht, c0, -, -, -⟩ := (KA.out.below HR.out).at_ HM.out
          subst hA
          rw [HM5.out t ht] at c0
          have hsp := HS2.out A4 cB wr (KB.out.below HR.out)
          have hmm := HM.out
          clear ht
          go_wp2_with fail
          refine hsp.mono ?_
          rintro e w6 ⟨rfl, b6⟩
          have c6 : w6.cell? ⟨ba, oa + m * 4, none⟩ = some (.int .i64 ((5 : Nat) : Int)) := (below_cell b6 hlt).trans c0
          have B6 := hide (B5.out.next (HR.out.next b6))
          clear hsp b6 c0
          go_wp2_with fail
          go_ret
          exact ⟨rfl, B6.out⟩
    · have hf := lexAll_fail hc
      rw [hf] at H1
      have bc : (((lexAll (byteAt s) s.size).code : Int) != 0) = true := by simp; omega
      generalize resPos s (lexAll (byteAt s) s.size) = p at *
      generalize (lexAll (byteAt s) s.size).code = cd at *
      clear hc h1 hs hf
      go_enter Try.func6, Try.ntmps6
      go_wp2_with fail
      refine h0.mono ?_
      rintro e w1 ⟨rfl, b1⟩
      have B1 := hide b1
      clear h0 b1
      go_wp2_with fail
      refine (H1.out _).mono ?_
      rintro e w2 ⟨v, rfl, b2, l2⟩
      obtain ⟨A, c, rfl, -, -, -⟩ := l2.len
      have B2 := hide ((B1.out.next b2).next (bl_alloc w2 (.cells #[.int .i64 (p.1 : Nat), .int .i64 (p.2 : Nat)] 25)))
      clear b2 l2 B1 H1
      go_wp2_with fail
      go_ret
      exact ⟨rfl, B2.out⟩
end Go.Proofs.Ytifikcaiknnjfaa
