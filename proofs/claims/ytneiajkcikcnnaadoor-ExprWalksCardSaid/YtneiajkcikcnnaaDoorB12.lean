/- Texts of one seat, put together: ExprT ExprC6. -/
import Derived.Test.YtneiajkcikcnnaaDoorB11
set_option linter.unusedVariables false
/- What is parsed is right. -/
namespace Go.Proofs.YtneiajkcikcnnaaDoor.Ex

theorem right_mono (t : Tr) : ∀ lv lv', lv ≤ lv' → right lv t → right lv' t := by
  induction t with
  | leaf b => intro lv lv' _ _; trivial
  | cmp l op x => intro lv lv' _ h; exact h
  | deny t ih =>
    intro lv lv' hl h
    unfold right at h ⊢
    split
    · rename_i hc
      rw [if_pos hc] at h
      exact ⟨by have := h.1; omega, ih _ _ (by omega) h.2⟩
    · rename_i hc
      rw [if_neg hc] at h
      exact ⟨by have := h.1; omega, ih _ _ (by omega) h.2⟩
  | both a b iha ihb =>
    intro lv lv' hl h
    obtain ⟨h1, h2⟩ := h
    refine ⟨?_, ?_⟩
    · split
      · rename_i hc
        rw [if_pos hc] at h1
        exact ⟨by have := h1.1; omega, iha _ _ (by omega) h1.2⟩
      · rename_i hc
        rw [if_neg hc] at h1
        exact iha _ _ hl h1
    · split
      · rename_i hc
        rw [if_pos hc] at h2
        exact ⟨by have := h2.1; omega, ihb _ _ (by omega) h2.2⟩
      · rename_i hc
        rw [if_neg hc] at h2
        exact ihb _ _ hl h2
  | any a b iha ihb =>
    intro lv lv' hl h
    obtain ⟨h1, h2⟩ := h
    refine ⟨iha _ _ hl h1, ?_⟩
    split
    · rename_i hc
      rw [if_pos hc] at h2
      exact ⟨by have := h2.1; omega, ihb _ _ (by omega) h2.2⟩
    · rename_i hc
      rw [if_neg hc] at h2
      exact ihb _ _ hl h2
/-- Tokens of a text: a number's text is one. -/
def WF (r : List PT) : Prop := ∀ p ∈ r, p.1 = 3 → rnumB p.2 = true
theorem WF.tail {r : List PT} (h : WF r) : WF r.tail := fun p hp => h p (List.mem_of_mem_tail hp)
theorem WF.of_cons {p : PT} {r : List PT} (h : WF (p :: r)) : WF r := h.tail
theorem num_eS : rnumB eS = false := by decide +kernel
theorem name_eS : rnameB eS = false := by decide +kernel
theorem mono_right {kn : ByteArray → Bool} {full neg : Bool} {r r1 : List PT} {x : Mn} (hw : WF r) (h : monoP kn full neg r = .ok x r1) : okMn x ∧ WF r1 ∧ (x.var ≠ eS → kn x.var = true) ∧ full = false := by
  cases r with
  | nil => cases h
  | cons p r =>
    rw [monoP] at h
    by_cases c1 : (p.1 == 3) = true
    · have hn := hw p (List.mem_cons_self ..) (by simpa using c1)
      have hne : p.2 ≠ eS := fun e => by rw [e, num_eS] at hn; cases hn
      rw [if_pos c1] at h
      by_cases c2 : full = true
      · rw [if_pos c2] at h; cases h
      · have hf : full = false := by simpa using c2
        rw [if_neg c2] at h
        by_cases c3 : isT ⟨#[42]⟩ r = true
        · rw [if_pos c3] at h
          cases hr : r.tail with
          | nil => rw [hr] at h; cases h
          | cons p2 r2 =>
            rw [hr] at h
            dsimp only at h
            by_cases c4 : isName p2 = true
            · rw [if_pos c4] at h
              by_cases c5 : kn p2.2 = true
              · rw [if_pos c5] at h
                injection h with h1 h2
                subst h1 h2
                have hv : rnameB p2.2 = true := by
                  simp only [isName, Bool.and_eq_true] at c4; exact c4.2
                refine ⟨⟨fun hh => hne hh.1, Or.inr hn, Or.inr hv⟩, ?_, fun _ => c5, hf⟩
                have := hw.of_cons.tail
                rw [hr] at this
                exact this.of_cons
              · rw [if_neg c5] at h; cases h
            · rw [if_neg c4] at h; cases h
        · rw [if_neg c3] at h
          injection h with h1 h2
          subst h1 h2
          exact ⟨⟨fun hh => hne hh.1, Or.inr hn, Or.inl rfl⟩, hw.of_cons, fun hh => absurd rfl hh, hf⟩
    · rw [if_neg c1] at h
      by_cases c2 : isName p = true
      · rw [if_pos c2] at h
        have hv : rnameB p.2 = true := by
          simp only [isName, Bool.and_eq_true] at c2; exact c2.2
        have hne : p.2 ≠ eS := fun e => by rw [e, name_eS] at hv; cases hv
        by_cases c3 : full = true
        · rw [if_pos c3] at h; cases h
        · rw [if_neg c3] at h
          by_cases c4 : kn p.2 = true
          · rw [if_pos c4] at h
            injection h with h1 h2
            subst h1 h2
            exact ⟨⟨fun hh => hne hh.2, Or.inl rfl, Or.inr hv⟩, hw.of_cons, fun _ => c4, by simpa using c3⟩
          · rw [if_neg c4] at h; cases h
      · rw [if_neg c2] at h; cases h
theorem sumGo_right (kn : ByteArray → Bool) (m : Nat) : ∀ (neg : Bool) (acc : List Mn) (r : List PT) (l : List Mn) (r1 : List PT), WF r → acc.length ≤ 64 → (∀ x ∈ acc, okMn x) → knSum kn acc → sumGo kn m neg acc r = .ok l r1 → okSum l ∧ WF r1 ∧ knSum kn l := by
  induction m with
  | zero => intro neg acc r l r1 _ _ _ _ h; cases h
  | succ m ih =>
    intro neg acc r l r1 hw hc ha hk h
    rw [sumGo] at h
    cases hm : monoP kn (acc.length == 64) neg r with
    | fuel => rw [hm] at h; cases h
    | err c r2 => rw [hm] at h; cases h
    | ok x r2 =>
      rw [hm] at h
      obtain ⟨h1, h2, h3, h4⟩ := mono_right hw hm
      have h5 : acc.length ≠ 64 := by simpa using h4
      have ha2 : ∀ y ∈ acc ++ [x], okMn y := fun y hy => by
        rcases List.mem_append.1 hy with hy | hy
        · exact ha y hy
        · have : y = x := by simpa using hy
          rw [this]; exact h1
      have hk2 : knSum kn (acc ++ [x]) := fun y hy => by
        rcases List.mem_append.1 hy with hy | hy
        · exact hk y hy
        · have : y = x := by simpa using hy
          rw [this]; exact h3
      have hc2 : (acc ++ [x]).length ≤ 64 := by rw [List.length_append, List.length_cons, List.length_nil]; omega
      dsimp only at h
      by_cases c1 : isT ⟨#[45]⟩ r2 = true
      · rw [if_pos c1] at h
        exact ih _ _ _ _ _ h2.tail hc2 ha2 hk2 h
      · rw [if_neg c1] at h
        by_cases c2 : isT ⟨#[43]⟩ r2 = true
        · rw [if_pos c2] at h
          exact ih _ _ _ _ _ h2.tail hc2 ha2 hk2 h
        · rw [if_neg c2] at h
          injection h with e1 e2
          subst e1 e2
          exact ⟨⟨by rw [List.length_append, List.length_cons, List.length_nil]; omega, hc2, ha2⟩, h2, hk2⟩
theorem sum_right {kn : ByteArray → Bool} {r r1 : List PT} {l : List Mn} (hw : WF r) (h : sumP kn r = .ok l r1) : okSum l ∧ WF r1 ∧ knSum kn l := by
  unfold sumP at h
  split at h
  · exact sumGo_right kn _ _ _ _ _ _ hw.tail (Nat.zero_le _) (fun x hx => by cases hx) (fun x hx => by cases hx) h
  · exact sumGo_right kn _ _ _ _ _ _ hw (Nat.zero_le _) (fun x hx => by cases hx) (fun x hx => by cases hx) h
theorem opP_lt {r : List PT} {op : Nat} (h : opP r = some op) : op < 6 := by
  unfold opP at h
  have := List.mem_of_find?_eq_some h
  simpa using this
theorem cmp_right {kn : ByteArray → Bool} {r r1 : List PT} {t : Tr} (hw : WF r) (h : cmpP kn r = .ok t r1) : ∃ l op x, t = .cmp l op x ∧ okSum l ∧ op < 6 ∧ okSum x ∧ WF r1 ∧ knSum kn l ∧ knSum kn x := by
  unfold cmpP at h
  cases h1 : sumP kn r with
  | fuel => rw [h1] at h; cases h
  | err c r1 => rw [h1] at h; cases h
  | ok l r2 =>
    rw [h1] at h
    obtain ⟨a1, a2, a3⟩ := sum_right hw h1
    dsimp only at h
    cases h2 : opP r2 with
    | none => rw [h2] at h; cases h
    | some op =>
      rw [h2] at h
      dsimp only at h
      cases h3 : sumP kn r2.tail with
      | fuel => rw [h3] at h; cases h
      | err c r2 => rw [h3] at h; cases h
      | ok x r3 =>
        rw [h3] at h
        obtain ⟨b1, b2, b3⟩ := sum_right a2.tail h3
        dsimp only at h
        injection h with e1 e2
        subst e1 e2
        exact ⟨l, op, x, rfl, a1, opP_lt h2, b1, b2, a3, b3⟩
/-- Right as a kid behind a sign; right as a first part. -/
def kidR (lv : Nat) (t : Tr) : Prop := if isBoth t || isAny t then 1 ≤ lv ∧ right (lv - 1) t else right lv t
def fstR (lv : Nat) (t : Tr) : Prop := if isAny t then 1 ≤ lv ∧ right (lv - 1) t else right lv t
theorem kid_right {lv : Nat} {t : Tr} (h : kidR lv t) : right lv t := by
  unfold kidR at h
  split at h
  · exact right_mono t _ _ (by omega) h.2
  · exact h
theorem fst_right {lv : Nat} {t : Tr} (h : fstR lv t) : right lv t := by
  unfold fstR at h
  split at h
  · exact right_mono t _ _ (by omega) h.2
  · exact h
theorem kid_fst {lv : Nat} {t : Tr} (h : kidR lv t) : fstR lv t := by
  unfold fstR
  split
  · rename_i hc
    unfold kidR at h
    rw [hc, Bool.or_true, if_pos rfl] at h
    exact h
  · exact kid_right h
def okMd (lv : Nat) : Md → Tr → Prop
  | .one, t => kidR lv t
  | .both, t => fstR lv t
  | .bothGo _, t => fstR lv t
  | .cond, t => right lv t
  | .condGo _, t => right lv t
def startMd (kn : ByteArray → Bool) (lv : Nat) : Md → Prop
  | .bothGo t => fstR lv t ∧ knows kn t
  | .condGo t => right lv t ∧ knows kn t
  | _ => True
theorem pars_right (kn : ByteArray → Bool) (n : Nat) : ∀ (md : Md) (lv : Nat) (r : List PT) (t : Tr) (r1 : List PT), WF r → startMd kn lv md → pars kn n md lv r = .ok t r1 → okMd lv md t ∧ WF r1 ∧ knows kn t := by
  induction n with
  | zero => intro md lv r t r1 _ _ h; cases h
  | succ n ih =>
    intro md lv r t r1 hw hs h
    cases md with
    | one =>
      rw [pars_one] at h
      by_cases c1 : lv = 0 ∧ (isT ⟨#[33]⟩ r = true ∨ isT ⟨#[40]⟩ r = true)
      · rw [if_pos c1] at h; cases h
      · rw [if_neg c1] at h
        by_cases c2 : isT ⟨#[33]⟩ r = true
        · rw [if_pos c2] at h
          obtain ⟨t2, r2, h1, h2⟩ := bind_ok h
          injection h2 with e1 e2
          subst e1 e2
          obtain ⟨a1, a2, a3⟩ := ih .one _ _ _ _ hw.tail trivial h1
          have hlv : 1 ≤ lv := by
            rcases Nat.eq_zero_or_pos lv with h0 | h0
            · exact absurd ⟨h0, Or.inl c2⟩ c1
            · exact h0
          refine ⟨?_, a2, a3⟩
          show kidR lv (.deny t2)
          unfold kidR
          rw [if_neg (show ¬ ((isBoth (.deny t2) || isAny (.deny t2)) = true) from Bool.false_ne_true)]
          unfold right
          have a1' : kidR (lv - 1) t2 := a1
          unfold kidR at a1'
          split
          · rename_i hc
            rw [if_pos hc] at a1'
            exact ⟨by have := a1'.1; omega, by rw [show lv - 2 = lv - 1 - 1 by omega]; exact a1'.2⟩
          · rename_i hc
            rw [if_neg hc] at a1'
            exact ⟨hlv, a1'⟩
        · rw [if_neg c2] at h
          by_cases c3 : isT ⟨#[40]⟩ r = true
          · rw [if_pos c3] at h
            obtain ⟨t2, r2, h1, h2⟩ := bind_ok h
            obtain ⟨a1, a2, a3⟩ := ih .cond _ _ _ _ hw.tail trivial h1
            have hlv : 1 ≤ lv := by
              rcases Nat.eq_zero_or_pos lv with h0 | h0
              · exact absurd ⟨h0, Or.inr c3⟩ c1
              · exact h0
            split at h2
            · injection h2 with e1 e2
              subst e1 e2
              refine ⟨?_, a2.tail, a3⟩
              show kidR lv t2
              unfold kidR
              split
              · exact ⟨hlv, a1⟩
              · exact right_mono t2 _ _ (by omega) a1
            · cases h2
          · rw [if_neg c3] at h
            split at h
            · injection h with e1 e2
              subst e1 e2
              exact ⟨trivial, hw.tail, trivial⟩
            · split at h
              · injection h with e1 e2
                subst e1 e2
                exact ⟨trivial, hw.tail, trivial⟩
              · obtain ⟨l, op, x, rfl, a1, a2, a3, a4, a5, a6⟩ := cmp_right hw h
                exact ⟨⟨a1, a2, a3⟩, a4, a5, a6⟩
    | both =>
      rw [pars_both] at h
      obtain ⟨t2, r2, h1, h2⟩ := bind_ok h
      obtain ⟨a1, a2, a3⟩ := ih .one _ _ _ _ hw trivial h1
      exact ih (.bothGo t2) _ _ _ _ a2 ⟨kid_fst a1, a3⟩ h2
    | bothGo k =>
      rw [pars_bothGo] at h
      split at h
      · obtain ⟨t2, r2, h1, h2⟩ := bind_ok h
        obtain ⟨a1, a2, a3⟩ := ih .one _ _ _ _ hw.tail trivial h1
        refine ih (.bothGo (.both k t2)) _ _ _ _ a2 ⟨?_, hs.2, a3⟩ h2
        unfold fstR
        rw [if_neg (show ¬ (isAny (.both k t2) = true) from Bool.false_ne_true)]
        exact ⟨hs.1, a1⟩
      · injection h with e1 e2
        subst e1 e2
        exact ⟨hs.1, hw, hs.2⟩
    | cond =>
      rw [pars_cond] at h
      obtain ⟨t2, r2, h1, h2⟩ := bind_ok h
      obtain ⟨a1, a2, a3⟩ := ih .both _ _ _ _ hw trivial h1
      exact ih (.condGo t2) _ _ _ _ a2 ⟨fst_right a1, a3⟩ h2
    | condGo k =>
      rw [pars_condGo] at h
      split at h
      · obtain ⟨t2, r2, h1, h2⟩ := bind_ok h
        obtain ⟨a1, a2, a3⟩ := ih .both _ _ _ _ hw.tail trivial h1
        exact ih (.condGo (.any k t2)) _ _ _ _ a2 ⟨⟨hs.1, a1⟩, hs.2, a3⟩ h2
      · injection h with e1 e2
        subst e1 e2
        exact ⟨hs.1, hw, hs.2⟩
/-- What is parsed as a condition is right. -/
theorem cond_right {kn : ByteArray → Bool} {lv : Nat} {r r1 : List PT} {t : Tr} (hw : WF r) (h : parsF kn .cond lv r = .ok t r1) : right lv t ∧ WF r1 ∧ knows kn t := pars_right kn _ .cond lv r t r1 hw trivial h
end Go.Proofs.YtneiajkcikcnnaaDoor.Ex
/- A cursor's mono. -/
namespace Go.Proofs.YtneiajkcikcnnaaDoor
open Go.RowKit
open Lx Ex

theorem results_mo {fn : Func} {p t : Tmp} (h : fn.results = #[.cell p 76, .tmp t]) (tmps : Array Value) (w : World) (g : Nat) (x y z : Value)
    (hq : tmps.getD p undef = .pointer (some ⟨g, 0, none⟩)) (hg : Box 76 w g #[x, y, z]) : (results fn tmps).run Tryd.prog w = .ok (.tuple #[.agg #[x, y, z], tmps.getD t undef]) w := by
  have hq' : tmps[p]?.getD undef = .pointer (some ⟨g, 0, none⟩) := by simpa using hq
  simp [results, h, hq', asAddr, run_loadVar_row w g 76 76 #[x, y, z] (0, 0) _ hg Tryd.underlying76 rfl (by kernel_rfl)]
theorem bodyPost_mo {fn : Func} {R : Ending → World → Prop} {a : Act} {w : World} {g p t : Nat} {x y z v : Value} (hres : fn.results = #[.cell p 76, .tmp t]) (hp : a.tmps.getD p undef = .pointer (some ⟨g, 0, none⟩))
    (hv : a.tmps.getD t undef = v) (hb : Box 76 w g #[x, y, z]) (hd : a.defers = []) (hR : R (.returned (.tuple #[.agg #[x, y, z], v])) w) : bodyPost Tryd.prog fn R .ret a w :=
  bodyPost_ret (by rw [results_mo hres _ _ g x y z hp hb, hv]) hd hR
/-- What mono does, its sign aside. -/
def MonoPost (D : CD) (g i : Nat) (full : Bool) (w : World) (e : Ending) (w' : World) : Prop :=
  match monoP D.kn full false (rd D.ts i) with
  | .ok x r1 => ∃ i', e = .returned (.tuple #[.agg #[.bool false, .string x.num, .string x.var], .int .i64 0]) ∧ Stands D i r1 i' ∧ Went D g i' w w'
  | .err c r1 => ∃ i' x y, e = .returned (.tuple #[.agg #[.bool false, .string x, .string y], .int .i64 (c : Nat)]) ∧ c ≠ 0 ∧ Stands D i r1 i' ∧ Went D g i' w w'
  | .fuel => False
theorem MonoPost.ok {D : CD} {g i i' : Nat} {full : Bool} {w w' : World} {x : Mn} {r1 : List PT} (h : monoP D.kn full false (rd D.ts i) = .ok x r1) (hs : Stands D i r1 i') (hw : Went D g i' w w') : MonoPost D g i full w (.returned (.tuple #[.agg #[.bool false, .string x.num, .string x.var], .int .i64 0])) w' := by
  unfold MonoPost; rw [h]; exact ⟨i', rfl, hs, hw⟩
theorem MonoPost.err {D : CD} {g i i' c : Nat} {full : Bool} {w w' : World} {r1 : List PT} (x y : ByteArray) (h : monoP D.kn full false (rd D.ts i) = .err c r1) (hc : c ≠ 0) (hs : Stands D i r1 i') (hw : Went D g i' w w') : MonoPost D g i full w (.returned (.tuple #[.agg #[.bool false, .string x, .string y], .int .i64 (c : Nat)])) w' := by
  unfold MonoPost; rw [h]; exact ⟨i', x, y, rfl, hc, hs, hw⟩
/-- mono's last words: a name behind a number, or alone. -/
theorem MonoPost.named {D : CD} {g i j : Nat} {full : Bool} {w w' : World} (num : ByteArray) (he : EndsK D.ts) (hsj : Stands D i (rd D.ts j) j)
    (h : monoP D.kn full false (rd D.ts i) = if isName (pt (hd D.ts j)) = true then (if D.kn (hd D.ts j).text = true then .ok ⟨num, (hd D.ts j).text, false⟩ (rd D.ts j).tail else .err 110 (rd D.ts j)) else .err 101 (rd D.ts j))
    (hw : Went D g (nmI D j) w w') : MonoPost D g i full w (.returned (.tuple #[.agg #[.bool false, .string num, .string (nmS D j)], .int .i64 (nmC D j : Nat)])) w' := by
  unfold nmI nmS at *
  by_cases h1 : isName (pt (hd D.ts j)) = true
  · by_cases h2 : D.kn (hd D.ts j).text = true
    · have e0 : nmC D j = 0 := by unfold nmC; rw [if_pos h1, if_pos h2]
      rw [if_pos h1, if_pos h2] at h
      rw [if_pos e0] at hw
      rw [e0, if_pos rfl]
      exact MonoPost.ok (x := ⟨num, (hd D.ts j).text, false⟩) h (hsj.trans (Stands.step he (name_kind h1))) hw
    · have e0 : nmC D j = 110 := by unfold nmC; rw [if_pos h1, if_neg h2]
      rw [if_pos h1, if_neg h2] at h
      rw [if_neg (by omega)] at hw
      rw [e0, if_neg (by omega)]
      exact MonoPost.err (c := 110) _ _ h (by decide) hsj hw
  · have e0 : nmC D j = 101 := by unfold nmC; rw [if_neg h1]
    rw [if_neg h1] at h
    rw [if_neg (by omega)] at hw
    rw [e0, if_neg (by omega)]
    exact MonoPost.err (c := 101) _ _ h (by decide) hsj hw
theorem mono_rd (D : CD) (i : Nat) (full : Bool) : monoP D.kn full false (rd D.ts i) = monoP D.kn full false (pt (hd D.ts i) :: (rd D.ts i).tail) := by rw [← rd_cons]
theorem mono_num (kn : ByteArray → Bool) (full : Bool) (p : PT) (r : List PT) (h3 : p.1 = 3) : monoP kn full false (p :: r) = if full = true then .err 3 (p :: r) else if isT ⟨#[42]⟩ r = true then (match r.tail with
        | [] => .err 101 []
        | p2 :: r2 => if isName p2 = true then (if kn p2.2 = true then .ok ⟨p.2, p2.2, false⟩ r2 else .err 110 (p2 :: r2)) else .err 101 (p2 :: r2)) else .ok ⟨p.2, ⟨#[]⟩, false⟩ r := by
  rw [monoP, if_pos (by simp [h3])]
  cases r.tail <;> rfl
theorem mono_let (kn : ByteArray → Bool) (full : Bool) (p : PT) (r : List PT) (h3 : p.1 ≠ 3) : monoP kn full false (p :: r) = if isName p = true then (if full = true then .err 3 (p :: r) else if kn p.2 = true then .ok ⟨⟨#[]⟩, p.2, false⟩ r else .err 110 (p :: r)) else .err 101 (p :: r) := by
  rw [monoP, if_neg (by simp [h3])]
set_option maxRecDepth 100000 in
set_option maxHeartbeats 8000000 in
theorem mono_any (D : CD) (g i : Nat) (full : Bool) (w : World) (h : Cur D g w i) : Calls Tryd.prog 27 #[.pointer (some ⟨g, 0, none⟩), .bool full] w (MonoPost D g i full w) := by
  have hb := bl_alloc w (.cells #[.bool false, .string ⟨#[]⟩, .string ⟨#[]⟩] 76)
  have hx := Box.new 76 w #[.bool false, .string ⟨#[]⟩, .string ⟨#[]⟩]
  have hcb := h.below hb
  have HC := hide hcb
  have ha := at_any D g i _ hcb
  unfold AtPost at ha
  have hz := h.good.hd_small i
  have hM := mono_rd D i full
  have hnc := h.good.hd_wf i
  have hne : g ≠ w.heap.size := Nat.ne_of_lt h.lt
  have HSN := hide (fun W (hW : Below w.heap.size w W) => seesName_any D g i W (h.below hW))
  unfold BoolW at HSN
  have HNM := hide (fun W (hW : Below w.heap.size w W) => cname_any D g i W (h.below hW))
  unfold NamePost at HNM
  have HB := hide hb
  have HX := hide hx
  by_cases h3 : (hd D.ts i).kind = 3
  · have hrn := hnc h3
    rw [mono_num _ _ _ _ h3] at hM
    have hnum := fun W => number_any (hd D.ts i).text W hz
    rw [number_eq, hrn] at hnum
    have HNU := hide hnum
    have h5 : (hd D.ts i).kind ≠ 5 := by omega
    have HS1 := hide (Stands.step h.good.ends h5)
    have HK1 := hide (rd_step h.good.ends h5)
    have HFT := hide h.fits
    have HSK := hide (fun W (hW : Below w.heap.size w W) => skip_any D g i W (h.below hW))
    have e1 := HS1.out.1
    rw [h3] at ha
    cases full with
    | true =>
      rw [if_pos rfl] at hM
      have HP := hide (fun w' => MonoPost.err (g := g) (w := w) (w' := w') (c := 3) ⟨#[]⟩ ⟨#[]⟩ (hM.trans (congrArg _ (rd_cons D.ts i).symm)) (by decide) (Stands.refl D i))
      clear hM e1 h5 hnc hnum hrn h3 hcb hx hb
      have HH := hide h
      clear h
      go_enter Tryd.func27, Tryd.ntmps27
      go_wp2_with fail
      refine ha.mono ?_
      rintro e w1 ⟨rfl, b1⟩
      go_wp2_with fail
      refine (HNU.out _).mono ?_
      rintro e w2 ⟨rfl, b2⟩
      have B2 := hide (((HB.out.next b1).next (bl_alloc _ _)).next b2)
      have x2 := ((HX.out.next b1).alloc _).next b2
      clear b1 b2
      go_wp2_with (with_reducible refine wpList_store_box rfl 76 _ _ rfl w.heap.size #[.bool false, .string ⟨#[]⟩, .string ⟨#[]⟩] rfl rfl _ x2 (by kernel_rfl) rfl (by simp [Value.oneCell']) ?_; intro w3 k3 ho3)
      refine bodyPost_mo rfl rfl rfl k3 rfl ?_
      exact HP.out _ (.of_below HH.out (B2.out.trans (ho3.below B2.out.size (Nat.le_refl _))))
    | false =>
      rw [if_neg (by decide), ← e1] at hM
      have HT := hide (fun W (c3 : Cur D g W (i + 1)) => take_any D g (i + 1) ⟨#[42]⟩ W c3)
      unfold TakePost at HT
      cases hs : isT ⟨#[42]⟩ (rd D.ts (i + 1)) with
      | false =>
        rw [hs] at HT
        rw [if_neg (by rw [hs]; decide)] at hM
        simp only [Bool.false_eq_true, if_false] at HT
        have HP := hide (fun w' => MonoPost.ok (g := g) (w := w) (w' := w') hM (by have := HS1.out; rw [← e1] at this; exact this))
        clear hM e1 h5 hnc hnum hrn h3 hcb hx hb hs
        have HH := hide h
        clear h
        go_enter Tryd.func27, Tryd.ntmps27
        go_wp2_with fail
        refine ha.mono ?_
        rintro e w1 ⟨rfl, b1⟩
        go_wp2_with fail
        refine (HNU.out _).mono ?_
        rintro e w2 ⟨rfl, b2⟩
        have B2 := hide (((HB.out.next b1).next (bl_alloc _ _)).next b2)
        have X2 := hide (((HX.out.next b1).alloc _).next b2)
        have T2 := hide ((Box.new 60 w1 _).next b2)
        have hg1 : w.heap.size < w1.heap.size := by have := b1.size; simp only [World.size_alloc] at this; omega
        clear b1 b2
        go_wp2_with fail
        refine (HSK.out _ B2.out).mono ?_
        rintro e w3 ⟨rfl, o3, k3⟩
        have C3 := hide (k3 D (HH.out.below B2.out) (by have := HK1.out; have := HFT.out; omega))
        have O3 := hide ((only_of_below B2.out).trans o3)
        have X3 := hide (X2.out.other o3 hne.symm)
        have T3 := hide (T2.out.other o3 (by have := HH.out.lt; omega))
        clear o3 k3
        go_wp2_with fail
        refine (HT.out _ C3.out).mono ?_
        rintro e w4 ⟨rfl, q4⟩
        have Q4 := hide (Went.trans ⟨O3.out, C3.out⟩ q4)
        have x4 := X3.out.other q4.1 hne.symm
        have T4 := T3.out.other q4.1 (by have := HH.out.lt; omega)
        have c4 := T4.cell 1 _ rfl
        clear q4
        go_wp2_with (with_reducible refine wpList_store_box rfl 76 _ _ rfl w.heap.size #[.bool false, .string (hd D.ts i).text, .string ⟨#[]⟩] rfl rfl _ x4 (by kernel_rfl) rfl (by simp [Value.oneCell']) ?_; intro w5 k5 ho5)
        refine bodyPost_mo rfl rfl rfl k5 rfl ?_
        exact HP.out _ (Went.fresh HH.out Q4.out ho5 (Nat.le_refl _))
      | true =>
        rw [hs] at HT
        rw [if_pos hs] at hM
        simp only [if_true] at HT
        have HK2 := hide (isT_step h.good.ends hs)
        rw [← (isT_step h.good.ends hs).1] at hM
        have hM2 : monoP D.kn false false (rd D.ts i) = if isName (pt (hd D.ts (i + 1 + 1))) = true then (if D.kn (hd D.ts (i + 1 + 1)).text = true then .ok ⟨(hd D.ts i).text, (hd D.ts (i + 1 + 1)).text, false⟩ (rd D.ts (i + 1 + 1)).tail else .err 110 (rd D.ts (i + 1 + 1))) else .err 101 (rd D.ts (i + 1 + 1)) := by
          rw [hM]
          rw [rd_cons D.ts (i + 1 + 1)]
          rfl
        have hsj : Stands D i (rd D.ts (i + 1 + 1)) (i + 1 + 1) := ⟨rfl, by have := HK1.out; have := HK2.out; omega⟩
        have HE := hide h.good.ends
        have HNM2 := hide (fun W (c : Cur D g W (i + 1 + 1)) => cname_any D g (i + 1 + 1) W c)
        unfold NamePost at HNM2
        have HP := hide (fun w' => MonoPost.named (g := g) (w := w) (w' := w') _ HE.out hsj hM2)
        clear hM hM2 hsj e1 h5 hnc hnum hrn h3 hcb hx hb hs
        have HH := hide h
        clear h
        go_enter Tryd.func27, Tryd.ntmps27
        go_wp2_with fail
        refine ha.mono ?_
        rintro e w1 ⟨rfl, b1⟩
        go_wp2_with fail
        refine (HNU.out _).mono ?_
        rintro e w2 ⟨rfl, b2⟩
        have B2 := hide (((HB.out.next b1).next (bl_alloc _ _)).next b2)
        have X2 := hide (((HX.out.next b1).alloc _).next b2)
        have T2 := hide ((Box.new 60 w1 _).next b2)
        have hg1 : w.heap.size < w1.heap.size := by have := b1.size; simp only [World.size_alloc] at this; omega
        clear b1 b2
        go_wp2_with fail
        refine (HSK.out _ B2.out).mono ?_
        rintro e w3 ⟨rfl, o3, k3⟩
        have C3 := hide (k3 D (HH.out.below B2.out) (by have := HK1.out; have := HFT.out; omega))
        have O3 := hide ((only_of_below B2.out).trans o3)
        have X3 := hide (X2.out.other o3 hne.symm)
        have T3 := hide (T2.out.other o3 (by have := HH.out.lt; omega))
        clear o3 k3
        go_wp2_with fail
        refine (HT.out _ C3.out).mono ?_
        rintro e w4 ⟨rfl, q4⟩
        have Q4 := hide (Went.trans ⟨O3.out, C3.out⟩ q4)
        have X4 := hide (X3.out.other q4.1 hne.symm)
        have T4 := hide (T3.out.other q4.1 (by have := HH.out.lt; omega))
        clear q4
        go_wp2_with fail
        refine (HNM2.out _ Q4.out.2).mono ?_
        rintro e w5 ⟨rfl, q5⟩
        have Q5 := hide (Went.trans Q4.out q5)
        have x5 := X4.out.other q5.1 hne.symm
        have T5 := T4.out.other q5.1 (by have := HH.out.lt; omega)
        have c5 := T5.cell 1 _ rfl
        clear q5
        go_wp2_with (with_reducible refine wpList_store_box rfl 76 _ _ rfl w.heap.size #[.bool false, .string (hd D.ts i).text, .string (nmS D (i + 1 + 1))] rfl rfl _ x5 (by kernel_rfl) rfl (by simp [Value.oneCell']) ?_; intro w6 k6 ho6)
        refine bodyPost_mo rfl rfl rfl k6 rfl ?_
        exact HP.out _ (Went.fresh HH.out Q5.out ho6 (Nat.le_refl _))
  · have g3 : (((hd D.ts i).kind : Int) == 3) = false := by simp; omega
    rw [mono_let _ _ _ _ h3] at hM
    have HE := hide h.good.ends
    cases hn : isName (pt (hd D.ts i)) with
    | false =>
      rw [if_neg (by rw [hn]; decide)] at hM
      rw [hn] at HSN
      have HP := hide (fun w' => MonoPost.err (g := g) (w := w) (w' := w') (c := 101) ⟨#[]⟩ ⟨#[]⟩ (hM.trans (congrArg _ (rd_cons D.ts i).symm)) (by decide) (Stands.refl D i))
      clear hM hnc h3 hcb hx hb hn
      have HH := hide h
      clear h
      go_enter Tryd.func27, Tryd.ntmps27
      go_wp2_with fail
      refine ha.mono ?_
      rintro e w1 ⟨rfl, b1⟩
      have B1 := hide ((HB.out.next b1).next (bl_alloc _ (.cells #[.int .i64 ((hd D.ts i).kind : Int), .string (hd D.ts i).text, .int .i64 ((hd D.ts i).line : Int), .int .i64 ((hd D.ts i).col : Int)] 60)))
      have X1 := hide ((HX.out.next b1).alloc (.cells #[.int .i64 ((hd D.ts i).kind : Int), .string (hd D.ts i).text, .int .i64 ((hd D.ts i).line : Int), .int .i64 ((hd D.ts i).col : Int)] 60))
      clear b1
      go_wp2_with fail
      refine (HSN.out _ B1.out).mono ?_
      rintro e w2 ⟨rfl, b2⟩
      have B2 := hide (B1.out.next b2)
      have x2 := X1.out.next b2
      clear b2
      go_wp2_with (with_reducible refine wpList_store_box rfl 76 _ _ rfl w.heap.size #[.bool false, .string ⟨#[]⟩, .string ⟨#[]⟩] rfl rfl _ x2 (by kernel_rfl) rfl (by simp [Value.oneCell']) ?_; intro w3 k3 ho3)
      refine bodyPost_mo rfl rfl rfl k3 rfl ?_
      exact HP.out _ (.of_below HH.out (B2.out.trans (ho3.below B2.out.size (Nat.le_refl _))))
    | true =>
      rw [if_pos hn] at hM
      rw [hn] at HSN
      cases full with
      | true =>
        rw [if_pos rfl] at hM
        have HP := hide (fun w' => MonoPost.err (g := g) (w := w) (w' := w') (c := 3) ⟨#[]⟩ ⟨#[]⟩ (hM.trans (congrArg _ (rd_cons D.ts i).symm)) (by decide) (Stands.refl D i))
        clear hM hnc h3 hcb hx hb hn
        have HH := hide h
        clear h
        go_enter Tryd.func27, Tryd.ntmps27
        go_wp2_with fail
        refine ha.mono ?_
        rintro e w1 ⟨rfl, b1⟩
        have B1 := hide ((HB.out.next b1).next (bl_alloc _ (.cells #[.int .i64 ((hd D.ts i).kind : Int), .string (hd D.ts i).text, .int .i64 ((hd D.ts i).line : Int), .int .i64 ((hd D.ts i).col : Int)] 60)))
        have X1 := hide ((HX.out.next b1).alloc (.cells #[.int .i64 ((hd D.ts i).kind : Int), .string (hd D.ts i).text, .int .i64 ((hd D.ts i).line : Int), .int .i64 ((hd D.ts i).col : Int)] 60))
        clear b1
        go_wp2_with fail
        refine (HSN.out _ B1.out).mono ?_
        rintro e w2 ⟨rfl, b2⟩
        have B2 := hide (B1.out.next b2)
        have x2 := X1.out.next b2
        clear b2
        go_wp2_with (with_reducible refine wpList_store_box rfl 76 _ _ rfl w.heap.size #[.bool false, .string ⟨#[]⟩, .string ⟨#[]⟩] rfl rfl _ x2 (by kernel_rfl) rfl (by simp [Value.oneCell']) ?_; intro w3 k3 ho3)
        refine bodyPost_mo rfl rfl rfl k3 rfl ?_
        exact HP.out _ (.of_below HH.out (B2.out.trans (ho3.below B2.out.size (Nat.le_refl _))))
      | false =>
        rw [if_neg (by decide)] at hM
        have hM2 : monoP D.kn false false (rd D.ts i) = if isName (pt (hd D.ts i)) = true then (if D.kn (hd D.ts i).text = true then .ok ⟨⟨#[]⟩, (hd D.ts i).text, false⟩ (rd D.ts i).tail else .err 110 (rd D.ts i)) else .err 101 (rd D.ts i) := by
          rw [if_pos hn, hM, ← rd_cons]
          rfl
        have HP := hide (fun w' => MonoPost.named (g := g) (w := w) (w' := w') _ HE.out (Stands.refl D i) hM2)
        clear hM hM2 hnc h3 hcb hx hb hn
        have HH := hide h
        clear h
        go_enter Tryd.func27, Tryd.ntmps27
        go_wp2_with fail
        refine ha.mono ?_
        rintro e w1 ⟨rfl, b1⟩
        have B1 := hide ((HB.out.next b1).next (bl_alloc _ (.cells #[.int .i64 ((hd D.ts i).kind : Int), .string (hd D.ts i).text, .int .i64 ((hd D.ts i).line : Int), .int .i64 ((hd D.ts i).col : Int)] 60)))
        have X1 := hide ((HX.out.next b1).alloc (.cells #[.int .i64 ((hd D.ts i).kind : Int), .string (hd D.ts i).text, .int .i64 ((hd D.ts i).line : Int), .int .i64 ((hd D.ts i).col : Int)] 60))
        clear b1
        go_wp2_with fail
        refine (HSN.out _ B1.out).mono ?_
        rintro e w2 ⟨rfl, b2⟩
        have B2 := hide (B1.out.next b2)
        have X2 := hide (X1.out.next b2)
        clear b2
        go_wp2_with fail
        refine (HNM.out _ B2.out).mono ?_
        rintro e w3 ⟨rfl, q3⟩
        have Q3 := hide (Went.trans (.of_below HH.out B2.out) q3)
        have x3 := X2.out.other q3.1 hne.symm
        clear q3
        go_wp2_with (with_reducible refine wpList_store_box rfl 76 _ _ rfl w.heap.size #[.bool false, .string ⟨#[]⟩, .string (nmS D i)] rfl rfl _ x3 (by kernel_rfl) rfl (by simp [Value.oneCell']) ?_; intro w4 k4 ho4)
        refine bodyPost_mo rfl rfl rfl k4 rfl ?_
        exact HP.out _ (Went.fresh HH.out Q3.out ho4 (Nat.le_refl _))
end Go.Proofs.YtneiajkcikcnnaaDoor
