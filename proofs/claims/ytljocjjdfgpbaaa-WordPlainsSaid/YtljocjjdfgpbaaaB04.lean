/- Texts of one seat, put together: LexReg2 BoxG BoxD. -/
import Derived.Test.YtljocjjdfgpbaaaB03
import Derived.Test.YtljocjjdfgpbaaaB02
set_option linter.unusedVariables false
/- XRegion2 over LexReg. -/
/- Regions by facts, once more: slots that the region has not written yet hold what they held; regions that do not draw their order as well. -/
namespace Go.Proofs.Ytljocjjdfgpbaaa
open Go.RowKit

section
variable {P : Program} {ops : Array Oper} {Q : Exit → Act → World → Prop}
theorem fill_un {σ : Nat → Value} {listed : Array Bool} {t : Tmp} : ∀ (js : List Nat) (a : Act), (∀ j ∈ js, dstOf ops j = some t → listed.getD j false = false) → (fill ops σ listed js a).eval (.tmp t) = a.eval (.tmp t)
  | [], _, _ => rfl
  | j :: js, a, h => by
    unfold fill
    rw [fill_un js _ (fun x hx => h x (List.mem_cons_of_mem _ hx))]
    split
    · rename_i hl
      exact eval_put_ne _ _ _ _ (fun e => by rw [h j (List.mem_cons_self ..) e] at hl; cases hl)
    · rfl
theorem mid_un {a : Act} {σ : Nat → Value} {listed : Array Bool} {t : Tmp} (h : ∀ j, dstOf ops j = some t → listed.getD j false = false) : (mid ops σ listed a).eval (.tmp t) = a.eval (.tmp t) :=
  fill_un _ a (fun j _ => h j)
theorem outB_spec {t : Tmp} {listed : Array Bool} (h : outB ops t = true) : ∀ j, dstOf ops j = some t → listed.getD j false = false := by
  intro j hj
  rcases Nat.lt_or_ge j ops.size with hlt | hge
  · have := List.all_eq_true.1 h j (List.mem_range.2 hlt)
    rw [hj] at this
    simp at this
  · simp [dstOf, Array.getElem?_eq_none hge] at hj
/-- Slot t is written by operation j alone, and that has not come up. -/
def soleW (ops : Array Oper) (t : Tmp) (j : Nat) : Bool := (List.range ops.size).all fun i => i == j || dstOf ops i != some t
theorem soleW_spec {t : Tmp} {j : Nat} {listed : Array Bool} (h : soleW ops t j = true) (hl : listed.getD j false = false) : ∀ i, dstOf ops i = some t → listed.getD i false = false := by
  intro i hi
  rcases Nat.lt_or_ge i ops.size with hlt | hge
  · have := List.all_eq_true.1 h i (List.mem_range.2 hlt)
    rw [hi] at this
    simp at this
    rw [this]; exact hl
  · simp [dstOf, Array.getElem?_eq_none hge] at hi
/-- What waits for an operation that has not come up has not come up. -/
theorem un_next {md : Region.Mode} {listed : Array Bool} {i k : Nat} (hc : ClosedL md ops listed) (hi : listed.getD i false = false) (hw : ((ops[k]?).map fun o => o.after.any fun e => e.on == i && Region.binds md e) = some true) : listed.getD k false = false := by
  cases hk : listed.getD k false with
  | false => rfl
  | true =>
    cases ho : ops[k]? with
    | none => rw [ho] at hw; cases hw
    | some o =>
      rw [ho] at hw
      simp only [Option.map_some, Option.some.injEq] at hw
      obtain ⟨x, hx, h1⟩ := Array.any_eq_true.1 hw
      simp only [Bool.and_eq_true, beq_iff_eq] at h1
      have h2 := hc k o ho hk _ (Array.getElem_mem hx) h1.2
      rw [h1.1, hi] at h2
      cases h2
/-- What is asked of operation i. -/
def StepQ (P : Program) (ops : Array Oper) (a0 : Act) (T : World → World → Prop) (F : Nat → Value → World → Prop) (G : Array Bool → (Nat → Value) → World → Prop) (i : Nat) (o : Oper) : Prop :=
  ∀ (listed : Array Bool) (σ : Nat → Value) (w : World) (a : Act), (∀ j t, dstOf ops j = some t → listed.getD j false = true → a.tmps.getD t undef = σ j) → (∀ t, (∀ j, dstOf ops j = some t → listed.getD j false = false) → a.tmps.getD t undef = a0.tmps.getD t undef) →
    listed.getD i false = false → ClosedL .any ops listed → (∀ e ∈ o.after, Region.binds .any e = true → listed.getD e.on false = true) → G listed σ w → (∀ j, listed.getD j false = true → F j (σ j) w) →
    Guarded ops a o w (fun v w' => T w w' ∧ F i v w' ∧ G (listed.setIfInBounds i true) (upd σ i v) w') (Does P a o w (fun v w' => T w w' ∧ F i v w' ∧ G (listed.setIfInBounds i true) (upd σ i v) w'))
theorem stepQ_next {a0 : Act} {T : World → World → Prop} {F : Nat → Value → World → Prop} {G : Array Bool → (Nat → Value) → World → Prop} (ho : ownB ops a0.tmps.size = true) (hF : ∀ j v w w', T w w' → F j v w → F j v w')
    (hstep : Each (StepQ P ops a0 T F G) 0 ops.toList) {K : Act → World → Prop} {i : Nat} {o : Oper} {listed : Array Bool} {σ : Nat → Value} {w : World} (hio : ops[i]? = some o) (hl : listed.getD i true = false) (hc : ClosedL .any ops listed)
    (hp : ∀ e ∈ o.after, Region.binds .any e = true → listed.getD e.on false = true) (hG : G listed σ w) (hF1 : ∀ j, listed.getD j false = true → F j (σ j) w)
    (hK : ∀ σ' w', G (listed.setIfInBounds i true) σ' w' → (∀ j, (listed.setIfInBounds i true).getD j false = true → F j (σ' j) w') → K (mid ops σ' (listed.setIfInBounds i true) a0) w') : wpOp P ops Q i K (mid ops σ listed a0) w := by
  have hlt : i < ops.size := (Array.getElem?_eq_some_iff.1 hio).1
  have h1 := Each.get ops.toList 0 hstep i o (by simpa using hio)
  rw [Nat.zero_add] at h1
  refine Guarded.step hio (h1 listed σ w (mid ops σ listed a0) (fun j t hd hj => mid_in ho hd hj) (fun t ht => mid_un ht) (unlisted hl) hc hp hG hF1) ?_
  rintro v w' ⟨hT, hFi, hG'⟩
  have hd : o.dst = dstOf ops i := by simp [dstOf, hio]
  rw [hd, show (mid ops σ listed a0).put (dstOf ops i) v = mid ops (upd σ i v) (listed.setIfInBounds i true) a0 from (fill_set ho hlt hl _ _ List.nodup_range (fun j hj => List.mem_range.1 hj) (List.mem_range.2 hlt)).symm]
  refine hK _ _ hG' (fun j hj => ?_)
  by_cases hji : j = i
  · subst hji; rw [upd_self]; exact hFi
  · rw [upd_ne σ v hji]
    rw [getD_set_ne false (Ne.symm hji)] at hj
    exact hF j _ _ _ hT (hF1 j hj)
theorem mid_none {σ : Nat → Value} {n : Nat} (a : Act) : mid ops σ (Array.replicate n false) a = a := by
  unfold mid
  have : ∀ (js : List Nat) (a : Act), fill ops σ (Array.replicate n false) js a = a := by
    intro js
    induction js with
    | nil => intro a; rfl
    | cons j js ih =>
      intro a
      unfold fill
      rw [if_neg (by rw [rep_false]; exact Bool.false_ne_true), ih]
  exact this _ _
/-- A region that draws its order. -/
theorem wp_drawn {id : Nat} {a0 : Act} {w : World} (hm : P.follows .mixedOrders = true) (hb : backB ops = true) (ho : ownB ops a0.tmps.size = true) (T : World → World → Prop) (F : Nat → Value → World → Prop) (G : Array Bool → (Nat → Value) → World → Prop)
    (hF : ∀ j v w w', T w w' → F j v w → F j v w') (h0 : ∀ σ, G (Array.replicate ops.size false) σ w.drew)
    (hstep : Each (StepQ P ops a0 T F G) 0 ops.toList)
    (hend : ∀ (listed : Array Bool) (σ : Nat → Value) (w : World), AllOn ops.size listed → G listed σ w → (∀ j, j < ops.size → F j (σ j) w) → Q .normal (mid ops σ listed a0) w) : (Code.region id ops true).wp P Q a0 w := by
  refine wp_region_inv hm hb (fun listed a w => ∃ σ, a = mid ops σ listed a0 ∧ G listed σ w ∧ ∀ j, listed.getD j false = true → F j (σ j) w) ?_ ?_ ?_
  · exact ⟨fun _ => undef, (mid_none a0).symm, h0 _, fun j hj => by rw [rep_false] at hj; cases hj⟩
  · rintro i o listed a w hio hs hl hc hp ⟨σ, rfl, hG, hF1⟩
    exact stepQ_next ho hF hstep hio hl hc hp hG hF1 (fun σ' w' hG' hF' => ⟨σ', rfl, hG', hF'⟩)
  · rintro listed a w hs hall ⟨σ, rfl, hG, hF1⟩
    exact hend listed σ w hall hG (fun j hj => hF1 j (hall j hj))
/-- The first k are on. -/
def firstN (n k : Nat) : Array Bool := Array.ofFn (n := n) fun i => decide (i.val < k)
theorem firstN_get (n k j : Nat) : (firstN n k).getD j false = decide (j < n ∧ j < k) := by
  unfold firstN
  rcases Nat.lt_or_ge j n with h | h
  · simp [h]
  · simp [Nat.not_lt.2 h]
theorem firstN_set (n k : Nat) (_h : k < n) : (firstN n k).setIfInBounds k true = firstN n (k + 1) := by
  apply Array.ext
  · simp [firstN]
  · intro i h1 h2
    simp only [firstN, Array.size_ofFn, Array.size_setIfInBounds] at h1 h2
    by_cases hi : k = i
    · subst hi; simp [firstN]
    · have h3 : i < (firstN n k).size := by simpa [firstN] using h1
      rw [Array.getElem_setIfInBounds_ne h3 hi]
      simp [firstN]; omega
/-- A region that keeps its order. -/
theorem wp_kept {id : Nat} {a0 : Act} {w : World} (hb : backB ops = true) (ho : ownB ops a0.tmps.size = true) (T : World → World → Prop) (F : Nat → Value → World → Prop) (G : Array Bool → (Nat → Value) → World → Prop)
    (hF : ∀ j v w w', T w w' → F j v w → F j v w') (h0 : ∀ σ, G (Array.replicate ops.size false) σ w)
    (hstep : Each (StepQ P ops a0 T F G) 0 ops.toList)
    (hend : ∀ (listed : Array Bool) (σ : Nat → Value) (w : World), AllOn ops.size listed → G listed σ w → (∀ j, j < ops.size → F j (σ j) w) → Q .normal (mid ops σ listed a0) w) : (Code.region id ops false).wp P Q a0 w := by
  refine wp_region ?_
  have main : ∀ (m k : Nat) (σ : Nat → Value) (w : World), k + m = ops.size → G (firstN ops.size k) σ w → (∀ j, (firstN ops.size k).getD j false = true → F j (σ j) w) → wpOps P ops Q (List.range' k m) (mid ops σ (firstN ops.size k) a0) w := by
    intro m
    induction m with
    | zero =>
      intro k σ w hk hG hF1
      have hall : AllOn ops.size (firstN ops.size k) := fun j hj => by rw [firstN_get]; simp; omega
      exact hend _ σ w hall hG (fun j hj => hF1 j (hall j hj))
    | succ m ih =>
      intro k σ w hk hG hF1
      have hlt : k < ops.size := by omega
      rw [List.range'_succ, wpOps_cons]
      refine stepQ_next ho hF hstep (o := ops[k]) (Array.getElem?_eq_getElem hlt) ?_ ?_ ?_ hG hF1 (fun σ' w' hG' hF' => ?_)
      · simp [firstN, hlt]
      · intro j o hjo hj e he hbd
        have := backB_spec hb hjo e he hbd
        rw [firstN_get] at hj ⊢
        simp at hj ⊢; omega
      · intro e he hbd
        have := backB_spec hb (Array.getElem?_eq_getElem hlt) e he hbd
        rw [firstN_get]; simp; omega
      · rw [firstN_set _ _ hlt] at hG' hF' ⊢
        exact ih (k + 1) σ' w' (by omega) hG' hF'
  have h1 := main ops.size 0 (fun _ => undef) w (by omega) (by
    have : firstN ops.size 0 = Array.replicate ops.size false := by
      apply Array.ext
      · simp [firstN]
      · intro i h1 h2; simp [firstN]
    rw [this]; exact h0 _) (fun j hj => by rw [firstN_get] at hj; simp at hj)
  have h2 : firstN ops.size 0 = Array.replicate ops.size false := by
    apply Array.ext
    · simp [firstN]
    · intro i h1 h2; simp [firstN]
  rw [h2, mid_none] at h1
  rw [List.range_eq_range']
  exact h1
/-- The last operation waits for all others. -/
def lastB (ops : Array Oper) : Bool := match ops[ops.size - 1]? with
  | none => false
  | some o => (List.range (ops.size - 1)).all fun j => o.after.any fun e => Region.binds .any e && (e.on == j || match ops[e.on]? with
    | none => false
    | some o2 => o2.after.any fun e2 => e2.on == j && Region.binds .any e2)
theorem lastB_spec (h : lastB ops = true) {listed : Array Bool} {o : Oper} (ho : ops[ops.size - 1]? = some o) (hc : ClosedL .any ops listed) (hp : ∀ e ∈ o.after, Region.binds .any e = true → listed.getD e.on false = true) : ∀ j, j < ops.size - 1 → listed.getD j false = true := by
  intro j hj
  unfold lastB at h
  rw [ho] at h
  have h1 := List.all_eq_true.1 h j (List.mem_range.2 hj)
  obtain ⟨x, hx, h2⟩ := Array.any_eq_true.1 h1
  simp only [Bool.and_eq_true, Bool.or_eq_true, beq_iff_eq] at h2
  have h3 := hp _ (Array.getElem_mem hx) h2.1
  rcases h2.2 with h4 | h4
  · rw [h4] at h3
    exact h3
  · cases ho2 : ops[(o.after[x]).on]? with
    | none => rw [ho2] at h4; cases h4
    | some o2 =>
      rw [ho2] at h4
      obtain ⟨y, hy, h5⟩ := Array.any_eq_true.1 h4
      simp only [Bool.and_eq_true, beq_iff_eq] at h5
      have h6 := hc _ _ ho2 h3 _ (Array.getElem_mem hy) h5.2
      rw [h5.1] at h6
      exact h6
/-- All operations have yielded σ, the last one v. -/
def fin (ops : Array Oper) (σ : Nat → Value) (v : Value) (a : Act) : Act := ((List.range (ops.size - 1)).foldl (fun a j => a.put (dstOf ops j) (σ j)) a).put (dstOf ops (ops.size - 1)) v
theorem fin_all {listed : Array Bool} {σ : Nat → Value} {v : Value} {a : Act} (_h : ∀ j, j < ops.size - 1 → listed.getD j false = true) : fin ops σ v a = ((List.range (ops.size - 1)).foldl (fun a j => a.put (dstOf ops j) (σ j)) a).put (dstOf ops (ops.size - 1)) v := rfl
theorem foldl_upd {σ : Nat → Value} {n : Nat} {v : Value} : ∀ (js : List Nat) (a : Act), (∀ j ∈ js, j ≠ n) → js.foldl (fun a j => a.put (dstOf ops j) (upd σ n v j)) a = js.foldl (fun a j => a.put (dstOf ops j) (σ j)) a
  | [], _, _ => rfl
  | j :: js, a, h => by
    rw [List.foldl_cons, List.foldl_cons, upd_ne σ v (h j (List.mem_cons_self ..))]
    exact foldl_upd js _ (fun x hx => h x (List.mem_cons_of_mem _ hx))
theorem fin_eq {σ : Nat → Value} {v : Value} {a : Act} (h : 0 < ops.size) : (List.range ops.size).foldl (fun a j => a.put (dstOf ops j) (upd σ (ops.size - 1) v j)) a = fin ops σ v a := by
  obtain ⟨m, hm⟩ : ∃ m, ops.size = m + 1 := ⟨ops.size - 1, by omega⟩
  unfold fin
  have hf := foldl_upd (ops := ops) (σ := σ) (n := m) (v := v) (List.range m) a (fun j hj => by have := List.mem_range.1 hj; omega)
  rw [hm, List.range_succ, List.foldl_append, Nat.add_sub_cancel, hf]
  show Act.put _ _ (upd σ m v m) = _
  rw [upd_self]
/-- What is asked of the last one: what stands behind the region goes on from it. -/
def StepL (P : Program) (ops : Array Oper) (a0 : Act) (F : Nat → Value → World → Prop) (G : Array Bool → (Nat → Value) → World → Prop) (R : Act → World → Prop) (o : Oper) : Prop :=
  ∀ (listed : Array Bool) (σ : Nat → Value) (w : World) (a : Act), (∀ j, j < ops.size - 1 → listed.getD j false = true) → (∀ j t, dstOf ops j = some t → j < ops.size - 1 → a.tmps.getD t undef = σ j) → (∀ t, (∀ j, dstOf ops j = some t → j = ops.size - 1) → a.tmps.getD t undef = a0.tmps.getD t undef) →
    G listed σ w → (∀ j, j < ops.size - 1 → F j (σ j) w) → Guarded ops a o w (fun v w' => R (fin ops σ v a0) w') (Does P a o w (fun v w' => R (fin ops σ v a0) w'))
/-- Each operation but the last beside its number. -/
def EachB (R : Nat → Oper → Prop) : Nat → List Oper → Prop
  | _, [] => True
  | _, [_] => True
  | i, o :: p :: os => R i o ∧ EachB R (i + 1) (p :: os)
theorem EachB.get {R : Nat → Oper → Prop} : ∀ (os : List Oper) (k : Nat), EachB R k os → ∀ i o, i < os.length - 1 → os[i]? = some o → R (k + i) o
  | [], _, _, i, o, hi, h => by simp at h
  | [x], _, _, i, o, hi, h => by simp at hi
  | x :: y :: os, k, h, i, o, hi, ho => by
    cases i with
    | zero => simp at ho; subst ho; exact h.1
    | succ i =>
      have := EachB.get (y :: os) (k + 1) h.2 i o (by simp at hi ⊢; omega) (by simpa using ho)
      rw [show k + (i + 1) = k + 1 + i by omega]
      exact this
def StepG (P : Program) (ops : Array Oper) (a0 : Act) (T : World → World → Prop) (F : Nat → Value → World → Prop) (G : Array Bool → (Nat → Value) → World → Prop) (i : Nat) (o : Oper) : Prop :=
  ∀ (listed : Array Bool) (σ : Nat → Value) (w : World) (a : Act), (∀ j t, dstOf ops j = some t → listed.getD j false = true → a.tmps.getD t undef = σ j) → (∀ t, (∀ j, dstOf ops j = some t → listed.getD j false = false) → a.tmps.getD t undef = a0.tmps.getD t undef) →
    listed.getD i false = false → listed.getD (ops.size - 1) false = false → listed.size = ops.size → ClosedL .any ops listed → (∀ e ∈ o.after, Region.binds .any e = true → listed.getD e.on false = true) → G listed σ w → (∀ j, listed.getD j false = true → F j (σ j) w) →
    Guarded ops a o w (fun v w' => T w w' ∧ F i v w' ∧ G (listed.setIfInBounds i true) (upd σ i v) w') (Does P a o w (fun v w' => T w w' ∧ F i v w' ∧ G (listed.setIfInBounds i true) (upd σ i v) w'))
theorem stepG_next {a0 : Act} {T : World → World → Prop} {F : Nat → Value → World → Prop} {G : Array Bool → (Nat → Value) → World → Prop} {R : Act → World → Prop} (ho : ownB ops a0.tmps.size = true) (hla : lastB ops = true) (hF : ∀ j v w w', T w w' → F j v w → F j v w')
    (hstep : EachB (StepG P ops a0 T F G) 0 ops.toList) (hlast : ∀ o, ops[ops.size - 1]? = some o → StepL P ops a0 F G R o) {K : Act → World → Prop} {i : Nat} {o : Oper} {listed : Array Bool} {σ : Nat → Value} {w : World} (hio : ops[i]? = some o) (hs : listed.size = ops.size) (hl : listed.getD i true = false) (hc : ClosedL .any ops listed)
    (hp : ∀ e ∈ o.after, Region.binds .any e = true → listed.getD e.on false = true) (hun : listed.getD (ops.size - 1) false = false) (hG : G listed σ w) (hF1 : ∀ j, listed.getD j false = true → F j (σ j) w)
    (hK : ∀ σ' w', i ≠ ops.size - 1 → G (listed.setIfInBounds i true) σ' w' → (∀ j, (listed.setIfInBounds i true).getD j false = true → F j (σ' j) w') → K (mid ops σ' (listed.setIfInBounds i true) a0) w')
    (hR : ∀ a w', i = ops.size - 1 → R a w' → K a w') : wpOp P ops Q i K (mid ops σ listed a0) w := by
  have hlt : i < ops.size := (Array.getElem?_eq_some_iff.1 hio).1
  have hd : o.dst = dstOf ops i := by simp [dstOf, hio]
  by_cases hi : i = ops.size - 1
  · subst hi
    have hall := lastB_spec hla hio hc hp
    refine Guarded.step hio (hlast o hio listed σ w (mid ops σ listed a0) hall (fun j t hd hj => mid_in ho hd (hall j hj)) (fun t ht => mid_un (fun j hj => by rw [ht j hj]; exact hun)) hG (fun j hj => hF1 j (hall j hj))) ?_
    intro v w' h
    rw [hd, show (mid ops σ listed a0).put (dstOf ops (ops.size - 1)) v = mid ops (upd σ (ops.size - 1) v) (listed.setIfInBounds (ops.size - 1) true) a0 from (fill_set ho hlt hl _ _ List.nodup_range (fun j hj => List.mem_range.1 hj) (List.mem_range.2 hlt)).symm]
    refine hR _ _ rfl ?_
    rw [mid_all (fun j hj => by
      by_cases he : j = ops.size - 1
      · subst he
        simp [hs, hlt]
      · rw [getD_set_ne false (Ne.symm he)]
        exact hall j (by omega)), fin_eq (by omega)]
    exact h
  · have h1 := EachB.get ops.toList 0 hstep i o (by simp; omega) (by simpa using hio)
    rw [Nat.zero_add] at h1
    refine Guarded.step hio (h1 listed σ w (mid ops σ listed a0) (fun j t hd hj => mid_in ho hd hj) (fun t ht => mid_un ht) (unlisted hl) hun hs hc hp hG hF1) ?_
    rintro v w' ⟨hT, hFi, hG'⟩
    rw [hd, show (mid ops σ listed a0).put (dstOf ops i) v = mid ops (upd σ i v) (listed.setIfInBounds i true) a0 from (fill_set ho hlt hl _ _ List.nodup_range (fun j hj => List.mem_range.1 hj) (List.mem_range.2 hlt)).symm]
    refine hK _ _ hi hG' (fun j hj => ?_)
    by_cases hji : j = i
    · subst hji; rw [upd_self]; exact hFi
    · rw [upd_ne σ v hji]
      rw [getD_set_ne false (Ne.symm hji)] at hj
      exact hF j _ _ _ hT (hF1 j hj)
/-- A region that draws its order and ends in an operation that waits for all others: facts for the others, then that one, and on. -/
theorem wp_drawnL {id : Nat} {a0 : Act} {w : World} (hm : P.follows .mixedOrders = true) (hb : backB ops = true) (ho : ownB ops a0.tmps.size = true) (hla : lastB ops = true) (T : World → World → Prop) (F : Nat → Value → World → Prop) (G : Array Bool → (Nat → Value) → World → Prop)
    (hF : ∀ j v w w', T w w' → F j v w → F j v w') (h0 : ∀ σ, G (Array.replicate ops.size false) σ w.drew) (hstep : EachB (StepG P ops a0 T F G) 0 ops.toList) (hlast : ∀ o, ops[ops.size - 1]? = some o → StepL P ops a0 F G (Q .normal) o) : (Code.region id ops true).wp P Q a0 w := by
  have hpos : 0 < ops.size := by
    rcases Nat.eq_zero_or_pos ops.size with h | h
    · unfold lastB at hla
      rw [Array.getElem?_eq_none (by omega)] at hla
      cases hla
    · exact h
  refine wp_region_inv hm hb (fun listed a w => (listed.getD (ops.size - 1) false = false ∧ ∃ σ, a = mid ops σ listed a0 ∧ G listed σ w ∧ ∀ j, listed.getD j false = true → F j (σ j) w) ∨ (listed.getD (ops.size - 1) false = true ∧ Q .normal a w)) ?_ ?_ ?_
  · exact .inl ⟨rep_false _ _, fun _ => undef, (mid_none a0).symm, h0 _, fun j hj => by rw [rep_false] at hj; cases hj⟩
  · rintro i o listed a w hio hs hl hc hp (⟨hun, σ, rfl, hG, hF1⟩ | ⟨hon, hQ⟩)
    · refine stepG_next ho hla hF hstep hlast hio hs hl hc hp hun hG hF1 (fun σ' w' hne hG' hF' => .inl ⟨?_, σ', rfl, hG', hF'⟩) (fun a w' he h => .inr ⟨?_, h⟩)
      · rw [getD_set_ne false hne]; exact hun
      · subst he
        have hq : ops.size - 1 < ops.size := by omega
        simp [hs, hq]
    · exfalso
      have hlt : i < ops.size := (Array.getElem?_eq_some_iff.1 hio).1
      have hlo : ops[ops.size - 1]? = some ops[ops.size - 1] := Array.getElem?_eq_getElem (by omega)
      by_cases hi : i = ops.size - 1
      · subst hi; exact (getD_flip hon hl).elim
      · have := lastB_spec hla hlo hc (hc _ _ hlo hon) i (by omega)
        exact (getD_flip this hl).elim
  · rintro listed a w hs hall (⟨hun, -⟩ | ⟨-, hQ⟩)
    · rw [hall _ (by omega)] at hun; cases hun
    · exact hQ
/-- A region that keeps its order, so. -/
theorem wp_keptL {id : Nat} {a0 : Act} {w : World} (hb : backB ops = true) (ho : ownB ops a0.tmps.size = true) (hla : lastB ops = true) (T : World → World → Prop) (F : Nat → Value → World → Prop) (G : Array Bool → (Nat → Value) → World → Prop)
    (hF : ∀ j v w w', T w w' → F j v w → F j v w') (h0 : ∀ σ, G (Array.replicate ops.size false) σ w) (hstep : EachB (StepG P ops a0 T F G) 0 ops.toList) (hlast : ∀ o, ops[ops.size - 1]? = some o → StepL P ops a0 F G (Q .normal) o) : (Code.region id ops false).wp P Q a0 w := by
  have hpos : 0 < ops.size := by
    rcases Nat.eq_zero_or_pos ops.size with h | h
    · unfold lastB at hla
      rw [Array.getElem?_eq_none (by omega)] at hla
      cases hla
    · exact h
  refine wp_region ?_
  have main : ∀ (m k : Nat) (σ : Nat → Value) (w : World), k + m + 1 = ops.size → G (firstN ops.size k) σ w → (∀ j, (firstN ops.size k).getD j false = true → F j (σ j) w) → wpOps P ops Q (List.range' k (m + 1)) (mid ops σ (firstN ops.size k) a0) w := by
    intro m
    induction m with
    | zero =>
      intro k σ w hk hG hF1
      have hlt : k < ops.size := by omega
      rw [List.range'_succ, wpOps_cons]
      refine stepG_next ho hla hF hstep hlast (o := ops[k]) (Array.getElem?_eq_getElem hlt) (by simp [firstN]) (by simp [firstN, hlt]) ?_ ?_ ?_ hG hF1 (fun σ' w' hne _ _ => absurd (by omega) hne) (fun a w' _ h => h)
      · intro j o hjo hj e he hbd
        have := backB_spec hb hjo e he hbd
        rw [firstN_get] at hj ⊢
        simp at hj ⊢; omega
      · intro e he hbd
        have := backB_spec hb (Array.getElem?_eq_getElem hlt) e he hbd
        rw [firstN_get]; simp; omega
      · rw [firstN_get]; simp; omega
    | succ m ih =>
      intro k σ w hk hG hF1
      have hlt : k < ops.size := by omega
      rw [List.range'_succ, wpOps_cons]
      refine stepG_next ho hla hF hstep hlast (o := ops[k]) (Array.getElem?_eq_getElem hlt) (by simp [firstN]) (by simp [firstN, hlt]) ?_ ?_ ?_ hG hF1 (fun σ' w' _ hG' hF' => ?_) (fun a w' he h => absurd he (by omega))
      · intro j o hjo hj e he hbd
        have := backB_spec hb hjo e he hbd
        rw [firstN_get] at hj ⊢
        simp at hj ⊢; omega
      · intro e he hbd
        have := backB_spec hb (Array.getElem?_eq_getElem hlt) e he hbd
        rw [firstN_get]; simp; omega
      · rw [firstN_get]; simp; omega
      · rw [firstN_set _ _ hlt] at hG' hF' ⊢
        exact ih (k + 1) σ' w' (by omega) hG' hF'
  have h2 : firstN ops.size 0 = Array.replicate ops.size false := by
    apply Array.ext
    · simp [firstN]
    · intro i h1 h2; simp [firstN]
  have h1 := main (ops.size - 1) 0 (fun _ => undef) w (by omega) (by rw [h2]; exact h0 _) (fun j hj => by rw [firstN_get] at hj; simp at hj)
  rw [h2, mid_none, Nat.sub_add_cancel hpos] at h1
  rw [List.range_eq_range']
  exact h1
end
section
variable {ops : Array Oper}
theorem outL {t : Tmp} (h : outB ops t = true) : ∀ j, dstOf ops j = some t → j = ops.size - 1 := by
  intro j hj
  have h1 := outB_spec (listed := Array.replicate ops.size true) h j hj
  have hlt : j < ops.size := by
    rcases Nat.lt_or_ge j ops.size with h2 | h2
    · exact h2
    · simp [dstOf, Array.getElem?_eq_none h2] at hj
  simp [hlt] at h1
theorem soleL {t : Tmp} (h : soleW ops t (ops.size - 1) = true) : ∀ j, dstOf ops j = some t → j = ops.size - 1 := by
  intro j hj
  have hlt : j < ops.size := by
    rcases Nat.lt_or_ge j ops.size with h2 | h2
    · exact h2
    · simp [dstOf, Array.getElem?_eq_none h2] at hj
  have := List.all_eq_true.1 h j (List.mem_range.2 hlt)
  rw [hj] at this
  simpa using this
theorem Guarded.some {a : Act} {o : Oper} {w : World} {R : Value → World → Prop} {D : Prop} {g : Nat} {want b : Bool} {d : Tmp} (h : o.guard = Option.some (g, want)) (hd : dstOf ops g = Option.some d) (hv : a.tmps.getD d undef = .bool b) (hD : (b = want ∧ D) ∨ (b ≠ want ∧ R undef w)) : Guarded ops a o w R D := by
  unfold Guarded
  rw [h]
  exact ⟨d, b, hd, hv, fun he => hD.elim (·.2) (fun k => absurd he k.1), fun he => hD.elim (fun k => absurd k.1 he) (·.2)⟩
end
/-- Until operation app has come up nothing that was there has turned; from then on R holds of what it yielded. -/
def GA (app : Nat) (W0 : World) (R : Value → World → Prop) (listed : Array Bool) (σ : Nat → Value) (w : World) : Prop :=
  (listed.getD app false = false → Below W0.heap.size W0 w) ∧ (listed.getD app false = true → R (σ app) w)
section
variable {app i : Nat} {W0 w w' : World} {R : Value → World → Prop} {listed : Array Bool} {σ : Nat → Value} {v : Value}
theorem GA.start (n : Nat) (h : Below W0.heap.size W0 w) : GA app W0 R (Array.replicate n false) σ w := ⟨fun _ => h, fun h => by rw [rep_false] at h; cases h⟩
theorem GA.same (h : GA app W0 R listed σ w) (hi : i ≠ app) : GA app W0 R (listed.setIfInBounds i true) (upd σ i v) w := by
  unfold GA
  rw [getD_set_ne false hi, upd_ne σ v (Ne.symm hi)]
  exact h
theorem GA.call (h : GA app W0 R listed σ w) (hi : i ≠ app) (hun : listed.getD app false = false) (hb : Below w.heap.size w w') : GA app W0 R (listed.setIfInBounds i true) (upd σ i v) w' := by
  unfold GA
  rw [getD_set_ne false hi, hun]
  exact ⟨fun _ => (h.1 hun).next hb, fun h => by cases h⟩
theorem GA.on_ (_hl : listed.getD app false = false) (hs : app < listed.size) (hR : R v w') : GA app W0 R (listed.setIfInBounds app true) (upd σ app v) w' := by
  unfold GA
  rw [upd_self]
  exact ⟨fun h => by simp [hs] at h, fun _ => hR⟩
end
/-- Everything but block row is kept, and numbers are what they were. -/
def Tg (row : Option Nat) (w w' : World) : Prop := w.grownBy w' row ∧ Kp w w'
theorem Tg.refl (row : Option Nat) (w : World) : Tg row w w := ⟨⟨rfl, rfl, rfl, Nat.le_refl _, fun _ _ _ => rfl⟩, Kp.refl w⟩
theorem Tg.of_below {row : Option Nat} {w w' : World} (h : Below w.heap.size w w') : Tg row w w' := ⟨⟨h.os, h.tape, h.output, h.size, fun k hk _ => h.block k hk⟩, Kp.of_below h⟩
end Go.Proofs.Ytljocjjdfgpbaaa
/- Boxes of whatever struct. -/
namespace Go.Proofs.Ytljocjjdfgpbaaa
open Go.RowKit

theorem only_setRow2 (w : World) (g : Nat) (cs : Array Value) : Only g w (w.setRow g cs) :=
  ⟨rfl, rfl, rfl, by simp [World.setRow], fun k _ hne => setRow_other w g k cs (fun hh => hne (by rw [hh]))⟩
theorem size_alloc2 (w : World) (o : Obj) : (w.alloc o).heap.size = w.heap.size + 1 := by
  show (w.heap.push o).size = _
  simp
/-- Block g is a variable of type T of these cells. -/
def Box (T : TypeId) (w : World) (g : Nat) (cs : Array Value) : Prop := w.heap[g]? = some (.cells cs T (0, 0))
section
variable {T : TypeId} {w w' : World} {g k : Nat} {cs : Array Value} {x y z : Value}
theorem Box.lt (h : Box T w g cs) : g < w.heap.size := (Array.getElem?_eq_some_iff.1 h).1
theorem Box.cell (h : Box T w g cs) (i : Nat) (v : Value) (hv : cs[i]? = some v) : w.cell? ⟨g, i, none⟩ = some v := by
  rw [cell_of_row w g i _ _ _ h]; exact hv
theorem Box.c0 (h : Box T w g #[x, y, z]) : w.cell? ⟨g, 0, none⟩ = some x := h.cell 0 x rfl
theorem Box.c1 (h : Box T w g #[x, y, z]) : w.cell? ⟨g, 1, none⟩ = some y := h.cell 1 y rfl
theorem Box.c2 (h : Box T w g #[x, y, z]) : w.cell? ⟨g, 2, none⟩ = some z := h.cell 2 z rfl
theorem Box.fr (h : Box T w g cs) (i : Nat) : w.frozen? ⟨g, i, none⟩ = false := by unfold Box at h; simp [World.frozen?, h]
theorem Box.below {B : Nat} (h : Box T w g cs) (hb : Below B w w') (hg : g < B) : Box T w' g cs := (hb.block g hg).trans h
theorem Box.next (h : Box T w g cs) (hb : Below w.heap.size w w') : Box T w' g cs := h.below hb h.lt
theorem Box.new (T : TypeId) (w : World) (cs : Array Value) : Box T (w.alloc (.cells cs T)) w.heap.size cs := heap_alloc_new w _
theorem Box.alloc (h : Box T w g cs) (o : Obj) : Box T (w.alloc o) g cs := h.next (bl_alloc w o)
theorem Box.drew (h : Box T w g cs) : Box T w.drew g cs := h
theorem Box.other (h : Box T w g cs) (ho : Only k w w') (hne : g ≠ k) : Box T w' g cs := (ho.block g h.lt (fun hh => hne (by injection hh))).trans h
theorem Box.grown {row : Option Nat} (h : Box T w g cs) (ho : w.grownBy w' row) (hne : some g ≠ row) : Box T w' g cs := (ho.block g h.lt hne).trans h
theorem Box.set3 (h : Box T w g #[x, y, z]) (x' y' z' : Value) : Box T (((w.setCell ⟨g, 0, none⟩ x').setCell ⟨g, 1, none⟩ y').setCell ⟨g, 2, none⟩ z') g #[x', y', z'] := by
  unfold Box at h ⊢
  simp [World.setCell, Array.getElem?_modify, h]
theorem Box.set_0 (h : Box T w g #[x, y, z]) (x' : Value) : Box T (w.setCell ⟨g, 0, none⟩ x') g #[x', y, z] := by
  unfold Box at h ⊢
  simp [World.setCell, Array.getElem?_modify, h]
theorem only_set3 (w : World) (g : Nat) (x y z : Value) : Only g w (((w.setCell ⟨g, 0, none⟩ x).setCell ⟨g, 1, none⟩ y).setCell ⟨g, 2, none⟩ z) := (((Only.refl g w).setCell 0 x).setCell 1 y).setCell 2 z
theorem only_set1 (w : World) (g i : Nat) (x : Value) : Only g w (w.setCell ⟨g, i, none⟩ x) := (Only.refl g w).setCell i x
theorem Box.kp (h : Box T w g cs) (hn : NLs cs.toList) (ho : Only g w w') : Kp w w' := Kp.block h hn ho
theorem nl3 (hx : NL x) (hy : NL y) (hz : NL z) : NLs (#[x, y, z] : Array Value).toList := by
  intro u hu
  simp at hu
  rcases hu with rfl | rfl | rfl <;> assumption
theorem nl2 (hx : NL x) (hy : NL y) : NLs (#[x, y] : Array Value).toList := by
  intro u hu
  simp at hu
  rcases hu with rfl | rfl <;> assumption
theorem bstart1 (T : TypeId) (w : World) (X : Array Value) : Box T (w.alloc (.cells X T)) w.heap.size X ∧ Below w.heap.size w (w.alloc (.cells X T)) ∧ (w.alloc (.cells X T)).heap.size = w.heap.size + 1 :=
  ⟨Box.new T w X, bl_alloc w _, size_alloc2 w _⟩
theorem bstart2 (T U : TypeId) (w : World) (X Y : Array Value) : Box T ((w.alloc (.cells X T)).alloc (.cells Y U)) w.heap.size X ∧ Box U ((w.alloc (.cells X T)).alloc (.cells Y U)) (w.heap.size + 1) Y ∧
    Below w.heap.size w ((w.alloc (.cells X T)).alloc (.cells Y U)) ∧ ((w.alloc (.cells X T)).alloc (.cells Y U)).heap.size = w.heap.size + 2 := by
  obtain ⟨h1, h2, h3⟩ := bstart1 T w X
  obtain ⟨k1, k2, k3⟩ := bstart1 U (w.alloc (.cells X T)) Y
  rw [h3] at k1 k3
  exact ⟨h1.alloc _, k1, h2.next (bl_alloc _ _), by omega⟩
theorem bstart3 (T U V : TypeId) (w : World) (X Y Z : Array Value) : Box T (((w.alloc (.cells X T)).alloc (.cells Y U)).alloc (.cells Z V)) w.heap.size X ∧ Box U (((w.alloc (.cells X T)).alloc (.cells Y U)).alloc (.cells Z V)) (w.heap.size + 1) Y ∧
    Box V (((w.alloc (.cells X T)).alloc (.cells Y U)).alloc (.cells Z V)) (w.heap.size + 1 + 1) Z ∧ Below w.heap.size w (((w.alloc (.cells X T)).alloc (.cells Y U)).alloc (.cells Z V)) ∧ (((w.alloc (.cells X T)).alloc (.cells Y U)).alloc (.cells Z V)).heap.size = w.heap.size + 3 := by
  obtain ⟨h1, h2, h3, h4⟩ := bstart2 T U w X Y
  obtain ⟨k1, k2, k3⟩ := bstart1 V ((w.alloc (.cells X T)).alloc (.cells Y U)) Z
  rw [h4] at k1 k3
  have e2 : w.heap.size + 2 = w.heap.size + 1 + 1 := rfl
  rw [e2] at k1
  exact ⟨h1.alloc _, h2.alloc _, k1, h3.next (bl_alloc _ _), by omega⟩
theorem bstart4 (T U V X : TypeId) (w : World) (a b c d : Array Value) : Box T ((((w.alloc (.cells a T)).alloc (.cells b U)).alloc (.cells c V)).alloc (.cells d X)) w.heap.size a ∧ Box U ((((w.alloc (.cells a T)).alloc (.cells b U)).alloc (.cells c V)).alloc (.cells d X)) (w.heap.size + 1) b ∧
    Box V ((((w.alloc (.cells a T)).alloc (.cells b U)).alloc (.cells c V)).alloc (.cells d X)) (w.heap.size + 1 + 1) c ∧ Box X ((((w.alloc (.cells a T)).alloc (.cells b U)).alloc (.cells c V)).alloc (.cells d X)) (w.heap.size + 1 + 1 + 1) d ∧
    Below w.heap.size w ((((w.alloc (.cells a T)).alloc (.cells b U)).alloc (.cells c V)).alloc (.cells d X)) ∧ ((((w.alloc (.cells a T)).alloc (.cells b U)).alloc (.cells c V)).alloc (.cells d X)).heap.size = w.heap.size + 4 := by
  obtain ⟨h1, h2, h3, h4, h5⟩ := bstart3 T U V w a b c
  obtain ⟨k1, k2, k3⟩ := bstart1 X (((w.alloc (.cells a T)).alloc (.cells b U)).alloc (.cells c V)) d
  rw [h5] at k1 k3
  have e2 : w.heap.size + 3 = w.heap.size + 1 + 1 + 1 := rfl
  rw [e2] at k1
  exact ⟨h1.alloc _, h2.alloc _, h3.alloc _, k1, h4.next (bl_alloc _ _), by omega⟩
end
/-- A store of a whole struct into its variable. -/
theorem wpList_store_box {P : Program} {w : World} {ops : Array Oper} {rest : List Oper} {o : Oper} {a : Act} {Q : Exit → Act → World → Prop} (hgd : o.guard = none) (T : TypeId) (x y : Operand) (ho : o.op = .store T x y)
    (g : Nat) (cells : Array Value) (hx : a.eval x = .pointer (some ⟨g, 0, none⟩)) (hy : a.eval y = .agg cells) (old : Array Value) (hb : Box T w g old) (hi : (P.info? T).map (·.size) = some cells.size) (hold : old.size = cells.size) (h1 : cells.all (·.oneCell') = true)
    (h : ∀ w', Box T w' g cells → Only g w w' → wpList P ops Q rest (a.put o.dst undef) w') : wpList P ops Q (o :: rest) a w := by
  refine wpList_store_row hgd T x y ho g cells hx hy T old hb hi hold h1 ?_
  refine h _ ?_ (only_setRow2 w g _)
  exact setRow_heap w g old cells _ _ hb
end Go.Proofs.Ytljocjjdfgpbaaa
/- Stores, as a region's last operation. -/
namespace Go.Proofs.Ytljocjjdfgpbaaa
open Go.RowKit

theorem exec_store_box {P : Program} {w : World} {o : Oper} {a : Act} {T : TypeId} {x y : Operand} {g : Nat} {cells old : Array Value} (ho : o.op = .store T x y) (hx : a.eval x = .pointer (some ⟨g, 0, none⟩)) (hy : a.eval y = .agg cells) (hb : Box T w g old)
    (hi : (P.info? T).map (·.size) = some cells.size) (hold : old.size = cells.size) (h1 : cells.all (·.oneCell') = true) : ∃ w', (execOp a.eval o).run P w = .ok .skip w' ∧ Box T w' g cells ∧ Only g w w' := by
  refine ⟨w.setRow g cells, ?_, setRow_heap w g old cells _ _ hb, only_setRow2 w g _⟩
  unfold execOp
  simp only [ho, hx, hy, Instr.storeAt, Instr.sureAddr, Sem.run_bind, Sem.run_pure, Result.andThen_ok, run_storeVar_row w g T T old cells hb hi hold h1]
theorem Does.store_box {P : Program} {w : World} {o : Oper} {a : Act} {T : TypeId} {x y g : Nat} {cells old : Array Value} {R : Value → World → Prop} (ho : o.op = .store T (.tmp x) (.tmp y)) (hx : a.tmps.getD x undef = .pointer (some ⟨g, 0, none⟩)) (hy : a.tmps.getD y undef = .agg cells) (hb : Box T w g old)
    (hi : (P.info? T).map (·.size) = some cells.size) (hold : old.size = cells.size) (h1 : cells.all (·.oneCell') = true) (hR : ∀ w', Box T w' g cells → Only g w w' → R undef w') : Does P a o w R := by
  obtain ⟨w', h2, h3, h4⟩ := exec_store_box (P := P) (a := a) ho hx hy hb hi hold h1
  exact Does.skip h2 (hR w' h3 h4)
end Go.Proofs.Ytljocjjdfgpbaaa
