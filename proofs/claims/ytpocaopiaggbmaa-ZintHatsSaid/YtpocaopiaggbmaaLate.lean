/- A region that draws its order and whose stores come last: a load may be taken first although a store of the region writes its cell, where that store waits for the load. -/
import Derived.Test.YtpocaopiaggbmaaZBox
namespace Go.Proofs.Ytpocaopiaggbmaa
open Go.RowKit

section
variable {P : Program} {ops : Array Oper} {Q : Exit → Act → World → Prop} {md : Region.Mode} {S : World → Prop} {late : List Nat}

/-- Every order from here on; behind an operation that is not among the late ones S holds. -/
def AnyL (P : Program) (md : Region.Mode) (ops : Array Oper) (Q : Exit → Act → World → Prop) (S : World → Prop) (late : List Nat) : Nat → Array Bool → Act → World → Prop
  | 0, listed, a, w => Region.ready md ops listed = [] ∧ Q .normal a w
  | fuel + 1, listed, a, w => (Region.ready md ops listed = [] → Q .normal a w) ∧
    ∀ i ∈ Region.ready md ops listed, wpOp P ops Q i (fun a' w' => (i ∉ late → S w') ∧ AnyL P md ops Q S late fuel (listed.setIfInBounds i true) a' w') a w
theorem AnyL.any : ∀ (fuel : Nat) (listed : Array Bool) (a : Act) (w : World), AnyL P md ops Q S late fuel listed a w → wpAny P md ops Q fuel listed a w
  | 0, _, _, _, h => h
  | fuel + 1, _, _, _, h => ⟨h.1, fun i hi => wpOp_mono (fun a' w' k => AnyL.any fuel _ a' w' k.2) (h.2 i hi)⟩

/-- What has come up has come up behind all that it waits for. -/
def ClosedL (md : Region.Mode) (ops : Array Oper) (listed : Array Bool) : Prop :=
  ∀ k o, ops[k]? = some o → listed.getD k false = true → ∀ e ∈ o.after, Region.binds md e = true → listed.getD e.on false = true
/-- Each late operation waits for operation i, or for one that waits for it. -/
def lateFor (md : Region.Mode) (ops : Array Oper) (late : List Nat) (i : Nat) : Bool :=
  late.all fun j => match ops[j]? with
    | none => true
    | some oj => oj.after.any fun e => Region.binds md e && (e.on == i || match ops[e.on]? with
      | none => false
      | some ok => ok.after.any fun e2 => Region.binds md e2 && e2.on == i)
theorem lateFor_spec {i j : Nat} {oj : Oper} (h : lateFor md ops late i = true) (hj : j ∈ late) (ho : ops[j]? = some oj) :
    ∃ e ∈ oj.after, Region.binds md e = true ∧ (e.on = i ∨ ∃ ok, ops[e.on]? = some ok ∧ ∃ e2 ∈ ok.after, Region.binds md e2 = true ∧ e2.on = i) := by
  have h1 := List.all_eq_true.1 h j hj
  rw [ho] at h1
  obtain ⟨x, hx, h2⟩ := Array.any_eq_true.1 h1
  simp only [Bool.and_eq_true, Bool.or_eq_true, beq_iff_eq] at h2
  refine ⟨_, Array.getElem_mem hx, h2.1, h2.2.imp id fun h3 => ?_⟩
  split at h3
  · cases h3
  · rename_i ok hok
    obtain ⟨y, hy, h4⟩ := Array.any_eq_true.1 h3
    simp only [Bool.and_eq_true, beq_iff_eq] at h4
    exact ⟨ok, hok, _, Array.getElem_mem hy, h4.1, h4.2⟩

theorem getD_flip {listed : Array Bool} {k : Nat} (h1 : listed.getD k false = true) (h0 : listed.getD k true = false) : False := by
  rcases Nat.lt_or_ge k listed.size with h | h
  · simp [h] at h0 h1; rw [h0] at h1; cases h1
  · simp [Array.getElem?_eq_none h] at h1
theorem ClosedL.next {listed : Array Bool} {j : Nat} (hc : ClosedL md ops listed) (hr : j ∈ Region.ready md ops listed) : ClosedL md ops (listed.setIfInBounds j true) := by
  intro k o ho hk e he hb
  obtain ⟨-, oj, hoj, hall⟩ := mem_ready.1 hr
  by_cases hjk : j = k
  · subst hjk
    rw [hoj] at ho
    injection ho with ho
    subst ho
    exact getD_set_true (hall e he hb)
  · rw [getD_set_ne false hjk] at hk
    exact getD_set_true (hc k o ho hk e he hb)
/-- A late one cannot come up while i has not. -/
theorem not_late {i j : Nat} {listed : Array Bool} (hl : lateFor md ops late i = true) (hc : ClosedL md ops listed) (hi : listed.getD i true = false) (hj : j ∈ Region.ready md ops listed) : j ∉ late := by
  intro hm
  obtain ⟨-, oj, hoj, hall⟩ := mem_ready.1 hj
  obtain ⟨e, he, hb, h⟩ := lateFor_spec hl hm hoj
  rcases h with h | ⟨ok, hok, e2, he2, hb2, h⟩
  · exact getD_flip (h ▸ hall e he hb) hi
  · exact getD_flip (h ▸ hc _ ok hok (hall e he hb) e2 he2 hb2) hi

theorem AnyL.first {i : Nat} {oi : Oper} {v : Value} (hi : ops[i]? = some oi) (hsel : ∀ (j : Nat) (o : Oper) cs b, ops[j]? = some o → o.op ≠ .select cs b)
    (hQ : ∀ c a w, Q (.panic c) (a.put oi.dst v) w → Q (.panic c) a w) (hlate : lateFor md ops late i = true) (hnl : i ∉ late) :
    ∀ (fuel : Nat) (listed : Array Bool) (a : Act) (w : World),
      (∀ j oj, ops[j]? = some oj → j ≠ i → listed.getD j true = false → (∀ e ∈ oj.after, Region.binds md e = true → e.on ≠ i) → oi.apart ops oj = true) →
      ClosedL md ops listed → i ∈ Region.ready md ops listed → YieldsIf P ops S oi v a → S w →
      AnyL P md ops Q S late fuel (listed.setIfInBounds i true) (a.put oi.dst v) w → AnyL P md ops Q S late (fuel + 1) listed a w := by
  intro fuel
  induction fuel with
  | zero =>
    intro listed a w _ _ hr hy hS H
    refine ⟨fun h => (by rw [h] at hr; cases hr), fun j hj => ?_⟩
    by_cases hji : j = i
    · subst hji; exact hy.wpOp hi hS ⟨fun _ => hS, H⟩
    · have := ready_mono hj hji
      rw [H.1] at this
      cases this
  | succ fuel ih =>
    intro listed a w hfree hc hr hy hS H
    refine ⟨fun h => (by rw [h] at hr; cases hr), fun j hj => ?_⟩
    have hi0 := (mem_ready.1 hr).1
    by_cases hji : j = i
    · subst hji; exact hy.wpOp hi hS ⟨fun _ => hS, H⟩
    · have hjl := not_late hlate hc hi0 hj
      obtain ⟨hjun, oj, hoj, hall⟩ := mem_ready.1 hj
      have hno : ∀ e ∈ oj.after, Region.binds md e = true → e.on ≠ i := fun e he hb heq => getD_flip (heq ▸ hall e he hb) hi0
      refine wpOp_mono (fun a' w' k => ⟨fun _ => k.2.1 hjl, ?_⟩) (wpOp_putIf hoj (hfree j oj hoj hji hjun hno) (fun cs b => hsel i oi cs b hi) (fun cs b => hsel j oj cs b hoj) hQ hy (H.2 j (ready_mono hj hji)))
      refine ih (listed.setIfInBounds j true) a' w' (fun m om hm hmi hun hn => hfree m om hm hmi ?_ hn) (hc.next hj) (ready_mono hr (Ne.symm hji)) k.1 (k.2.1 hjl) ?_
      · by_cases hjm : j = m
        · subst hjm; exact hjun
        · rw [getD_set_ne true hjm] at hun; exact hun
      · rw [Array.setIfInBounds_comm _ _ hji]
        exact k.2.2

theorem AnyL.take {i : Nat} {oi : Oper} {v : Value} {fuel : Nat} {listed : Array Bool} {a : Act} {w : World} (hi : ops[i]? = some oi)
    (hs : Region.noSelect ops = true) (hf : Region.free md ops listed i = true) (hr : (Region.ready md ops listed).contains i = true) (hl : (lateFor md ops late i && !late.contains i) = true)
    (hQ : ∀ c a w, Q (.panic c) (a.put oi.dst v) w → Q (.panic c) a w) (hc : ClosedL md ops listed) (hy : YieldsIf P ops S oi v a) (hS : S w)
    (h : ClosedL md ops (listed.setIfInBounds i true) → AnyL P md ops Q S late fuel (listed.setIfInBounds i true) (a.put oi.dst v) w) : AnyL P md ops Q S late (fuel + 1) listed a w := by
  simp only [Bool.and_eq_true, Bool.not_eq_true', List.contains_eq_mem, decide_eq_false_iff_not] at hl
  have hm : i ∈ Region.ready md ops listed := by simpa using hr
  exact AnyL.first hi (Region.noSelect_spec hs) hQ hl.1 hl.2 fuel listed a w (Region.free_spec hi hf) hc hm hy hS (h (hc.next hm))
/-- One alone may come up. -/
theorem AnyL.one {i : Nat} {oi : Oper} {fuel : Nat} {listed : Array Bool} {a : Act} {w : World} (hr : Region.ready md ops listed = [i]) (hi : ops[i]? = some oi) (hw : Region.wanted oi (yielded ops a.tmps) = true)
    (h : ∀ K : Act → World → Prop, Hid (∀ a' w', (i ∉ late → S w') → AnyL P md ops Q S late fuel (listed.setIfInBounds i true) a' w' → K a' w') → Oper.wp P oi a w K Q) : AnyL P md ops Q S late (fuel + 1) listed a w :=
  ⟨fun h0 => (by rw [h0] at hr; cases hr), fun j hj => by
    rw [hr] at hj
    obtain rfl := List.mem_singleton.1 hj
    exact wpOp_step hi (fun K hK => by rw [if_pos hw]; exact h K (fun a' w' h1 h2 => hK a' w' ⟨h1, h2⟩))⟩
theorem AnyL.oneC {i : Nat} {oi : Oper} {fuel : Nat} {listed : Array Bool} {a : Act} {w : World} (hr : Region.ready md ops listed = [i]) (hi : ops[i]? = some oi) (hw : Region.wanted oi (yielded ops a.tmps) = true) (hc : ClosedL md ops listed)
    (h : ∀ K : Act → World → Prop, Hid (∀ a' w', (i ∉ late → S w') → (ClosedL md ops (listed.setIfInBounds i true) → AnyL P md ops Q S late fuel (listed.setIfInBounds i true) a' w') → K a' w') → Oper.wp P oi a w K Q) : AnyL P md ops Q S late (fuel + 1) listed a w :=
  AnyL.one hr hi hw (fun K hK => h K (fun a' w' h1 h2 => hK.out a' w' h1 (h2 (hc.next (by rw [hr]; exact List.mem_singleton.2 rfl)))))
theorem AnyL.done {listed : Array Bool} {a : Act} {w : World} {fuel : Nat} (hr : Region.ready md ops listed = []) (h : Q .normal a w) : AnyL P md ops Q S late fuel listed a w := by
  cases fuel with
  | zero => exact ⟨hr, h⟩
  | succ n => exact ⟨fun _ => h, by rw [hr]; simp⟩
theorem ClosedL.zero (n : Nat) : ClosedL md ops (Array.replicate n false) := by
  intro k o _ hk
  rcases Nat.lt_or_ge k n with h | h
  · simp [h] at hk
  · simp [Nat.not_lt.2 h] at hk
theorem wp_region_late {id : Nat} {a : Act} {w : World} (hm : P.follows .mixedOrders = true) (late : List Nat) (S : World → Prop)
    (h : ClosedL .any ops (Array.replicate ops.size false) → AnyL P .any ops Q S late ops.size (Array.replicate ops.size false) a w.drew) : (Code.region id ops true).wp P Q a w :=
  wp_region_any hm (AnyL.any _ _ _ _ (h (ClosedL.zero _)))
end
end Go.Proofs.Ytpocaopiaggbmaa
