/- Texts of one seat, put together: LexReg. -/
import Derived.Test.YtljocjjdfgpbaaaB02
import Derived.Deep.RegionHeld3
set_option linter.unusedVariables false
/- XLate and XRegion over LexRow. -/
/- A region that draws its order and whose stores come last: a load may be taken first although a store of the region writes its cell, where that store waits for the load. -/
namespace Go.Proofs.Ytljocjjdfgpbaaa
open Go.RowKit

section
variable {P : Program} {ops : Array Oper} {Q : Exit → Act → World → Prop} {md : Region.Mode} {S : World → Prop} {late : List Nat}

/-- Every order from here on; behind an operation that is not among the late ones S holds. -/
def AnyL (P : Program) (md : Region.Mode) (ops : Array Oper) (Q : Exit → Act → World → Prop) (S : World → Prop) (late : List Nat) : Nat → Array Bool → Act → World → Prop
  | 0, listed, a, w => Region.ready md ops listed = [] ∧ Q .normal a w
  | fuel + 1, listed, a, w => (Region.ready md ops listed = [] → Q .normal a w) ∧
    ∀ i ∈ Region.ready md ops listed, wpOp P ops Q i (fun a' w' => (i ∉ late → S w') ∧ AnyL P md ops Q S late fuel (listed.setIfInBounds i true) a' w') a w
theorem AnyL.any : ∀ (fuel : Nat) (listed : Array Bool) (a : Act) (w : World), AnyL P md ops Q S late fuel listed a w → wpAny P md ops Q fuel listed a w
  | 0, _, _, _, h => h
  | fuel + 1, _, _, _, h => ⟨h.1, fun i hi => wpOp_mono (fun a' w' k => AnyL.any fuel _ a' w' k.2) (h.2 i hi)⟩

/-- What has come up has come up behind all that it waits for. -/
def ClosedL (md : Region.Mode) (ops : Array Oper) (listed : Array Bool) : Prop :=
  ∀ k o, ops[k]? = some o → listed.getD k false = true → ∀ e ∈ o.after, Region.binds md e = true → listed.getD e.on false = true
/-- Each late operation waits for operation i, or for one that waits for it. -/
def lateFor (md : Region.Mode) (ops : Array Oper) (late : List Nat) (i : Nat) : Bool :=
  late.all fun j => match ops[j]? with
    | none => true
    | some oj => oj.after.any fun e => Region.binds md e && (e.on == i || match ops[e.on]? with
      | none => false
      | some ok => ok.after.any fun e2 => Region.binds md e2 && e2.on == i)
theorem lateFor_spec {i j : Nat} {oj : Oper} (h : lateFor md ops late i = true) (hj : j ∈ late) (ho : ops[j]? = some oj) :
    ∃ e ∈ oj.after, Region.binds md e = true ∧ (e.on = i ∨ ∃ ok, ops[e.on]? = some ok ∧ ∃ e2 ∈ ok.after, Region.binds md e2 = true ∧ e2.on = i) := by
  have h1 := List.all_eq_true.1 h j hj
  rw [ho] at h1
  obtain ⟨x, hx, h2⟩ := Array.any_eq_true.1 h1
  simp only [Bool.and_eq_true, Bool.or_eq_true, beq_iff_eq] at h2
  refine ⟨_, Array.getElem_mem hx, h2.1, h2.2.imp id fun h3 => ?_⟩
  split at h3
  · cases h3
  · rename_i ok hok
    obtain ⟨y, hy, h4⟩ := Array.any_eq_true.1 h3
    simp only [Bool.and_eq_true, beq_iff_eq] at h4
    exact ⟨ok, hok, _, Array.getElem_mem hy, h4.1, h4.2⟩

theorem getD_flip {listed : Array Bool} {k : Nat} (h1 : listed.getD k false = true) (h0 : listed.getD k true = false) : False := by
  rcases Nat.lt_or_ge k listed.size with h | h
  · simp [h] at h0 h1; rw [h0] at h1; cases h1
  · simp [Array.getElem?_eq_none h] at h1
theorem ClosedL.next {listed : Array Bool} {j : Nat} (hc : ClosedL md ops listed) (hr : j ∈ Region.ready md ops listed) : ClosedL md ops (listed.setIfInBounds j true) := by
  intro k o ho hk e he hb
  obtain ⟨-, oj, hoj, hall⟩ := mem_ready.1 hr
  by_cases hjk : j = k
  · subst hjk
    rw [hoj] at ho
    injection ho with ho
    subst ho
    exact getD_set_true (hall e he hb)
  · rw [getD_set_ne false hjk] at hk
    exact getD_set_true (hc k o ho hk e he hb)
/-- A late one cannot come up while i has not. -/
theorem not_late {i j : Nat} {listed : Array Bool} (hl : lateFor md ops late i = true) (hc : ClosedL md ops listed) (hi : listed.getD i true = false) (hj : j ∈ Region.ready md ops listed) : j ∉ late := by
  intro hm
  obtain ⟨-, oj, hoj, hall⟩ := mem_ready.1 hj
  obtain ⟨e, he, hb, h⟩ := lateFor_spec hl hm hoj
  rcases h with h | ⟨ok, hok, e2, he2, hb2, h⟩
  · exact getD_flip (h ▸ hall e he hb) hi
  · exact getD_flip (h ▸ hc _ ok hok (hall e he hb) e2 he2 hb2) hi

theorem AnyL.first {i : Nat} {oi : Oper} {v : Value} (hi : ops[i]? = some oi) (hsel : ∀ (j : Nat) (o : Oper) cs b, ops[j]? = some o → o.op ≠ .select cs b)
    (hQ : ∀ c a w, Q (.panic c) (a.put oi.dst v) w → Q (.panic c) a w) (hlate : lateFor md ops late i = true) (hnl : i ∉ late) :
    ∀ (fuel : Nat) (listed : Array Bool) (a : Act) (w : World),
      (∀ j oj, ops[j]? = some oj → j ≠ i → listed.getD j true = false → (∀ e ∈ oj.after, Region.binds md e = true → e.on ≠ i) → oi.apart ops oj = true) →
      ClosedL md ops listed → i ∈ Region.ready md ops listed → YieldsIf P ops S oi v a → S w →
      AnyL P md ops Q S late fuel (listed.setIfInBounds i true) (a.put oi.dst v) w → AnyL P md ops Q S late (fuel + 1) listed a w := by
  intro fuel
  induction fuel with
  | zero =>
    intro listed a w _ _ hr hy hS H
    refine ⟨fun h => (by rw [h] at hr; cases hr), fun j hj => ?_⟩
    by_cases hji : j = i
    · subst hji; exact hy.wpOp hi hS ⟨fun _ => hS, H⟩
    · have := ready_mono hj hji
      rw [H.1] at this
      cases this
  | succ fuel ih =>
    intro listed a w hfree hc hr hy hS H
    refine ⟨fun h => (by rw [h] at hr; cases hr), fun j hj => ?_⟩
    have hi0 := (mem_ready.1 hr).1
    by_cases hji : j = i
    · subst hji; exact hy.wpOp hi hS ⟨fun _ => hS, H⟩
    · have hjl := not_late hlate hc hi0 hj
      obtain ⟨hjun, oj, hoj, hall⟩ := mem_ready.1 hj
      have hno : ∀ e ∈ oj.after, Region.binds md e = true → e.on ≠ i := fun e he hb heq => getD_flip (heq ▸ hall e he hb) hi0
      refine wpOp_mono (fun a' w' k => ⟨fun _ => k.2.1 hjl, ?_⟩) (wpOp_putIf hoj (hfree j oj hoj hji hjun hno) (fun cs b => hsel i oi cs b hi) (fun cs b => hsel j oj cs b hoj) hQ hy (H.2 j (ready_mono hj hji)))
      refine ih (listed.setIfInBounds j true) a' w' (fun m om hm hmi hun hn => hfree m om hm hmi ?_ hn) (hc.next hj) (ready_mono hr (Ne.symm hji)) k.1 (k.2.1 hjl) ?_
      · by_cases hjm : j = m
        · subst hjm; exact hjun
        · rw [getD_set_ne true hjm] at hun; exact hun
      · rw [Array.setIfInBounds_comm _ _ hji]
        exact k.2.2

theorem AnyL.take {i : Nat} {oi : Oper} {v : Value} {fuel : Nat} {listed : Array Bool} {a : Act} {w : World} (hi : ops[i]? = some oi)
    (hs : Region.noSelect ops = true) (hf : Region.free md ops listed i = true) (hr : (Region.ready md ops listed).contains i = true) (hl : (lateFor md ops late i && !late.contains i) = true)
    (hQ : ∀ c a w, Q (.panic c) (a.put oi.dst v) w → Q (.panic c) a w) (hc : ClosedL md ops listed) (hy : YieldsIf P ops S oi v a) (hS : S w)
    (h : ClosedL md ops (listed.setIfInBounds i true) → AnyL P md ops Q S late fuel (listed.setIfInBounds i true) (a.put oi.dst v) w) : AnyL P md ops Q S late (fuel + 1) listed a w := by
  simp only [Bool.and_eq_true, Bool.not_eq_true', List.contains_eq_mem, decide_eq_false_iff_not] at hl
  have hm : i ∈ Region.ready md ops listed := by simpa using hr
  exact AnyL.first hi (Region.noSelect_spec hs) hQ hl.1 hl.2 fuel listed a w (Region.free_spec hi hf) hc hm hy hS (h (hc.next hm))
/-- One alone may come up. -/
theorem AnyL.one {i : Nat} {oi : Oper} {fuel : Nat} {listed : Array Bool} {a : Act} {w : World} (hr : Region.ready md ops listed = [i]) (hi : ops[i]? = some oi) (hw : Region.wanted oi (yielded ops a.tmps) = true)
    (h : ∀ K : Act → World → Prop, Hid (∀ a' w', (i ∉ late → S w') → AnyL P md ops Q S late fuel (listed.setIfInBounds i true) a' w' → K a' w') → Oper.wp P oi a w K Q) : AnyL P md ops Q S late (fuel + 1) listed a w :=
  ⟨fun h0 => (by rw [h0] at hr; cases hr), fun j hj => by
    rw [hr] at hj
    obtain rfl := List.mem_singleton.1 hj
    exact wpOp_step hi (fun K hK => by rw [if_pos hw]; exact h K (fun a' w' h1 h2 => hK a' w' ⟨h1, h2⟩))⟩
theorem AnyL.oneC {i : Nat} {oi : Oper} {fuel : Nat} {listed : Array Bool} {a : Act} {w : World} (hr : Region.ready md ops listed = [i]) (hi : ops[i]? = some oi) (hw : Region.wanted oi (yielded ops a.tmps) = true) (hc : ClosedL md ops listed)
    (h : ∀ K : Act → World → Prop, Hid (∀ a' w', (i ∉ late → S w') → (ClosedL md ops (listed.setIfInBounds i true) → AnyL P md ops Q S late fuel (listed.setIfInBounds i true) a' w') → K a' w') → Oper.wp P oi a w K Q) : AnyL P md ops Q S late (fuel + 1) listed a w :=
  AnyL.one hr hi hw (fun K hK => h K (fun a' w' h1 h2 => hK.out a' w' h1 (h2 (hc.next (by rw [hr]; exact List.mem_singleton.2 rfl)))))
theorem AnyL.done {listed : Array Bool} {a : Act} {w : World} {fuel : Nat} (hr : Region.ready md ops listed = []) (h : Q .normal a w) : AnyL P md ops Q S late fuel listed a w := by
  cases fuel with
  | zero => exact ⟨hr, h⟩
  | succ n => exact ⟨fun _ => h, by rw [hr]; simp⟩
theorem ClosedL.zero (n : Nat) : ClosedL md ops (Array.replicate n false) := by
  intro k o _ hk
  rcases Nat.lt_or_ge k n with h | h
  · simp [h] at hk
  · simp [Nat.not_lt.2 h] at hk
theorem wp_region_late {id : Nat} {a : Act} {w : World} (hm : P.follows .mixedOrders = true) (late : List Nat) (S : World → Prop)
    (h : ClosedL .any ops (Array.replicate ops.size false) → AnyL P .any ops Q S late ops.size (Array.replicate ops.size false) a w.drew) : (Code.region id ops true).wp P Q a w :=
  wp_region_any hm (AnyL.any _ _ _ _ (h (ClosedL.zero _)))
end
end Go.Proofs.Ytljocjjdfgpbaaa
/- A region that draws its order, by an invariant: what each operation that has come up has yielded, whatever the order. -/
namespace Go.Proofs.Ytljocjjdfgpbaaa
open Go.RowKit

section
variable {P : Program} {ops : Array Oper} {Q : Exit → Act → World → Prop}

/-- Every edge points back. -/
def backB (ops : Array Oper) : Bool := (List.range ops.size).all fun i => match ops[i]? with
  | none => true
  | some o => o.after.all fun e => !Region.binds .any e || decide (e.on < i)
theorem backB_spec (h : backB ops = true) {i : Nat} {o : Oper} (ho : ops[i]? = some o) : ∀ e ∈ o.after, Region.binds .any e = true → e.on < i := by
  intro e he hbd
  have hlt : i < ops.size := (Array.getElem?_eq_some_iff.1 ho).1
  have h1 := List.all_eq_true.1 h i (List.mem_range.2 hlt)
  simp only [ho] at h1
  have h2 := Array.all_eq_true_iff_forall_mem.1 h1 e he
  rw [hbd] at h2
  simpa using h2
def AllOn (n : Nat) (listed : Array Bool) : Prop := ∀ j, j < n → listed.getD j false = true
theorem ready_nil {listed : Array Bool} (hb : backB ops = true) (hs : listed.size = ops.size) (h : Region.ready .any ops listed = []) : AllOn ops.size listed := by
  intro j
  induction j using Nat.strongRecOn with
  | _ j ih =>
    intro hj
    by_cases hl : listed.getD j false = true
    · exact hl
    · have hm : j ∈ Region.ready .any ops listed := mem_ready.2 ⟨by
        have h1 : j < listed.size := by omega
        simp [h1] at hl ⊢; exact hl, ops[j], Array.getElem?_eq_getElem hj, fun e he hbd => ih e.on (backB_spec hb (Array.getElem?_eq_getElem hj) e he hbd) (by have := backB_spec hb (Array.getElem?_eq_getElem hj) e he hbd; omega)⟩
      rw [h] at hm
      cases hm
theorem all_ready {md : Region.Mode} {listed : Array Bool} (h : AllOn ops.size listed) : Region.ready md ops listed = [] := by
  rcases hr : Region.ready md ops listed with _ | ⟨i, is⟩
  · rfl
  · have hm : i ∈ Region.ready md ops listed := by rw [hr]; exact List.mem_cons_self ..
    obtain ⟨h1, o, ho, _⟩ := mem_ready.1 hm
    have h2 := h i (Array.getElem?_eq_some_iff.1 ho).1
    exact (getD_flip h2 h1).elim
/-- How many are still to come. -/
def todo (listed : Array Bool) : Nat := listed.toList.countP (fun b => !b)
theorem todo_set {listed : Array Bool} {i : Nat} (h : listed.getD i true = false) : todo (listed.setIfInBounds i true) + 1 = todo listed := by
  have hi : i < listed.size := by
    rcases Nat.lt_or_ge i listed.size with h1 | h1
    · exact h1
    · simp [Array.getElem?_eq_none h1] at h
  have h1 : listed.toList[i]? = some false := by
    simp [hi] at h
    simp [hi, h]
  unfold todo
  rw [Array.toList_setIfInBounds]
  generalize listed.toList = l at *
  clear h hi
  induction l generalizing i with
  | nil => simp at h1
  | cons b l ih =>
    cases i with
    | zero => simp at h1; subst h1; simp
    | succ i =>
      simp at h1
      have := ih h1
      simp only [List.set_cons_succ, List.countP_cons]
      omega
theorem todo_zero {listed : Array Bool} (h : todo listed = 0) : AllOn listed.size listed := by
  intro j hj
  unfold todo at h
  rw [List.countP_eq_zero] at h
  have := h listed[j] (by simp)
  simp at this
  simp [hj, this]
theorem todo_start (n : Nat) : todo (Array.replicate n false) = n := by
  unfold todo
  simp [List.countP_replicate]

/-- THE LAW: an invariant over what has come up. -/
theorem wp_region_inv {id : Nat} {a : Act} {w : World} (hm : P.follows .mixedOrders = true) (hb : backB ops = true) (I : Array Bool → Act → World → Prop)
    (h0 : I (Array.replicate ops.size false) a w.drew)
    (hstep : ∀ (i : Nat) (o : Oper) (listed : Array Bool) (a : Act) (w : World), ops[i]? = some o → listed.size = ops.size → listed.getD i true = false → ClosedL .any ops listed → (∀ e ∈ o.after, Region.binds .any e = true → listed.getD e.on false = true) → I listed a w →
      wpOp P ops Q i (I (listed.setIfInBounds i true)) a w)
    (hend : ∀ (listed : Array Bool) (a : Act) (w : World), listed.size = ops.size → AllOn ops.size listed → I listed a w → Q .normal a w) : (Code.region id ops true).wp P Q a w := by
  have main : ∀ (fuel : Nat) (listed : Array Bool) (a : Act) (w : World), listed.size = ops.size → todo listed ≤ fuel → ClosedL .any ops listed → I listed a w → wpAny P .any ops Q fuel listed a w := by
    intro fuel
    induction fuel with
    | zero =>
      intro listed a w hs hf hc hI
      have hall : AllOn ops.size listed := by rw [← hs]; exact todo_zero (by omega)
      exact ⟨all_ready hall, hend listed a w hs hall hI⟩
    | succ fuel ih =>
      intro listed a w hs hf hc hI
      refine ⟨fun h => hend listed a w hs (ready_nil hb hs h) hI, fun i hi => ?_⟩
      obtain ⟨h1, o, ho, h2⟩ := mem_ready.1 hi
      refine wpOp_mono (fun a' w' hI' => ?_) (hstep i o listed a w ho hs h1 hc h2 hI)
      exact ih _ a' w' (by simp [hs]) (by have := todo_set h1; omega) (hc.next hi) hI'
  refine wp_region_any hm (main ops.size _ a _ (by simp) (by rw [todo_start]; exact Nat.le_refl _) (ClosedL.zero _) h0)

theorem stepV {i : Nat} {o : Oper} {K : Act → World → Prop} {a : Act} {w w' : World} {v : Value} (ho : ops[i]? = some o) (hg : o.guard = none) (hrun : (execOp a.eval o).run P w = .ok (.value v) w') (hK : K (a.put o.dst v) w') : wpOp P ops Q i K a w :=
  wpOp_step ho fun K' hK' => by
    rw [if_pos (by simp [Region.wanted, hg])]
    unfold Oper.wp
    rw [hrun]
    exact hK' _ _ hK
theorem stepS {i : Nat} {o : Oper} {K : Act → World → Prop} {a : Act} {w w' : World} (ho : ops[i]? = some o) (hg : o.guard = none) (hrun : (execOp a.eval o).run P w = .ok .skip w') (hK : K (a.put o.dst undef) w') : wpOp P ops Q i K a w :=
  wpOp_step ho fun K' hK' => by
    rw [if_pos (by simp [Region.wanted, hg])]
    unfold Oper.wp
    rw [hrun]
    exact hK' _ _ hK
theorem stepC {i : Nat} {o : Oper} {K : Act → World → Prop} {a : Act} {w : World} {f : FuncId} {args : Array Value} {R : Ending → World → Prop} (ho : ops[i]? = some o) (hg : o.guard = none) (hrun : (execOp a.eval o).run P w = .ok (.enter f args) w) (hc : Calls P f args w R)
    (hR : ∀ e w', R e w' → ∃ v, e = .returned v ∧ K (a.put o.dst v) w') : wpOp P ops Q i K a w :=
  wpOp_step ho fun K' hK' => by
    rw [if_pos (by simp [Region.wanted, hg])]
    unfold Oper.wp
    rw [hrun]
    refine hc.mono fun e w' h => ?_
    obtain ⟨v, rfl, hk⟩ := hR e w' h
    exact hK' _ _ hk

def dstOf (ops : Array Oper) (j : Nat) : Option Tmp := (ops[j]?).bind (·.dst)
def upd (σ : Nat → Value) (i : Nat) (v : Value) : Nat → Value := fun j => if j = i then v else σ j
theorem upd_self (σ : Nat → Value) (i : Nat) (v : Value) : upd σ i v i = v := by unfold upd; rw [if_pos rfl]
theorem upd_ne (σ : Nat → Value) {i j : Nat} (v : Value) (h : j ≠ i) : upd σ i v j = σ j := by unfold upd; rw [if_neg h]
/-- The act in which the listed ones have yielded σ. -/
def fill (ops : Array Oper) (σ : Nat → Value) (listed : Array Bool) : List Nat → Act → Act
  | [], a => a
  | j :: js, a => fill ops σ listed js (if listed.getD j false then a.put (dstOf ops j) (σ j) else a)
def apartT : Option Tmp → Option Tmp → Bool
  | some d, some e => d != e
  | _, _ => true
theorem put_comm' (a : Act) (d e : Option Tmp) (u v : Value) (h : apartT d e = true) : (a.put d u).put e v = (a.put e v).put d u := by
  cases d with
  | none => rfl
  | some d => cases e with
    | none => rfl
    | some e =>
      have : d ≠ e := by simpa [apartT] using h
      simp only [Act.put, Act.mk.injEq, and_true]
      exact Array.setIfInBounds_comm _ _ this
/-- All write slots of their own, within the frame. -/
def ownB (ops : Array Oper) (size : Nat) : Bool := (List.range ops.size).all fun i => (match dstOf ops i with | none => true | some d => decide (d < size)) && (List.range ops.size).all fun j => i == j || apartT (dstOf ops i) (dstOf ops j)
theorem ownB_apart {size i j : Nat} (h : ownB ops size = true) (hi : i < ops.size) (hj : j < ops.size) (hne : i ≠ j) : apartT (dstOf ops i) (dstOf ops j) = true := by
  have h1 := List.all_eq_true.1 h i (List.mem_range.2 hi)
  simp only [Bool.and_eq_true] at h1
  have h2 := List.all_eq_true.1 h1.2 j (List.mem_range.2 hj)
  simpa [hne] using h2
theorem ownB_lt {size i d : Nat} (h : ownB ops size = true) (hi : i < ops.size) (hd : dstOf ops i = some d) : d < size := by
  have h1 := List.all_eq_true.1 h i (List.mem_range.2 hi)
  simp only [Bool.and_eq_true, hd] at h1
  exact of_decide_eq_true h1.1
theorem fill_put {σ : Nat → Value} {listed : Array Bool} {d : Option Tmp} {v : Value} : ∀ (js : List Nat) (a : Act), (∀ j ∈ js, apartT d (dstOf ops j) = true) → fill ops σ listed js (a.put d v) = (fill ops σ listed js a).put d v
  | [], _, _ => rfl
  | j :: js, a, h => by
    have hj := h j (List.mem_cons_self ..)
    have hjs : ∀ x ∈ js, apartT d (dstOf ops x) = true := fun x hx => h x (List.mem_cons_of_mem _ hx)
    unfold fill
    split
    · rw [put_comm' _ _ _ _ _ hj]; exact fill_put js _ hjs
    · exact fill_put js _ hjs
theorem fill_same {σ : Nat → Value} {listed : Array Bool} {i : Nat} {v : Value} : ∀ (js : List Nat) (a : Act), i ∉ js → fill ops (upd σ i v) (listed.setIfInBounds i true) js a = fill ops σ listed js a
  | [], _, _ => rfl
  | j :: js, a, h => by
    have hji : j ≠ i := fun e => h (e ▸ List.mem_cons_self ..)
    unfold fill
    rw [getD_set_ne false (Ne.symm hji), upd_ne σ v hji]
    exact fill_same js _ (fun hh => h (List.mem_cons_of_mem _ hh))
theorem fill_set {size : Nat} {σ : Nat → Value} {listed : Array Bool} {i : Nat} {v : Value} (ho : ownB ops size = true) (hi : i < ops.size) (hl : listed.getD i true = false) :
    ∀ (js : List Nat) (a : Act), js.Nodup → (∀ j ∈ js, j < ops.size) → i ∈ js → fill ops (upd σ i v) (listed.setIfInBounds i true) js a = (fill ops σ listed js a).put (dstOf ops i) v
  | [], _, _, _, h => by cases h
  | j :: js, a, hn, hlt, h => by
    obtain ⟨hn1, hn2⟩ := List.nodup_cons.1 hn
    by_cases hji : j = i
    · subst hji
      have hls : j < listed.size := by
        rcases Nat.lt_or_ge j listed.size with h1 | h1
        · exact h1
        · simp [Array.getElem?_eq_none h1] at hl
      have h1 : (listed.setIfInBounds j true).getD j false = true := by simp [hls]
      have h2 : listed.getD j false = false := by simp [hls] at hl ⊢; exact hl
      unfold fill
      rw [h1, h2, upd_self]
      simp only [if_true, Bool.false_eq_true, if_false]
      rw [fill_same js _ hn1]
      exact fill_put js a (fun x hx => ownB_apart ho hi (hlt x (List.mem_cons_of_mem _ hx)) (fun e => hn1 (e ▸ hx)))
    · have hjs : i ∈ js := (List.mem_cons.1 h).resolve_left (fun e => hji e.symm)
      unfold fill
      rw [getD_set_ne false (Ne.symm hji), upd_ne σ v hji]
      exact fill_set ho hi hl js _ hn2 (fun x hx => hlt x (List.mem_cons_of_mem _ hx)) hjs
theorem put_size (a : Act) (d : Option Tmp) (v : Value) : (a.put d v).tmps.size = a.tmps.size := by cases d <;> simp [Act.put]
theorem fill_size {σ : Nat → Value} {listed : Array Bool} : ∀ (js : List Nat) (a : Act), (fill ops σ listed js a).tmps.size = a.tmps.size
  | [], _ => rfl
  | j :: js, a => by
    unfold fill
    rw [fill_size js]
    split
    · exact put_size _ _ _
    · rfl
theorem eval_put_ne (a : Act) (d : Option Tmp) (t : Tmp) (v : Value) (h : d ≠ some t) : (a.put d v).eval (.tmp t) = a.eval (.tmp t) := by
  cases d with
  | none => rfl
  | some d =>
    have : d ≠ t := fun e => h (by rw [e])
    simp [Act.put, Act.eval, Array.getElem?_setIfInBounds_ne this]
theorem eval_put_eq (a : Act) (t : Tmp) (v : Value) (h : t < a.tmps.size) : (a.put (some t) v).eval (.tmp t) = v := by
  simp [Act.put, Act.eval, h]
theorem fill_out {σ : Nat → Value} {listed : Array Bool} {t : Tmp} : ∀ (js : List Nat) (a : Act), (∀ j ∈ js, dstOf ops j ≠ some t) → (fill ops σ listed js a).eval (.tmp t) = a.eval (.tmp t)
  | [], _, _ => rfl
  | j :: js, a, h => by
    unfold fill
    rw [fill_out js _ (fun x hx => h x (List.mem_cons_of_mem _ hx))]
    split
    · exact eval_put_ne _ _ _ _ (h j (List.mem_cons_self ..))
    · rfl
theorem fill_in {size : Nat} {σ : Nat → Value} {listed : Array Bool} {t : Tmp} {i : Nat} (ho : ownB ops size = true) (hi : i < ops.size) (hd : dstOf ops i = some t) (hl : listed.getD i false = true) :
    ∀ (js : List Nat) (a : Act), a.tmps.size = size → js.Nodup → (∀ j ∈ js, j < ops.size) → i ∈ js → (fill ops σ listed js a).eval (.tmp t) = σ i
  | [], _, _, _, _, h => by cases h
  | j :: js, a, hs, hn, hlt, h => by
    obtain ⟨hn1, hn2⟩ := List.nodup_cons.1 hn
    by_cases hji : j = i
    · subst hji
      unfold fill
      rw [hl]
      simp only [if_true]
      rw [fill_out js _ (fun x hx e => by
        have h1 := ownB_apart ho hi (hlt x (List.mem_cons_of_mem _ hx)) (fun e => hn1 (e ▸ hx))
        rw [hd, e] at h1
        simp [apartT] at h1), hd]
      exact eval_put_eq _ _ _ (by rw [hs]; exact ownB_lt ho hi hd)
    · have hjs : i ∈ js := (List.mem_cons.1 h).resolve_left (fun e => hji e.symm)
      unfold fill
      exact fill_in ho hi hd hl js _ (by split; · rw [put_size]; exact hs
                                         · exact hs) hn2 (fun x hx => hlt x (List.mem_cons_of_mem _ hx)) hjs
/-- The act while the region runs. -/
def mid (ops : Array Oper) (σ : Nat → Value) (listed : Array Bool) (a : Act) : Act := fill ops σ listed (List.range ops.size) a
theorem mid_in {a : Act} {σ : Nat → Value} {listed : Array Bool} {t : Tmp} {i : Nat} (ho : ownB ops a.tmps.size = true) (hd : dstOf ops i = some t) (hl : listed.getD i false = true) : (mid ops σ listed a).eval (.tmp t) = σ i := by
  have hi : i < ops.size := by
    rcases Nat.lt_or_ge i ops.size with h | h
    · exact h
    · simp [dstOf, Array.getElem?_eq_none h] at hd
  exact fill_in ho hi hd hl _ a rfl List.nodup_range (fun j hj => List.mem_range.1 hj) (List.mem_range.2 hi)
def outB (ops : Array Oper) (t : Tmp) : Bool := (List.range ops.size).all fun j => dstOf ops j != some t
theorem mid_out {a : Act} {σ : Nat → Value} {listed : Array Bool} {t : Tmp} (h : outB ops t = true) : (mid ops σ listed a).eval (.tmp t) = a.eval (.tmp t) :=
  fill_out _ a (fun j hj => by simpa using List.all_eq_true.1 h j hj)
/-- Each operation beside its number. -/
def Each (R : Nat → Oper → Prop) : Nat → List Oper → Prop
  | _, [] => True
  | i, o :: os => R i o ∧ Each R (i + 1) os
theorem Each.get {R : Nat → Oper → Prop} : ∀ (os : List Oper) (k : Nat), Each R k os → ∀ i o, os[i]? = some o → R (k + i) o
  | [], _, _, i, o, h => by simp at h
  | x :: os, k, h, i, o, ho => by
    cases i with
    | zero => simp at ho; subst ho; exact h.1
    | succ i =>
      have := Each.get os (k + 1) h.2 i o (by simpa using ho)
      rw [show k + (i + 1) = k + 1 + i by omega]
      exact this
/-- What an operation does: it yields a value, or nothing, or calls. -/
def Does (P : Program) (a : Act) (o : Oper) (w : World) (R : Value → World → Prop) : Prop :=
  (∃ v w', (execOp a.eval o).run P w = .ok (.value v) w' ∧ R v w') ∨ (∃ w', (execOp a.eval o).run P w = .ok .skip w' ∧ R undef w') ∨
  ∃ (f : FuncId) (args : Array Value) (R' : Ending → World → Prop), (execOp a.eval o).run P w = .ok (.enter f args) w ∧ Calls P f args w R' ∧ ∀ e w', R' e w' → ∃ v, e = .returned v ∧ R v w'
theorem Does.val {a : Act} {o : Oper} {w w' : World} {R : Value → World → Prop} (v : Value) (h : (execOp a.eval o).run P w = .ok (.value v) w') (hR : R v w') : Does P a o w R := Or.inl ⟨v, w', h, hR⟩
theorem Does.skip {a : Act} {o : Oper} {w w' : World} {R : Value → World → Prop} (h : (execOp a.eval o).run P w = .ok .skip w') (hR : R undef w') : Does P a o w R := Or.inr (Or.inl ⟨w', h, hR⟩)
theorem Does.call {a : Act} {o : Oper} {w : World} {R : Value → World → Prop} {f : FuncId} {args : Array Value} {R' : Ending → World → Prop} (h : (execOp a.eval o).run P w = .ok (.enter f args) w) (hc : Calls P f args w R') (hR : ∀ e w', R' e w' → ∃ v, e = .returned v ∧ R v w') : Does P a o w R := Or.inr (Or.inr ⟨f, args, R', h, hc, hR⟩)
theorem Does.step {i : Nat} {o : Oper} {K : Act → World → Prop} {a : Act} {w : World} {R : Value → World → Prop} (ho : ops[i]? = some o) (hg : Region.wanted o (yielded ops a.tmps) = true) (h : Does P a o w R) (hK : ∀ v w', R v w' → K (a.put o.dst v) w') : wpOp P ops Q i K a w :=
  wpOp_step ho fun K' hK' => by
    rw [if_pos hg]
    unfold Oper.wp
    rcases h with ⟨v, w', hr, hR⟩ | ⟨w', hr, hR⟩ | ⟨f, args, R', hr, hc, hR⟩
    · rw [hr]; exact hK' _ _ (hK _ _ hR)
    · rw [hr]; exact hK' _ _ (hK _ _ hR)
    · rw [hr]
      refine hc.mono fun e w' he => ?_
      obtain ⟨v, rfl, hv⟩ := hR e w' he
      exact hK' _ _ (hK _ _ hv)
/-- The guard of an operation: none, or a slot that holds a bool. -/
def Guarded (ops : Array Oper) (a : Act) (o : Oper) (w : World) (R : Value → World → Prop) (D : Prop) : Prop :=
  match o.guard with
  | none => D
  | some (g, want) => ∃ (d : Tmp) (b : Bool), dstOf ops g = some d ∧ a.tmps.getD d undef = .bool b ∧ (b = want → D) ∧ (b ≠ want → R undef w)
theorem Guarded.step {i : Nat} {o : Oper} {K : Act → World → Prop} {a : Act} {w : World} {R : Value → World → Prop} (ho : ops[i]? = some o) (h : Guarded ops a o w R (Does P a o w R)) (hK : ∀ v w', R v w' → K (a.put o.dst v) w') : wpOp P ops Q i K a w := by
  unfold Guarded at h
  cases hg : o.guard with
  | none =>
    rw [hg] at h
    exact Does.step ho (by simp [Region.wanted, hg]) h hK
  | some gw =>
    obtain ⟨g, want⟩ := gw
    rw [hg] at h
    obtain ⟨d, b, hd, hv, h1, h2⟩ := h
    have hy : yielded ops a.tmps g = some b := by
      have h3 : a.tmps[d]? = some (.bool b) := by
        rcases hx : a.tmps[d]? with _ | x
        · simp [hx] at hv; exact absurd hv (by unfold undef; simp)
        · simp [hx] at hv; rw [hv]
      unfold dstOf at hd
      unfold yielded
      rw [hd]
      show (match a.tmps[d]? with | some (.bool b) => some b | _ => none) = _
      rw [h3]
    by_cases hb : b = want
    · exact Does.step ho (by simp [Region.wanted, hg, hy, hb]) (h1 hb) hK
    · refine wpOp_step ho fun K' hK' => ?_
      rw [if_neg (by simp [Region.wanted, hg, hy, hb])]
      exact hK' _ _ (hK _ _ (h2 hb))
/-- What is asked of operation i. -/
def StepOf (P : Program) (ops : Array Oper) (a0 : Act) (T : World → World → Prop) (F : Nat → Value → World → Prop) (G : Array Bool → (Nat → Value) → World → Prop) (i : Nat) (o : Oper) : Prop :=
  ∀ (listed : Array Bool) (σ : Nat → Value) (w : World) (a : Act), (∀ j t, dstOf ops j = some t → listed.getD j false = true → a.tmps.getD t undef = σ j) → (∀ t, outB ops t = true → a.tmps.getD t undef = a0.tmps.getD t undef) →
    listed.getD i true = false → ClosedL .any ops listed → (∀ e ∈ o.after, Region.binds .any e = true → listed.getD e.on false = true) → G listed σ w → (∀ j, listed.getD j false = true → F j (σ j) w) →
    Guarded ops a o w (fun v w' => T w w' ∧ F i v w' ∧ G (listed.setIfInBounds i true) (upd σ i v) w') (Does P a o w (fun v w' => T w w' ∧ F i v w' ∧ G (listed.setIfInBounds i true) (upd σ i v) w'))
theorem rep_false (n j : Nat) : (Array.replicate n false).getD j false = false := by
  rcases Nat.lt_or_ge j n with h | h
  · simp [h]
  · simp [Nat.not_lt.2 h]
theorem wp_region_facts {id : Nat} {a0 : Act} {w : World} (hm : P.follows .mixedOrders = true) (hb : backB ops = true) (ho : ownB ops a0.tmps.size = true) (T : World → World → Prop) (F : Nat → Value → World → Prop) (G : Array Bool → (Nat → Value) → World → Prop)
    (hF : ∀ j v w w', T w w' → F j v w → F j v w') (h0 : ∀ σ, G (Array.replicate ops.size false) σ w.drew)
    (hstep : Each (StepOf P ops a0 T F G) 0 ops.toList)
    (hend : ∀ (listed : Array Bool) (σ : Nat → Value) (w : World), AllOn ops.size listed → G listed σ w → (∀ j, j < ops.size → F j (σ j) w) → Q .normal (mid ops σ listed a0) w) : (Code.region id ops true).wp P Q a0 w := by
  refine wp_region_inv hm hb (fun listed a w => ∃ σ, a = mid ops σ listed a0 ∧ G listed σ w ∧ ∀ j, listed.getD j false = true → F j (σ j) w) ?_ ?_ ?_
  · refine ⟨fun _ => undef, ?_, h0 _, fun j hj => ?_⟩
    · unfold mid
      have : ∀ (js : List Nat) (a : Act), fill ops (fun _ => undef) (Array.replicate ops.size false) js a = a := by
        intro js
        induction js with
        | nil => intro a; rfl
        | cons j js ih =>
          intro a
          unfold fill
          rw [if_neg (by rw [rep_false]; exact Bool.false_ne_true), ih]
      exact (this _ _).symm
    · rw [rep_false] at hj; cases hj
  · rintro i o listed a w hio hs hl hc hp ⟨σ, rfl, hG, hF1⟩
    have hlt : i < ops.size := (Array.getElem?_eq_some_iff.1 hio).1
    have h1 := Each.get ops.toList 0 hstep i o (by simpa using hio)
    rw [Nat.zero_add] at h1
    refine Guarded.step hio (h1 listed σ w (mid ops σ listed a0) (fun j t hd hj => mid_in ho hd hj) (fun t ht => mid_out ht) hl hc hp hG hF1) ?_
    rintro v w' ⟨hT, hFi, hG'⟩
    refine ⟨upd σ i v, ?_, hG', fun j hj => ?_⟩
    · have hd : o.dst = dstOf ops i := by simp [dstOf, hio]
      rw [hd]
      exact (fill_set ho hlt hl _ _ List.nodup_range (fun j hj => List.mem_range.1 hj) (List.mem_range.2 hlt)).symm
    · by_cases hji : j = i
      · subst hji; rw [upd_self]; exact hFi
      · rw [upd_ne σ v hji]
        rw [getD_set_ne false (Ne.symm hji)] at hj
        exact hF j _ _ _ hT (hF1 j hj)
  · rintro listed a w hs hall ⟨σ, rfl, hG, hF1⟩
    exact hend listed σ w hall hG (fun j hj => hF1 j (hall j hj))
/-- All have come up. -/
theorem mid_all {listed : Array Bool} {σ : Nat → Value} {a : Act} (h : AllOn ops.size listed) : mid ops σ listed a = (List.range ops.size).foldl (fun a j => a.put (dstOf ops j) (σ j)) a := by
  unfold mid
  have : ∀ (js : List Nat) (a : Act), (∀ j ∈ js, j < ops.size) → fill ops σ listed js a = js.foldl (fun a j => a.put (dstOf ops j) (σ j)) a := by
    intro js
    induction js with
    | nil => intro a _; rfl
    | cons j js ih =>
      intro a hlt
      unfold fill
      rw [if_pos (h j (hlt j (List.mem_cons_self ..))), List.foldl_cons]
      exact ih _ (fun x hx => hlt x (List.mem_cons_of_mem _ hx))
  exact this _ a (fun j hj => List.mem_range.1 hj)
/-- One new block, made by operation b and filled by operation s; nothing that was there has turned. -/
def G1 (W0 : World) (b s : Nat) (Fr Fu : World → Nat → Prop) (listed : Array Bool) (σ : Nat → Value) (w : World) : Prop :=
  Below W0.heap.size W0 w ∧ (listed.getD b false = true → ∃ g, σ b = .pointer (some ⟨g, 0, none⟩) ∧ W0.heap.size ≤ g ∧ (listed.getD s false = false → Fr w g) ∧ (listed.getD s false = true → Fu w g))
theorem G1.old {W0 : World} {b s : Nat} {Fr Fu : World → Nat → Prop} {listed : Array Bool} {σ : Nat → Value} {w : World} (h : G1 W0 b s Fr Fu listed σ w) : Below W0.heap.size W0 w := h.1
theorem G1.start {W0 : World} {b s n : Nat} {Fr Fu : World → Nat → Prop} {σ : Nat → Value} : G1 W0 b s Fr Fu (Array.replicate n false) σ W0.drew :=
  ⟨bl_drewN W0 1, fun h => by rw [rep_false] at h; cases h⟩
theorem G1.keep {W0 : World} {b s i : Nat} {v : Value} {Fr Fu : World → Nat → Prop} {listed : Array Bool} {σ : Nat → Value} {w w' : World} (h : G1 W0 b s Fr Fu listed σ w) (hb : i ≠ b) (hs : i ≠ s)
    (hw : Below w.heap.size w w') (h1 : ∀ g, Fr w g → Fr w' g) (h2 : ∀ g, Fu w g → Fu w' g) : G1 W0 b s Fr Fu (listed.setIfInBounds i true) (upd σ i v) w' := by
  refine ⟨h.1.next hw, fun hl => ?_⟩
  rw [getD_set_ne false hb] at hl
  obtain ⟨g, e, hg, ha, hc⟩ := h.2 hl
  rw [upd_ne σ v (Ne.symm hb), getD_set_ne false hs]
  exact ⟨g, e, hg, fun hh => h1 g (ha hh), fun hh => h2 g (hc hh)⟩
theorem G1.same {W0 : World} {b s i : Nat} {v : Value} {Fr Fu : World → Nat → Prop} {listed : Array Bool} {σ : Nat → Value} {w : World} (h : G1 W0 b s Fr Fu listed σ w) (hb : i ≠ b) (hs : i ≠ s) : G1 W0 b s Fr Fu (listed.setIfInBounds i true) (upd σ i v) w :=
  h.keep hb hs (Below.refl _ _) (fun _ h => h) (fun _ h => h)
theorem G1.made {W0 : World} {b s g : Nat} {Fr Fu : World → Nat → Prop} {listed : Array Bool} {σ : Nat → Value} {w w' : World} (h : G1 W0 b s Fr Fu listed σ w) (hs : b ≠ s) (hl : listed.getD s false = false)
    (hw : Below w.heap.size w w') (hg : W0.heap.size ≤ g) (hf : Fr w' g) : G1 W0 b s Fr Fu (listed.setIfInBounds b true) (upd σ b (.pointer (some ⟨g, 0, none⟩))) w' := by
  refine ⟨h.1.next hw, fun _ => ⟨g, upd_self _ _ _, hg, fun _ => hf, fun hh => ?_⟩⟩
  rw [getD_set_ne false hs, hl] at hh
  cases hh
theorem G1.filled {W0 : World} {b s : Nat} {v : Value} {Fr Fu : World → Nat → Prop} {listed : Array Bool} {σ : Nat → Value} {w w' : World} (h : G1 W0 b s Fr Fu listed σ w) (hs : s ≠ b) (hz : s < listed.size)
    (hw : Below W0.heap.size W0 w') (hf : ∀ g, σ b = .pointer (some ⟨g, 0, none⟩) → Fu w' g) : G1 W0 b s Fr Fu (listed.setIfInBounds s true) (upd σ s v) w' := by
  refine ⟨hw, fun hl => ?_⟩
  rw [getD_set_ne false hs] at hl
  obtain ⟨g, e, hg, -, -⟩ := h.2 hl
  rw [upd_ne σ v (Ne.symm hs)]
  refine ⟨g, e, hg, fun hh => ?_, fun _ => hf g e⟩
  simp [hz] at hh
theorem Guarded.none {a : Act} {o : Oper} {w : World} {R : Value → World → Prop} {D : Prop} (h : o.guard = none) (hD : D) : Guarded ops a o w R D := by
  unfold Guarded
  rw [h]
  exact hD
theorem lt_unlisted {listed : Array Bool} {i : Nat} (h : listed.getD i true = false) : i < listed.size := by
  rcases Nat.lt_or_ge i listed.size with h1 | h1
  · exact h1
  · simp [Array.getElem?_eq_none h1] at h
theorem unlisted {listed : Array Bool} {i : Nat} (h : listed.getD i true = false) : listed.getD i false = false := by
  have := lt_unlisted h
  simp [this] at h ⊢
  exact h
theorem closed_un {md : Region.Mode} {listed : Array Bool} {i k : Nat} (hc : ClosedL md ops listed) (hi : listed.getD i true = false) (hw : ((ops[k]?).map fun o => o.after.any fun e => e.on == i && Region.binds md e) = some true) : listed.getD k false = false := by
  cases hk : listed.getD k false with
  | false => rfl
  | true =>
    cases ho : ops[k]? with
    | none => rw [ho] at hw; cases hw
    | some o =>
      rw [ho] at hw
      simp only [Option.map_some, Option.some.injEq] at hw
      obtain ⟨x, hx, h1⟩ := Array.any_eq_true.1 hw
      simp only [Bool.and_eq_true, beq_iff_eq] at h1
      have h2 := hc k o ho hk _ (Array.getElem_mem hx) h1.2
      rw [h1.1] at h2
      exact (getD_flip h2 hi).elim
end
end Go.Proofs.Ytljocjjdfgpbaaa
