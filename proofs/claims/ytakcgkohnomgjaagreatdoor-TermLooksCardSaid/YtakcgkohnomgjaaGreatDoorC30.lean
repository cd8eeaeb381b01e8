/- Texts of one seat, put together: LSame Region3. -/
import Derived.Test.YtakcgkohnomgjaaGreatDoorC29
import Derived.Test.YtakcgkohnomgjaaGreatDoorC16
import Derived.Test.YtakcgkohnomgjaaGreatDoorC19
set_option linter.unusedVariables false
set_option linter.unusedSimpArgs false
/- plumblinelaw03.same of equal plain terms. -/
namespace Go.Proofs.YtakcgkohnomgjaaGreatDoor
open Go.RowKit
open Tm

set_option maxRecDepth 100000 in
set_option maxHeartbeats 2000000 in
theorem lsame_yes (v u : Value) (L : List (Int × Int)) (K : Int) (k ku : Nat) (w0 : World) (hv : TRes w0 v L K k) (hu : TRes w0 u L K ku) (hL : norm L = L) (hl : L.length ≤ 1099511) (hk : k ≤ 1099511627) : Calls Tryz.prog 16 #[v, u] w0 (YesPost w0) := by
  have hv0 := hv
  have hu0 := hu
  obtain ⟨A, n, c, s, B, m, d, rfl, -⟩ := hv
  obtain ⟨A2, n2, c2, s2, B2, m2, d2, rfl, -⟩ := hu
  obtain ⟨z0, z1, z2, z3⟩ := bstart2 28 28 w0 #[.slice A n c, .bool s, .slice B m d] #[.slice A2 n2 c2, .bool s2, .slice B2 m2 d2]
  go_enter Tryz.func16, Tryz.ntmps16
  go_wp2_with fail
  generalize hW0 : ((w0.alloc (.cells #[.slice A n c, .bool s, .slice B m d] 28)).alloc (.cells #[.slice A2 n2 c2, .bool s2, .slice B2 m2 d2] 28)) = W0 at *
  clear hW0
  have HA := hide (hv0.below z2)
  have HB := hide (hu0.below z2)
  have T0 := hide z2
  have HS := hide (fun W (h : Below W0.heap.size W0 W) => rtsame_yes _ _ L K k ku W (HA.out.below h) (HB.out.below h) hl)
  have HPL := hide (fun W (h : Below W0.heap.size W0 W) => rplain_any _ L K k W ((HA.out.below h).in_) hl hk)
  have HS2 := hide (fun W v (z : TRes W v (norm L) K (k + L.length)) (h : Below W0.heap.size W0 W) => rtsame_yes _ v L K k (k + L.length) W (HA.out.below h) (by rw [hL] at z; exact z) hl)
  unfold YesPost at HS HS2
  unfold TPost at HPL
  have SOF := hide (show ∀ W, Below W0.heap.size W0 W → (W.cell? ⟨w0.heap.size, 0, none⟩ = some (.slice A n c) ∧ W.cell? ⟨w0.heap.size, 1, none⟩ = some (.bool s) ∧ W.cell? ⟨w0.heap.size, 2, none⟩ = some (.slice B m d) ∧ W.cell? ⟨w0.heap.size + 1, 0, none⟩ = some (.slice A2 n2 c2) ∧ W.cell? ⟨w0.heap.size + 1, 1, none⟩ = some (.bool s2) ∧ W.cell? ⟨w0.heap.size + 1, 2, none⟩ = some (.slice B2 m2 d2)) from fun W h => ⟨(z0.next h).c0, (z0.next h).c1, (z0.next h).c2, (z1.next h).c0, (z1.next h).c1, (z1.next h).c2⟩)
  clear z0 z1 z2 z3 hv0 hu0
  refine wp_drawn (by kernel_rfl) (by kernel_rfl) (by kernel_rfl) (fun w w' => Below w.heap.size w w') (fun j v w => match j with | 0 => v = .agg #[.slice A n c, .bool s, .slice B m d] | 1 => v = .agg #[.slice A2 n2 c2, .bool s2, .slice B2 m2 d2] | 2 => v = .bool true | 3 => v = .bool true | 4 => v = .agg #[.slice A n c, .bool s, .slice B m d] | 5 => v = .agg #[.slice A n c, .bool s, .slice B m d] | 6 => TRes w v (norm L) K (k + L.length) | 7 => v = .bool true | 8 => v = .bool true | 9 => v = .bool true | _ => True) (fun _ _ w => Below W0.heap.size W0 w) ?_ (fun _ => bl_drewN W0 1) ?_ ?_
  · intro j v w w' hT h
    match j, h with
    | 0, h => exact h
    | 1, h => exact h
    | 2, h => exact h
    | 3, h => exact h
    | 4, h => exact h
    | 5, h => exact h
    | 6, h => exact h.below hT
    | 7, h => exact h
    | 8, h => exact h
    | 9, h => exact h
    | j + 10, h => trivial
  · refine ⟨?_, ?_, ?_, ?_, ?_, ?_, ?_, ?_, ?_, ?_, trivial⟩
    · intro listed σ w a hin hout hl hc hp hG hF
      refine Guarded.none rfl ?_
      have e2 : a.tmps.getD 2 undef = .pointer (some ⟨w0.heap.size, 0, none⟩) := hout 2 (outB_spec (by kernel_rfl))
      have CC := SOF.out w hG; obtain ⟨C0, C1, C2, D0, D1, D2⟩ := CC
      refine Does.val (.agg #[.slice A n c, .bool s, .slice B m d]) (w' := w) ?_ ⟨Below.refl _ _, rfl, hG⟩
      go_simp
    · intro listed σ w a hin hout hl hc hp hG hF
      refine Guarded.none rfl ?_
      have e3 : a.tmps.getD 3 undef = .pointer (some ⟨w0.heap.size + 1, 0, none⟩) := hout 3 (outB_spec (by kernel_rfl))
      have CC := SOF.out w hG; obtain ⟨C0, C1, C2, D0, D1, D2⟩ := CC
      refine Does.val (.agg #[.slice A2 n2 c2, .bool s2, .slice B2 m2 d2]) (w' := w) ?_ ⟨Below.refl _ _, rfl, hG⟩
      go_simp
    · intro listed σ w a hin hout hl hc hp hG hF
      refine Guarded.none rfl ?_
      have e5 : a.tmps.getD 5 undef = .agg #[.slice A n c, .bool s, .slice B m d] := (hin 0 5 rfl (hp ⟨0, .data⟩ (by simp) rfl)).trans (hF 0 (hp ⟨0, .data⟩ (by simp) rfl))
      have e6 : a.tmps.getD 6 undef = .agg #[.slice A2 n2 c2, .bool s2, .slice B2 m2 d2] := (hin 1 6 rfl (hp ⟨1, .data⟩ (by simp) rfl)).trans (hF 1 (hp ⟨1, .data⟩ (by simp) rfl))
      refine Does.call ?_ (HS.out w hG) ?_
      · go_simp
      · rintro e w' ⟨rfl, hb⟩
        exact ⟨_, rfl, hb, rfl, hG.next hb⟩
    · intro listed σ w a hin hout hl hc hp hG hF
      refine Guarded.none rfl ?_
      have e7 : a.tmps.getD 7 undef = .bool true := (hin 2 7 rfl (hp ⟨2, .data⟩ (by simp) rfl)).trans (hF 2 (hp ⟨2, .data⟩ (by simp) rfl))
      refine Does.val (.bool true) (w' := w) ?_ ⟨Below.refl _ _, rfl, hG⟩
      simp only [Array.getD_eq_getD_getElem?] at e7
      go_simp
    · intro listed σ w a hin hout hl hc hp hG hF
      refine Guarded.some (d := 8) (b := true) rfl rfl ((hin 3 8 rfl (hp ⟨3, .guard⟩ (by simp) rfl)).trans (hF 3 (hp ⟨3, .guard⟩ (by simp) rfl))) ?_
      refine Or.inl ⟨rfl, ?_⟩
      have e2 : a.tmps.getD 2 undef = .pointer (some ⟨w0.heap.size, 0, none⟩) := hout 2 (outB_spec (by kernel_rfl))
      have CC := SOF.out w hG; obtain ⟨C0, C1, C2, D0, D1, D2⟩ := CC
      refine Does.val (.agg #[.slice A n c, .bool s, .slice B m d]) (w' := w) ?_ ⟨Below.refl _ _, rfl, hG⟩
      go_simp
    · intro listed σ w a hin hout hl hc hp hG hF
      refine Guarded.some (d := 8) (b := true) rfl rfl ((hin 3 8 rfl (hp ⟨3, .guard⟩ (by simp) rfl)).trans (hF 3 (hp ⟨3, .guard⟩ (by simp) rfl))) ?_
      refine Or.inl ⟨rfl, ?_⟩
      have e2 : a.tmps.getD 2 undef = .pointer (some ⟨w0.heap.size, 0, none⟩) := hout 2 (outB_spec (by kernel_rfl))
      have CC := SOF.out w hG; obtain ⟨C0, C1, C2, D0, D1, D2⟩ := CC
      refine Does.val (.agg #[.slice A n c, .bool s, .slice B m d]) (w' := w) ?_ ⟨Below.refl _ _, rfl, hG⟩
      go_simp
    · intro listed σ w a hin hout hl hc hp hG hF
      refine Guarded.some (d := 8) (b := true) rfl rfl ((hin 3 8 rfl (hp ⟨3, .guard⟩ (by simp) rfl)).trans (hF 3 (hp ⟨3, .guard⟩ (by simp) rfl))) ?_
      refine Or.inl ⟨rfl, ?_⟩
      have e10 : a.tmps.getD 10 undef = .agg #[.slice A n c, .bool s, .slice B m d] := (hin 5 10 rfl (hp ⟨5, .data⟩ (by simp) rfl)).trans (hF 5 (hp ⟨5, .data⟩ (by simp) rfl))
      refine Does.call ?_ (HPL.out w hG) ?_
      · go_simp
      · rintro e w' ⟨v, rfl, z, hb⟩
        exact ⟨_, rfl, hb, z, hG.next hb⟩
    · intro listed σ w a hin hout hl hc hp hG hF
      refine Guarded.some (d := 8) (b := true) rfl rfl ((hin 3 8 rfl (hp ⟨3, .guard⟩ (by simp) rfl)).trans (hF 3 (hp ⟨3, .guard⟩ (by simp) rfl))) ?_
      refine Or.inl ⟨rfl, ?_⟩
      have e9 : a.tmps.getD 9 undef = .agg #[.slice A n c, .bool s, .slice B m d] := (hin 4 9 rfl (hp ⟨4, .data⟩ (by simp) rfl)).trans (hF 4 (hp ⟨4, .data⟩ (by simp) rfl))
      have e11 := hin 6 11 rfl (hp ⟨6, .data⟩ (by simp) rfl)
      have z6 := hF 6 (hp ⟨6, .data⟩ (by simp) rfl)
      refine Does.call ?_ (HS2.out w _ z6 hG) ?_
      · go_simp
      · rintro e w' ⟨rfl, hb⟩
        exact ⟨_, rfl, hb, rfl, hG.next hb⟩
    · intro listed σ w a hin hout hl hc hp hG hF
      refine Guarded.none rfl ?_
      have e8 : a.tmps.getD 8 undef = .bool true := (hin 3 8 rfl (hp ⟨3, .data⟩ (by simp) rfl)).trans (hF 3 (hp ⟨3, .data⟩ (by simp) rfl))
      have e12 : a.tmps.getD 12 undef = .bool true := (hin 7 12 rfl (hp ⟨7, .data⟩ (by simp) rfl)).trans (hF 7 (hp ⟨7, .data⟩ (by simp) rfl))
      refine Does.val (.bool true) (w' := w) ?_ ⟨Below.refl _ _, rfl, hG⟩
      simp only [Array.getD_eq_getD_getElem?] at e8 e12
      go_simp
    · intro listed σ w a hin hout hl hc hp hG hF
      refine Guarded.none rfl ?_
      have e13 : a.tmps.getD 13 undef = .bool true := (hin 8 13 rfl (hp ⟨8, .data⟩ (by simp) rfl)).trans (hF 8 (hp ⟨8, .data⟩ (by simp) rfl))
      refine Does.val (.bool true) (w' := w) ?_ ⟨Below.refl _ _, rfl, hG⟩
      simp only [Array.getD_eq_getD_getElem?] at e13
      go_simp
  · intro listed σ W9 hall hG hF
    rw [show mid _ σ listed _ = (Act.put (Act.put (Act.put (Act.put (Act.put (Act.put (Act.put (Act.put (Act.put (Act.put _ (some 5) (σ 0)) (some 6) (σ 1)) (some 7) (σ 2)) (some 8) (σ 3)) (some 9) (σ 4)) (some 10) (σ 5)) (some 11) (σ 6)) (some 12) (σ 7)) (some 13) (σ 8)) (some 4) (σ 9)) from (mid_all hall).trans rfl]
    generalize σ 0 = tt0
    generalize σ 1 = tt1
    generalize σ 2 = tt2
    generalize σ 3 = tt3
    generalize σ 4 = tt4
    generalize σ 5 = tt5
    generalize σ 6 = tt6
    generalize σ 7 = tt7
    generalize σ 8 = tt8
    rw [show σ 9 = .bool true from hF 9 (by decide)]
    simp only [Act.put, List.setIfInBounds_toArray, List.set_cons_zero, List.set_cons_succ]
    have TG := hG
    clear hF hG hall
    clear σ
    have HE := hide (T0.out.next TG)
    clear TG SOF HS HS2 HPL
    go_wp2_with fail
    go_ret
    exact ⟨rfl, HE.out⟩
end Go.Proofs.YtakcgkohnomgjaaGreatDoor
/- Regions by facts (3): one operation (an append to a list made in the region) turns what other facts speak of; facts that are wanted until it has come up. -/
namespace Go.Proofs.YtakcgkohnomgjaaGreatDoor
open Go.RowKit

section
variable {P : Program} {ops : Array Oper} {Q : Exit → Act → World → Prop}
/-- As StepQ, but all facts are shown anew behind the operation. -/
def StepP (P : Program) (ops : Array Oper) (a0 : Act) (F : Nat → Value → World → Prop) (G : Array Bool → (Nat → Value) → World → Prop) (i : Nat) (o : Oper) : Prop :=
  ∀ (listed : Array Bool) (σ : Nat → Value) (w : World) (a : Act), (∀ j t, dstOf ops j = some t → listed.getD j false = true → a.tmps.getD t undef = σ j) → (∀ t, (∀ j, dstOf ops j = some t → listed.getD j false = false) → a.tmps.getD t undef = a0.tmps.getD t undef) →
    listed.getD i true = false → ClosedL .any ops listed → (∀ e ∈ o.after, Region.binds .any e = true → listed.getD e.on false = true) → G listed σ w → (∀ j, listed.getD j false = true → F j (σ j) w) →
    Guarded ops a o w (fun v w' => (∀ j, listed.getD j false = true → F j (σ j) w') ∧ F i v w' ∧ G (listed.setIfInBounds i true) (upd σ i v) w') (Does P a o w (fun v w' => (∀ j, listed.getD j false = true → F j (σ j) w') ∧ F i v w' ∧ G (listed.setIfInBounds i true) (upd σ i v) w'))
def StepX (P : Program) (ops : Array Oper) (a0 : Act) (T : World → World → Prop) (F : Nat → Value → World → Prop) (G : Array Bool → (Nat → Value) → World → Prop) (app : Nat) (i : Nat) (o : Oper) : Prop :=
  (i ≠ app → StepQ P ops a0 T F G i o) ∧ (i = app → StepP P ops a0 F G i o)
theorem stepX_next {a0 : Act} {T : World → World → Prop} {F : Nat → Value → World → Prop} {G : Array Bool → (Nat → Value) → World → Prop} {app : Nat} (ho : ownB ops a0.tmps.size = true) (hF : ∀ j v w w', T w w' → F j v w → F j v w')
    (hstep : Each (StepX P ops a0 T F G app) 0 ops.toList) {K : Act → World → Prop} {i : Nat} {o : Oper} {listed : Array Bool} {σ : Nat → Value} {w : World} (hio : ops[i]? = some o) (hl : listed.getD i true = false) (hc : ClosedL .any ops listed)
    (hp : ∀ e ∈ o.after, Region.binds .any e = true → listed.getD e.on false = true) (hG : G listed σ w) (hF1 : ∀ j, listed.getD j false = true → F j (σ j) w)
    (hK : ∀ σ' w', G (listed.setIfInBounds i true) σ' w' → (∀ j, (listed.setIfInBounds i true).getD j false = true → F j (σ' j) w') → K (mid ops σ' (listed.setIfInBounds i true) a0) w') : wpOp P ops Q i K (mid ops σ listed a0) w := by
  have hlt : i < ops.size := (Array.getElem?_eq_some_iff.1 hio).1
  have h1 := Each.get ops.toList 0 hstep i o (by simpa using hio)
  rw [Nat.zero_add] at h1
  have hd : o.dst = dstOf ops i := by simp [dstOf, hio]
  have fin : ∀ v w', (∀ j, listed.getD j false = true → F j (σ j) w') ∧ F i v w' ∧ G (listed.setIfInBounds i true) (upd σ i v) w' → K ((mid ops σ listed a0).put o.dst v) w' := by
    rintro v w' ⟨hT, hFi, hG'⟩
    rw [hd, show (mid ops σ listed a0).put (dstOf ops i) v = mid ops (upd σ i v) (listed.setIfInBounds i true) a0 from (fill_set ho hlt hl _ _ List.nodup_range (fun j hj => List.mem_range.1 hj) (List.mem_range.2 hlt)).symm]
    refine hK _ _ hG' (fun j hj => ?_)
    by_cases hji : j = i
    · subst hji; rw [upd_self]; exact hFi
    · rw [upd_ne σ v hji]
      rw [getD_set_ne false (Ne.symm hji)] at hj
      exact hT j hj
  by_cases hi : i = app
  · exact Guarded.step hio (h1.2 hi listed σ w (mid ops σ listed a0) (fun j t hd hj => mid_in ho hd hj) (fun t ht => mid_un ht) hl hc hp hG hF1) fin
  · exact Guarded.step hio (h1.1 hi listed σ w (mid ops σ listed a0) (fun j t hd hj => mid_in ho hd hj) (fun t ht => mid_un ht) (unlisted hl) hc hp hG hF1) (fun v w' ⟨hT, hFi, hG'⟩ => fin v w' ⟨fun j hj => hF j _ _ _ hT (hF1 j hj), hFi, hG'⟩)
/-- A region that draws its order, with one operation that is shown by hand. -/
theorem wp_drawnX (app : Nat) {id : Nat} {a0 : Act} {w : World} (hm : P.follows .mixedOrders = true) (hb : backB ops = true) (ho : ownB ops a0.tmps.size = true) (T : World → World → Prop) (F : Nat → Value → World → Prop) (G : Array Bool → (Nat → Value) → World → Prop)
    (hF : ∀ j v w w', T w w' → F j v w → F j v w') (h0 : ∀ σ, G (Array.replicate ops.size false) σ w.drew)
    (hstep : Each (StepX P ops a0 T F G app) 0 ops.toList)
    (hend : ∀ (listed : Array Bool) (σ : Nat → Value) (w : World), AllOn ops.size listed → G listed σ w → (∀ j, j < ops.size → F j (σ j) w) → Q .normal (mid ops σ listed a0) w) : (Code.region id ops true).wp P Q a0 w := by
  refine wp_region_inv hm hb (fun listed a w => ∃ σ, a = mid ops σ listed a0 ∧ G listed σ w ∧ ∀ j, listed.getD j false = true → F j (σ j) w) ?_ ?_ ?_
  · exact ⟨fun _ => undef, (mid_none a0).symm, h0 _, fun j hj => by rw [rep_false] at hj; cases hj⟩
  · rintro i o listed a w hio hs hl hc hp ⟨σ, rfl, hG, hF1⟩
    exact stepX_next ho hF hstep hio hl hc hp hG hF1 (fun σ' w' hG' hF' => ⟨σ', rfl, hG', hF'⟩)
  · rintro listed a w hs hall ⟨σ, rfl, hG, hF1⟩
    exact hend listed σ w hall hG (fun j hj => hF1 j (hall j hj))
end
/-- What lay there stays; until app has come up, M holds of what has. -/
def GM (app : Nat) (M : Nat → Value → World → Prop) (W0 : World) (listed : Array Bool) (σ : Nat → Value) (w : World) : Prop :=
  Below W0.heap.size W0 w ∧ (listed.getD app false = false → ∀ j, listed.getD j false = true → M j (σ j) w)
theorem GM.start {app n : Nat} {M : Nat → Value → World → Prop} {W0 w : World} {σ : Nat → Value} (hb : Below W0.heap.size W0 w) : GM app M W0 (Array.replicate n false) σ w :=
  ⟨hb, fun _ j hj => by rw [rep_false] at hj; cases hj⟩
theorem GM.next {app i : Nat} {M : Nat → Value → World → Prop} {W0 w w' : World} {listed : Array Bool} {σ : Nat → Value} {v : Value} (h : GM app M W0 listed σ w) (hM : ∀ j v w w', Below w.heap.size w w' → M j v w → M j v w') (hne : i ≠ app) (hb : Below w.heap.size w w')
    (hi : listed.getD app false = false → M i v w') : GM app M W0 (listed.setIfInBounds i true) (upd σ i v) w' := by
  refine ⟨h.1.next hb, fun hu j hj => ?_⟩
  rw [getD_set_ne false hne] at hu
  by_cases hji : j = i
  · subst hji; rw [upd_self]; exact hi hu
  · rw [upd_ne σ v hji]
    rw [getD_set_ne false (Ne.symm hji)] at hj
    exact hM j _ _ _ hb (h.2 hu j hj)
theorem GM.on_ {app : Nat} {M : Nat → Value → World → Prop} {W0 w' : World} {listed : Array Bool} {σ : Nat → Value} (hl : listed.getD app true = false) (hb : Below W0.heap.size W0 w') : GM app M W0 (listed.setIfInBounds app true) σ w' := by
  refine ⟨hb, fun hu => ?_⟩
  have hlt := lt_unlisted hl
  simp [hlt] at hu
/-- A list of parts of the call's own, and what it reads as. -/
def OwnParts (w : World) (base : Nat) (v : Value) (n : Nat) (L : List (Int × Int)) (k : Nat) : Prop := ∃ rs : List PV, LRow 55 3 w base v n (flat rs) ∧ rs.length = n ∧ lin rs = L ∧ ∀ p ∈ rs, ZRes w p.num p.Z k
theorem OwnParts.below {w w' : World} {base n k : Nat} {v : Value} {L : List (Int × Int)} (h : OwnParts w base v n L k) (hb : Below w.heap.size w w') : OwnParts w' base v n L k := by
  obtain ⟨rs, h1, h2, h3, h4⟩ := h
  exact ⟨rs, h1.below hb, h2, h3, fun p hp => (h4 p hp).below hb⟩
theorem LRow.offT {T : TypeId} {w : World} {base n g : Nat} {v : Value} {xs : List Value} {cs : Array Value} (h : LRow 55 3 w base v n xs) (hb : Box T w g cs) (hT : T ≠ 55) : some g ≠ v.ownBlock := by
  intro e
  rcases h.2 with ⟨rfl, _⟩ | ⟨g', cap, cur, rfl, _, hh, _⟩
  · cases e
  · injection e with e
    have e' : g = g' := e
    subst e'
    unfold Box at hb
    rw [hh] at hb
    injection hb with hb
    injection hb with _ ht
    exact hT ht.symm
end Go.Proofs.YtakcgkohnomgjaaGreatDoor
