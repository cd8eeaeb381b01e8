/- Texts of one seat, put together: Region3 LOf Summing TermMathC. -/
import Derived.Test.YtdeakieenppmiaaGreatB15
import Derived.Test.YtdeakieenppmiaaGreatB18
import Derived.Test.YtdeakieenppmiaaGreatB26
import Derived.Test.YtdeakieenppmiaaGreatB23
import Derived.Test.YtdeakieenppmiaaGreatB17
set_option linter.unusedVariables false
/- Regions by facts (3): one operation (an append to a list made in the region) turns what other facts speak of; facts that are wanted until it has come up. -/
namespace Go.Proofs.YtdeakieenppmiaaGreat
open Go.RowKit

section
variable {P : Program} {ops : Array Oper} {Q : Exit → Act → World → Prop}
/-- As StepQ, but all facts are shown anew behind the operation. -/
def StepP (P : Program) (ops : Array Oper) (a0 : Act) (F : Nat → Value → World → Prop) (G : Array Bool → (Nat → Value) → World → Prop) (i : Nat) (o : Oper) : Prop :=
  ∀ (listed : Array Bool) (σ : Nat → Value) (w : World) (a : Act), (∀ j t, dstOf ops j = some t → listed.getD j false = true → a.tmps.getD t undef = σ j) → (∀ t, (∀ j, dstOf ops j = some t → listed.getD j false = false) → a.tmps.getD t undef = a0.tmps.getD t undef) →
    listed.getD i true = false → ClosedL .any ops listed → (∀ e ∈ o.after, Region.binds .any e = true → listed.getD e.on false = true) → G listed σ w → (∀ j, listed.getD j false = true → F j (σ j) w) →
    Guarded ops a o w (fun v w' => (∀ j, listed.getD j false = true → F j (σ j) w') ∧ F i v w' ∧ G (listed.setIfInBounds i true) (upd σ i v) w') (Does P a o w (fun v w' => (∀ j, listed.getD j false = true → F j (σ j) w') ∧ F i v w' ∧ G (listed.setIfInBounds i true) (upd σ i v) w'))
def StepX (P : Program) (ops : Array Oper) (a0 : Act) (T : World → World → Prop) (F : Nat → Value → World → Prop) (G : Array Bool → (Nat → Value) → World → Prop) (app : Nat) (i : Nat) (o : Oper) : Prop :=
  (i ≠ app → StepQ P ops a0 T F G i o) ∧ (i = app → StepP P ops a0 F G i o)
theorem stepX_next {a0 : Act} {T : World → World → Prop} {F : Nat → Value → World → Prop} {G : Array Bool → (Nat → Value) → World → Prop} {app : Nat} (ho : ownB ops a0.tmps.size = true) (hF : ∀ j v w w', T w w' → F j v w → F j v w')
    (hstep : Each (StepX P ops a0 T F G app) 0 ops.toList) {K : Act → World → Prop} {i : Nat} {o : Oper} {listed : Array Bool} {σ : Nat → Value} {w : World} (hio : ops[i]? = some o) (hl : listed.getD i true = false) (hc : ClosedL .any ops listed)
    (hp : ∀ e ∈ o.after, Region.binds .any e = true → listed.getD e.on false = true) (hG : G listed σ w) (hF1 : ∀ j, listed.getD j false = true → F j (σ j) w)
    (hK : ∀ σ' w', G (listed.setIfInBounds i true) σ' w' → (∀ j, (listed.setIfInBounds i true).getD j false = true → F j (σ' j) w') → K (mid ops σ' (listed.setIfInBounds i true) a0) w') : wpOp P ops Q i K (mid ops σ listed a0) w := by
  have hlt : i < ops.size := (Array.getElem?_eq_some_iff.1 hio).1
  have h1 := Each.get ops.toList 0 hstep i o (by simpa using hio)
  rw [Nat.zero_add] at h1
  have hd : o.dst = dstOf ops i := by simp [dstOf, hio]
  have fin : ∀ v w', (∀ j, listed.getD j false = true → F j (σ j) w') ∧ F i v w' ∧ G (listed.setIfInBounds i true) (upd σ i v) w' → K ((mid ops σ listed a0).put o.dst v) w' := by
    rintro v w' ⟨hT, hFi, hG'⟩
    rw [hd, show (mid ops σ listed a0).put (dstOf ops i) v = mid ops (upd σ i v) (listed.setIfInBounds i true) a0 from (fill_set ho hlt hl _ _ List.nodup_range (fun j hj => List.mem_range.1 hj) (List.mem_range.2 hlt)).symm]
    refine hK _ _ hG' (fun j hj => ?_)
    by_cases hji : j = i
    · subst hji; rw [upd_self]; exact hFi
    · rw [upd_ne σ v hji]
      rw [getD_set_ne false (Ne.symm hji)] at hj
      exact hT j hj
  by_cases hi : i = app
  · exact Guarded.step hio (h1.2 hi listed σ w (mid ops σ listed a0) (fun j t hd hj => mid_in ho hd hj) (fun t ht => mid_un ht) hl hc hp hG hF1) fin
  · exact Guarded.step hio (h1.1 hi listed σ w (mid ops σ listed a0) (fun j t hd hj => mid_in ho hd hj) (fun t ht => mid_un ht) (unlisted hl) hc hp hG hF1) (fun v w' ⟨hT, hFi, hG'⟩ => fin v w' ⟨fun j hj => hF j _ _ _ hT (hF1 j hj), hFi, hG'⟩)
/-- A region that draws its order, with one operation that is shown by hand. -/
theorem wp_drawnX (app : Nat) {id : Nat} {a0 : Act} {w : World} (hm : P.follows .mixedOrders = true) (hb : backB ops = true) (ho : ownB ops a0.tmps.size = true) (T : World → World → Prop) (F : Nat → Value → World → Prop) (G : Array Bool → (Nat → Value) → World → Prop)
    (hF : ∀ j v w w', T w w' → F j v w → F j v w') (h0 : ∀ σ, G (Array.replicate ops.size false) σ w.drew)
    (hstep : Each (StepX P ops a0 T F G app) 0 ops.toList)
    (hend : ∀ (listed : Array Bool) (σ : Nat → Value) (w : World), AllOn ops.size listed → G listed σ w → (∀ j, j < ops.size → F j (σ j) w) → Q .normal (mid ops σ listed a0) w) : (Code.region id ops true).wp P Q a0 w := by
  refine wp_region_inv hm hb (fun listed a w => ∃ σ, a = mid ops σ listed a0 ∧ G listed σ w ∧ ∀ j, listed.getD j false = true → F j (σ j) w) ?_ ?_ ?_
  · exact ⟨fun _ => undef, (mid_none a0).symm, h0 _, fun j hj => by rw [rep_false] at hj; cases hj⟩
  · rintro i o listed a w hio hs hl hc hp ⟨σ, rfl, hG, hF1⟩
    exact stepX_next ho hF hstep hio hl hc hp hG hF1 (fun σ' w' hG' hF' => ⟨σ', rfl, hG', hF'⟩)
  · rintro listed a w hs hall ⟨σ, rfl, hG, hF1⟩
    exact hend listed σ w hall hG (fun j hj => hF1 j (hall j hj))
end
/-- What lay there stays; until app has come up, M holds of what has. -/
def GM (app : Nat) (M : Nat → Value → World → Prop) (W0 : World) (listed : Array Bool) (σ : Nat → Value) (w : World) : Prop :=
  Below W0.heap.size W0 w ∧ (listed.getD app false = false → ∀ j, listed.getD j false = true → M j (σ j) w)
theorem GM.start {app n : Nat} {M : Nat → Value → World → Prop} {W0 w : World} {σ : Nat → Value} (hb : Below W0.heap.size W0 w) : GM app M W0 (Array.replicate n false) σ w :=
  ⟨hb, fun _ j hj => by rw [rep_false] at hj; cases hj⟩
theorem GM.next {app i : Nat} {M : Nat → Value → World → Prop} {W0 w w' : World} {listed : Array Bool} {σ : Nat → Value} {v : Value} (h : GM app M W0 listed σ w) (hM : ∀ j v w w', Below w.heap.size w w' → M j v w → M j v w') (hne : i ≠ app) (hb : Below w.heap.size w w')
    (hi : listed.getD app false = false → M i v w') : GM app M W0 (listed.setIfInBounds i true) (upd σ i v) w' := by
  refine ⟨h.1.next hb, fun hu j hj => ?_⟩
  rw [getD_set_ne false hne] at hu
  by_cases hji : j = i
  · subst hji; rw [upd_self]; exact hi hu
  · rw [upd_ne σ v hji]
    rw [getD_set_ne false (Ne.symm hji)] at hj
    exact hM j _ _ _ hb (h.2 hu j hj)
theorem GM.on_ {app : Nat} {M : Nat → Value → World → Prop} {W0 w' : World} {listed : Array Bool} {σ : Nat → Value} (hl : listed.getD app true = false) (hb : Below W0.heap.size W0 w') : GM app M W0 (listed.setIfInBounds app true) σ w' := by
  refine ⟨hb, fun hu => ?_⟩
  have hlt := lt_unlisted hl
  simp [hlt] at hu
/-- A list of parts of the call's own, and what it reads as. -/
def OwnParts (w : World) (base : Nat) (v : Value) (n : Nat) (L : List (Int × Int)) (k : Nat) : Prop := ∃ rs : List PV, LRow 51 3 w base v n (flat rs) ∧ rs.length = n ∧ lin rs = L ∧ ∀ p ∈ rs, ZRes w p.num p.Z k
theorem OwnParts.below {w w' : World} {base n k : Nat} {v : Value} {L : List (Int × Int)} (h : OwnParts w base v n L k) (hb : Below w.heap.size w w') : OwnParts w' base v n L k := by
  obtain ⟨rs, h1, h2, h3, h4⟩ := h
  exact ⟨rs, h1.below hb, h2, h3, fun p hp => (h4 p hp).below hb⟩
theorem LRow.offT {T : TypeId} {w : World} {base n g : Nat} {v : Value} {xs : List Value} {cs : Array Value} (h : LRow 51 3 w base v n xs) (hb : Box T w g cs) (hT : T ≠ 51) : some g ≠ v.ownBlock := by
  intro e
  rcases h.2 with ⟨rfl, _⟩ | ⟨g', cap, cur, rfl, _, hh, _⟩
  · cases e
  · injection e with e
    have e' : g = g' := e
    subst e'
    unfold Box at hb
    rw [hh] at hb
    injection hb with hb
    injection hb with _ ht
    exact hT ht.symm
end Go.Proofs.YtdeakieenppmiaaGreat
/- plumblinelaw03.of. -/
namespace Go.Proofs.YtdeakieenppmiaaGreat
open Go.RowKit
open Tm

theorem Box.ints {T : TypeId} {w : World} {g : Nat} {xs : List Int} (h : Box T w g (ints xs).toArray) : IIn w (some ⟨g, 0, none⟩) xs.length xs :=
  ⟨rfl, fun _ => ⟨g, 0, rfl, fun j u hu => by rw [Nat.zero_add]; exact h.cell j u (by simpa using hu)⟩⟩
theorem IIn.none (w : World) : IIn w none 0 [] := ⟨rfl, fun h => absurd h (by omega)⟩
/-- A term whose parts are a list of the call's own. -/
def OfPost (L : List (Int × Int)) (n : Nat) (K : Int) (k : Nat) (w : World) (e : Ending) (w' : World) : Prop :=
  ∃ A c s B m d, e = .returned (.agg #[.slice A n c, .bool s, .slice B m d]) ∧ OwnParts w' w.heap.size (.slice A n c) n L k ∧ n ≤ c ∧ c ≤ 9223372036854775807 ∧ ZRes w' (.agg #[.bool s, .slice B m d]) K k ∧ Below w.heap.size w w'
theorem OwnParts.res {w : World} {base n c k : Nat} {A : Option Addr} {L : List (Int × Int)} (h : OwnParts w base (.slice A n c) n L k) : PRes w A n L k := by
  obtain ⟨rs, h1, h2, h3, h4⟩ := h
  exact ⟨rs, h1.parts h2 (fun p hp => (h4 p hp).in_), h3, h4⟩
theorem OwnParts.rebase {w : World} {base base' n k : Nat} {v : Value} {L : List (Int × Int)} (h : OwnParts w base v n L k) (hb : base' ≤ base) : OwnParts w base' v n L k := by
  obtain ⟨rs, h1, h2, h3, h4⟩ := h
  exact ⟨rs, h1.rebase hb, h2, h3, h4⟩
theorem OfPost.res {L : List (Int × Int)} {n k : Nat} {K : Int} {w : World} {e : Ending} {w' : World} (h : OfPost L n K k w e w') : TPost L K k w e w' := by
  obtain ⟨A, c, s, B, m, d, rfl, h1, h2, h3, h4, h5⟩ := h
  exact ⟨_, rfl, ⟨A, n, c, s, B, m, d, rfl, h1.res, h2, h3, h4⟩, h5⟩
/-- The parts that `of` makes. -/
def ofs (xs : List Int) : List (Int × Int) := xs.mapIdx fun i x => ((i : Int), x)
theorem ofs_get (xs : List Int) (q : Nat) (x : Int) (h : xs[q]? = some x) : (ofs xs)[q]? = some ((q : Int), x) := by simp [ofs, h]
theorem ofs_length (xs : List Int) : (ofs xs).length = xs.length := by simp [ofs]
set_option maxRecDepth 100000 in
set_option maxHeartbeats 4000000 in
theorem lof_own (K : Int) (A : Option Addr) (n c : Nat) (xs : List Int) (w0 : World) (hx : IIn w0 A n xs) (hk1 : -9223372036854775808 ≤ K) (hk2 : K ≤ 9223372036854775807) (hxs : ∀ x ∈ xs, -9223372036854775808 ≤ x ∧ x ≤ 9223372036854775807) (hn1 : n ≤ 1099511) : Calls Tryz.prog 23 #[.int .i64 K, .slice A n c] w0 (OfPost (ofs xs) n K 2 w0) := by
  have hln : xs.length = n := hx.1
  obtain ⟨z0, z1, z2⟩ := bstart1 28 w0 #[.slice none 0 0, .bool false, .slice none 0 0]
  have hcl := rof_z K (w0.alloc (.cells #[.slice none 0 0, .bool false, .slice none 0 0] 28)) hk1 hk2
  go_enter Tryz.func23, Tryz.ntmps23
  go_wp2_with fail
  refine hcl.mono ?_
  rintro e w1 ⟨v1, rfl, r1, b1⟩
  obtain ⟨s1, A1, n1, c1, rfl⟩ := r1.form
  have t1 := z1.next b1
  have q0 := z0.next b1
  have hz3 := hide (show w0.heap.size + 1 ≤ w1.heap.size by have := b1.size; simp at this; omega)
  obtain ⟨y0, y1, y2⟩ := bstart1 28 w1 #[.slice none 0 0, .bool s1, .slice A1 n1 c1]
  have HR1 := hide (r1.below y1)
  have XB := hide y0
  have XR := hide (q0.next y1)
  have HW1 := hide (t1.next y1)
  have HI := hide hx
  have HLN := hide hln
  clear hcl r1 t1 q0 y0 y1 y2 z0 z1 z2 b1 hx hln
  go_wp2_with fail
  generalize hW1 : w1.alloc (.cells #[.slice none 0 0, .bool s1, .slice A1 n1 c1] 28) = W1 at *
  clear hW1
  have HE := hide (show EachRel2 W1 w1.heap.size (ofs xs) K (fun z => z) 2 0 W1 from
    ⟨[], none, 0, s1, A1, n1, c1, XB.out, LRow.nil _ _ _ _, rfl, rfl, fun p hp => by simp at hp, HR1.out, Only.refl _ _, Kp.refl _⟩)
  go_loopw [6, 7, 13] (fun _ _ i wr => ∃ q : Nat, q ≤ n ∧ i = .int .i64 q ∧ Hid (EachRel2 W1 w1.heap.size (ofs xs) K (fun z => z) 2 q wr)) (fun _ _ i _ => n - (intOf i).toNat)
  case atStart => exact ⟨0, Nat.zero_le _, rfl, HE⟩
  case round =>
    obtain ⟨q, hq, rfl, HR⟩ := hrel
    obtain ⟨rs, A4, c4, s4, B4, m4, d4, xg, lr, hrl, hlin, hrz, zK, oW, kW⟩ := HR.out
    have hT : Below w0.heap.size w0 wr := HW1.out.trans (oW.below HW1.out.size (by have := hz3.out; omega))
    by_cases hqn : q < n
    · obtain ⟨bb, o, x, rfl, hlt, hx, c0⟩ := (HI.out.below hT).at_ hqn
      have hxb := hxs x (List.mem_of_getElem? hx)
      have HLp := hide (ofs_get xs q x hx)
      have HXG := hide xg
      have HL := hide lr
      have HRL := hide hrl
      have HLI := hide hlin
      have HRZ := hide hrz
      have HZK := hide zK
      have HOW := hide oW
      have HKW := hide kW
      have HWS := hide oW.size
      have HTT := hide hT
      have HRW := hide (show ∀ gs, (Value.slice A4 q c4).ownBlock = some gs → gs < wr.heap.size from fun gs e => (lr.lt gs e).2)
      have HF6 := hide (fun W (_ : Below wr.heap.size wr W) => rof_z x W hxb.1 hxb.2)
      have SOF := hide (show ∀ W, Below wr.heap.size wr W → (W.cell? ⟨w1.heap.size, 0, none⟩ = some (.slice A4 q c4)) from fun W h => (HXG.out.next h).c0)
      clear xg lr hrl hlin hrz zK oW kW hT hx hxb HR
      go_wp2_with fail
      clear c0
      refine wp_drawnL (by kernel_rfl) (by kernel_rfl) (by kernel_rfl) (by kernel_rfl) (Tg (Value.slice A4 q c4).ownBlock) (fun j v w => match j with | 0 => v = .pointer (some ⟨w1.heap.size, 0, none⟩) | 1 => v = .slice A4 q c4 | 2 => v = .int .i64 (q : Int) | 3 => v = .int .i64 x | 4 => ∃ s B m d, v = .agg #[.bool s, .slice B m d] ∧ ZRes w (.agg #[.bool s, .slice B m d]) x 2 | 5 => ∃ s B m d, v = .agg #[.int .i64 (q : Int), .bool s, .slice B m d] ∧ ZRes w (.agg #[.bool s, .slice B m d]) x 2 | 6 => ∃ gs s B m d, v = .slice (some ⟨gs, 0, none⟩) 1 1 ∧ wr.heap.size ≤ gs ∧ Box 51 w gs #[.int .i64 (q : Int), .bool s, .slice B m d] ∧ ZRes w (.agg #[.bool s, .slice B m d]) x 2 | 7 => True | 8 => v = .pointer (some ⟨w1.heap.size, 0, none⟩) | _ => True) (GA 7 wr (fun v w => ∃ p2 : PV, p2.v = (q : Int) ∧ p2.Z = x ∧ LRow 51 3 w W1.heap.size v (rs ++ [p2]).length (flat (rs ++ [p2])) ∧ ZRes w p2.num p2.Z 2 ∧ Tg (Value.slice A4 q c4).ownBlock wr w)) ?_ (fun _ => GA.start _ (bl_drewN wr 1)) ?_ ?_
      · intro j v w w' hT h
        match j, h with
        | 0, h => exact h
        | 1, h => exact h
        | 2, h => exact h
        | 3, h => exact h
        | 4, h => exact (by obtain ⟨s, B, m, d, e, z⟩ := h; exact ⟨s, B, m, d, e, z.kp hT.2⟩)
        | 5, h => exact (by obtain ⟨s, B, m, d, e, z⟩ := h; exact ⟨s, B, m, d, e, z.kp hT.2⟩)
        | 6, h => exact (by obtain ⟨gs, s, B, m, d, e, h1, h2, h3⟩ := h; exact ⟨gs, s, B, m, d, e, h1, h2.grown hT.1 (fun e => by have := HRW.out gs e.symm; omega), h3.kp hT.2⟩)
        | 7, h => exact trivial
        | 8, h => exact h
        | j + 9, h => trivial
      · refine ⟨?_, ?_, ?_, ?_, ?_, ?_, ?_, ?_, ?_, trivial⟩
        · intro listed σ w a hin hout hl hla hs hc hp hG hF
          refine Guarded.none rfl ?_
          have e5 : a.tmps.getD 5 undef = .pointer (some ⟨w1.heap.size, 0, none⟩) := hout 5 (outB_spec (by kernel_rfl))
          refine Does.val (.pointer (some ⟨w1.heap.size, 0, none⟩)) (w' := w) ?_ ⟨Tg.refl _ _, rfl, hG.same (by decide)⟩
          simp only [Array.getD_eq_getD_getElem?] at e5
          go_simp
        · intro listed σ w a hin hout hl hla hs hc hp hG hF
          refine Guarded.none rfl ?_
          have e18 : a.tmps.getD 18 undef = .pointer (some ⟨w1.heap.size, 0, none⟩) := (hin 0 18 rfl (hp ⟨0, .data⟩ (by simp) rfl)).trans (hF 0 (hp ⟨0, .data⟩ (by simp) rfl))
          have CC := SOF.out w (hG.1 (un_next (k := 7) hc hl (by kernel_rfl))); obtain C0 := CC
          refine Does.val (.slice A4 q c4) (w' := w) ?_ ⟨Tg.refl _ _, rfl, hG.same (by decide)⟩
          go_simp
        · intro listed σ w a hin hout hl hla hs hc hp hG hF
          refine Guarded.none rfl ?_
          have e6 : a.tmps.getD 6 undef = .int .i64 (q : Int) := hout 6 (outB_spec (by kernel_rfl))
          refine Does.val (.int .i64 (q : Int)) (w' := w) ?_ ⟨Tg.refl _ _, rfl, hG.same (by decide)⟩
          simp only [Array.getD_eq_getD_getElem?] at e6
          go_simp
        · intro listed σ w a hin hout hl hla hs hc hp hG hF
          refine Guarded.none rfl ?_
          have e7 : a.tmps.getD 7 undef = .int .i64 x := hout 7 (outB_spec (by kernel_rfl))
          refine Does.val (.int .i64 x) (w' := w) ?_ ⟨Tg.refl _ _, rfl, hG.same (by decide)⟩
          simp only [Array.getD_eq_getD_getElem?] at e7
          go_simp
        · intro listed σ w a hin hout hl hla hs hc hp hG hF
          refine Guarded.none rfl ?_
          have e21 : a.tmps.getD 21 undef = .int .i64 x := (hin 3 21 rfl (hp ⟨3, .data⟩ (by simp) rfl)).trans (hF 3 (hp ⟨3, .data⟩ (by simp) rfl))
          refine Does.call ?_ (HF6.out w (hG.1 (un_next (k := 7) hc hl (by kernel_rfl)))) ?_
          · go_simp; (try exact eg _ _)
          · rintro e w' ⟨v, rfl, z, hb⟩
            exact ⟨_, rfl, Tg.of_below hb, (by obtain ⟨s, B, m, d, rfl⟩ := z.form; exact ⟨s, B, m, d, rfl, z⟩), hG.call (by decide) (un_next (k := 7) hc hl (by kernel_rfl)) hb⟩
        · intro listed σ w a hin hout hl hla hs hc hp hG hF
          refine Guarded.none rfl ?_
          have e20 : a.tmps.getD 20 undef = .int .i64 (q : Int) := (hin 2 20 rfl (hp ⟨2, .data⟩ (by simp) rfl)).trans (hF 2 (hp ⟨2, .data⟩ (by simp) rfl))
          have e22 := hin 4 22 rfl (hp ⟨4, .data⟩ (by simp) rfl)
          obtain ⟨s4, B4, m4, d4, ev4, z4⟩ := hF 4 (hp ⟨4, .data⟩ (by simp) rfl)
          rw [ev4] at e22
          refine Does.val (.agg #[.int .i64 (q : Int), .bool s4, .slice B4 m4 d4]) (w' := w) ?_ ⟨Tg.refl _ _, ⟨s4, B4, m4, d4, rfl, z4⟩, hG.same (by decide)⟩
          simp only [Array.getD_eq_getD_getElem?] at e20 e22
          go_simp
        · intro listed σ w a hin hout hl hla hs hc hp hG hF
          refine Guarded.none rfl ?_
          have e23 := hin 5 23 rfl (hp ⟨5, .data⟩ (by simp) rfl)
          obtain ⟨s5, B5, m5, d5, ev5, z5⟩ := hF 5 (hp ⟨5, .data⟩ (by simp) rfl)
          rw [ev5] at e23
          refine Does.val (.slice (some ⟨w.heap.size, 0, none⟩) 1 1) (w' := w.alloc (.cells #[.int .i64 (q : Int), .bool s5, .slice B5 m5 d5] 51)) ?_ ⟨Tg.of_below (bl_alloc w _), ⟨w.heap.size, s5, B5, m5, d5, rfl, (hG.1 (un_next (k := 7) hc hl (by kernel_rfl))).size, Box.new _ _ _, z5.alloc _⟩, hG.call (by decide) (un_next (k := 7) hc hl (by kernel_rfl)) (bl_alloc w _)⟩
          simp only [Array.getD_eq_getD_getElem?] at e23
          go_simp
        · intro listed σ w a hin hout hl hla hs hc hp hG hF
          refine Guarded.none rfl ?_
          have e19 : a.tmps.getD 19 undef = .slice A4 q c4 := (hin 1 19 rfl (hp ⟨1, .data⟩ (by simp) rfl)).trans (hF 1 (hp ⟨1, .data⟩ (by simp) rfl))
          have e24 := hin 6 24 rfl (hp ⟨6, .data⟩ (by simp) rfl)
          obtain ⟨g6, s6, B6, m6, d6, ev6, hg6, x6, z6⟩ := hF 6 (hp ⟨6, .data⟩ (by simp) rfl)
          rw [ev6] at e24
          have hl0 := hl
          have hB := hG.1 hl
          have hl := HL.out.below hB
          obtain ⟨i0, hi0, hz0, hz1, hz2⟩ := info_parts part_info
          obtain ⟨v', w', hr, h2, h3⟩ := run_append_lrow (P := Tryz.prog) w W1.heap.size 22 22 51 i0 _ 3 40 Tryz.underlying22 hi0 hz0 hz1 hz2 rfl (by decide) part_zero_nls (.slice A4 q c4) q (flat rs) hl ⟨g6, 0, none⟩ 1 1 (flat [⟨(q : Int), s6, B6, m6, d6, x⟩]) rfl (fun jj u hu => by rw [addr_add, Nat.zero_add]; exact x6.cell jj u (by simpa [flat, PV.cells] using hu)) (flat_one _) (flat_nls _) (by unfold maxLen; omega) (by omega) (Nat.le_trans HWS.out hB.size)
          have hk := hl.kp h3
          refine Does.val v' (w' := w') ?_ ⟨⟨h3, hk⟩, trivial, GA.on_ hl0 (by rw [hs]; decide) ⟨⟨(q : Int), s6, B6, m6, d6, x⟩, rfl, rfl, ?_, z6.kp hk, ⟨World.grownBy.trans2 hB h3, (Kp.of_below hB).trans hk⟩⟩⟩
          · exact exec_append rfl e19 e24 hr
          · rw [flat_append, List.length_append, HRL.out]; exact h2
        · intro listed σ w a hin hout hl hla hs hc hp hG hF
          refine Guarded.none rfl ?_
          have e5 : a.tmps.getD 5 undef = .pointer (some ⟨w1.heap.size, 0, none⟩) := hout 5 (outB_spec (by kernel_rfl))
          refine Does.val (.pointer (some ⟨w1.heap.size, 0, none⟩)) (w' := w) ?_ ⟨Tg.refl _ _, rfl, hG.same (by decide)⟩
          simp only [Array.getD_eq_getD_getElem?] at e5
          go_simp
      · intro o ho
        injection ho with ho; subst ho
        intro listed σ w a hall hin hout hG hF
        refine Guarded.none rfl ?_
        have e26 : a.tmps.getD 26 undef = .pointer (some ⟨w1.heap.size, 0, none⟩) := (hin 8 26 rfl (by decide)).trans (hF 8 (by decide))
        have e25 := hin 7 25 rfl (by decide)
        have z7 := hF 7 (by decide)
        obtain ⟨p2, e1, e2, l2, z2, tg⟩ := hG.2 (hall 7 (by decide))
        have hlr := HL.out
        have x9 := HXG.out.grown tg.1 (fun e => hlr.offTerm HXG.out e.symm)
        obtain ⟨A2, c2, hv2, -, -, -⟩ := l2.len
        have hlen2 : (rs ++ [p2]).length = q + 1 := by simp [HRL.out]
        rw [hlen2] at hv2
        rw [hv2] at e25 l2
        have u0 := x9.c0
        have u1 := x9.fr 0
        refine Does.skip (w' := w.setCell ⟨w1.heap.size, 0, none⟩ (.slice A2 (q + 1) c2)) (by go_simp) ?_
        have HE2 := hide (EachRel2.step (f := fun z => z) HXG.out hlr HRL.out HLI.out HRZ.out HZK.out HOW.out HKW.out HLp.out e1 e2 l2 z2 tg)
        rw [show fin _ σ undef _ = (Act.put (Act.put (Act.put (Act.put (Act.put (Act.put (Act.put (Act.put (Act.put (Act.put _ (some 18) (σ 0)) (some 19) (σ 1)) (some 20) (σ 2)) (some 21) (σ 3)) (some 22) (σ 4)) (some 23) (σ 5)) (some 24) (σ 6)) (some 25) (σ 7)) (some 26) (σ 8)) none undef) from (fin_all hall).trans rfl]
        simp only [Act.put, List.setIfInBounds_toArray, List.set_cons_zero, List.set_cons_succ]
        generalize σ 0 = tt0; generalize σ 1 = tt1; generalize σ 2 = tt2; generalize σ 3 = tt3; generalize σ 4 = tt4; generalize σ 5 = tt5; generalize σ 6 = tt6; generalize σ 7 = tt7 at *; generalize σ 8 = tt8
        clear hF hG hall hin hout SOF HF6 HRW l2 z2 tg x9 u0 u1 hlen2
        generalize w.setCell ⟨w1.heap.size, 0, none⟩ (.slice A2 (q + 1) c2) = w8 at *
        go_wp2_with fail
        go_roundw
        case rel => exact ⟨q + 1, by omega, by go_num, HE2⟩
        case measure => simp [intOf] <;> omega
    · obtain rfl : q = n := by omega
      have hL2 := hide (show lin rs = ofs xs by
        rw [hlin, List.take_of_length_le (by rw [ofs_length]; have := HLN.out; omega)]
        simp)
      have hR := XR.out.other oW (by have := hz3.out; omega)
      obtain ⟨A', c', hv', hc1', hc2', -⟩ := lr.len
      injection hv' with e1' e2' e3'
      subst e1' e3'
      have HOP := hide (show OwnParts wr w0.heap.size (.slice A4 q c4) q (lin rs) 2 from ⟨rs, lr.rebase HW1.out.size, hrl, rfl, hrz⟩)
      have HZK := hide zK
      have HB := hide hT
      have HR5 := hide hR
      have x0 := xg.c0
      have x1 := xg.c1
      have x2 := xg.c2
      clear lr hrl hlin hrz zK oW kW HR xg hT
      go_wp2_with (with_reducible refine wpList_store_t rfl _ _ rfl w0.heap.size _ _ _ _ _ _ _ rfl rfl _ _ _ hR ?_; intro w7 k7 ho7)
      refine bodyPost_t rfl rfl k7 rfl ?_
      have hk := HR5.out.kp (nlT _ _ _ _ _ _ _) ho7
      refine ⟨A4, c4, s4, B4, m4, d4, rfl, ?_, hc1', hc2', HZK.out.kp hk, zback HB.out (by omega) ho7⟩
      rw [← hL2.out]
      obtain ⟨ts, g1, g2, g3, g4⟩ := HOP.out
      exact ⟨ts, g1.onlyTerm HR5.out ho7, g2, g3, fun p hp => (g4 p hp).kp hk⟩
theorem lof_any (K : Int) (A : Option Addr) (n c : Nat) (xs : List Int) (w0 : World) (hx : IIn w0 A n xs) (hk1 : -9223372036854775808 ≤ K) (hk2 : K ≤ 9223372036854775807) (hxs : ∀ x ∈ xs, -9223372036854775808 ≤ x ∧ x ≤ 9223372036854775807) (hn1 : n ≤ 1099511) : Calls Tryz.prog 23 #[.int .i64 K, .slice A n c] w0 (TPost (ofs xs) K 2 w0) :=
  (lof_own K A n c xs w0 hx hk1 hk2 hxs hn1).mono fun _ _ h => h.res
end Go.Proofs.YtdeakieenppmiaaGreat
/- plumblinelaw03.summing: the calls that add are alive. -/
namespace Go.Proofs.YtdeakieenppmiaaGreat
open Go.RowKit
open Tm

theorem field_parts (A : Option Addr) (n c : Nat) (s : Bool) (B : Option Addr) (m d : Nat) (w : World) : (Instr.field 28 (.agg #[.slice A n c, .bool s, .slice B m d]) 0).run Tryz.prog w = .ok (.slice A n c) w := by kernel_rfl
theorem TRes.ofEq {w : World} {v : Value} {L M : List (Int × Int)} {K J : Int} {k : Nat} (h : TRes w v L K k) (e : L = M) (f : K = J) : TRes w v M J k := e ▸ f ▸ h
end Go.Proofs.YtdeakieenppmiaaGreat
/- Linear terms on plain numbers: the content, what Shrink makes of it, first places, substitution. -/
namespace Go.Proofs.YtdeakieenppmiaaGreat.Tm

/-- The greatest common divisor of a number and all coefficients. -/
def gcdL : Nat → List (Int × Int) → Nat
  | g, [] => g
  | g, p :: ps => gcdL (Nat.gcd g p.2.natAbs) ps
theorem gcdL_append (g : Nat) (ps qs : List (Int × Int)) : gcdL g (ps ++ qs) = gcdL (gcdL g ps) qs := by
  induction ps generalizing g with
  | nil => rfl
  | cons p ps ih => rw [List.cons_append, gcdL, gcdL, ih]
theorem gcdL_take_succ (g : Nat) (L : List (Int × Int)) (q : Nat) (u c : Int) (h : L[q]? = some (u, c)) : gcdL g (L.take (q + 1)) = Nat.gcd (gcdL g (L.take q)) c.natAbs := by
  rw [List.take_add_one, h, gcdL_append]; rfl
def content (L : List (Int × Int)) : Int := (gcdL 0 (norm L) : Nat)
theorem gcdL_dvd (ps : List (Int × Int)) : ∀ g : Nat, gcdL g ps ∣ g ∧ ∀ p ∈ ps, gcdL g ps ∣ p.2.natAbs := by
  induction ps with
  | nil => intro g; exact ⟨Nat.dvd_refl _, fun p hp => by cases hp⟩
  | cons p ps ih =>
    intro g
    obtain ⟨h1, h2⟩ := ih (Nat.gcd g p.2.natAbs)
    refine ⟨Nat.dvd_trans h1 (Nat.gcd_dvd_left _ _), fun x hx => ?_⟩
    rcases List.mem_cons.1 hx with rfl | hx
    · exact Nat.dvd_trans h1 (Nat.gcd_dvd_right _ _)
    · exact h2 x hx
theorem gcdL_scale (m : Nat) (ps : List (Int × Int)) : ∀ a : Nat, gcdL (m * a) (ps.map fun p => (p.1, (m : Int) * p.2)) = m * gcdL a ps := by
  induction ps with
  | nil => intro a; rfl
  | cons p ps ih =>
    intro a
    rw [List.map_cons, gcdL, gcdL, ← ih]
    dsimp only
    rw [Int.natAbs_mul, Int.natAbs_natCast, Nat.gcd_mul_left]
theorem content_nonneg (L : List (Int × Int)) : 0 ≤ content L := Int.natCast_nonneg _
theorem content_zero {L : List (Int × Int)} : content L = 0 ↔ norm L = [] := by
  constructor
  · intro h
    have hp := norm_plain L
    unfold content at h
    cases hn : norm L with
    | nil => rfl
    | cons p ps =>
      exfalso
      obtain ⟨u, c⟩ := p
      rw [hn] at h hp
      have h1 := (gcdL_dvd ((u, c) :: ps) 0).2 (u, c) (by simp)
      have h0 : gcdL 0 ((u, c) :: ps) = 0 := by omega
      rw [h0] at h1
      have h2 := Nat.eq_zero_of_zero_dvd h1
      exact hp.2.1 (Int.natAbs_eq_zero.1 h2)
  · intro h
    unfold content
    rw [h]; rfl
/-- All coefficients divided. -/
def quot (g : Int) (ps : List (Int × Int)) : List (Int × Int) := ps.map fun p => (p.1, p.2.fdiv g)
theorem quot_back {g : Int} (hg : g ≠ 0) (ps : List (Int × Int)) (h : ∀ p ∈ ps, g ∣ p.2) : (quot g ps).map (fun p => (p.1, g * p.2)) = ps := by
  unfold quot
  rw [List.map_map]
  conv => rhs; rw [← List.map_id ps]
  apply List.map_congr_left
  intro p hp
  obtain ⟨t, ht⟩ := h p hp
  obtain ⟨u, c⟩ := p
  dsimp only at ht
  simp only [Function.comp, id]
  rw [ht, Int.mul_fdiv_cancel_left _ hg]
theorem rising_unscale {n : Int} {b : Int} {ps : List (Int × Int)} (h : Rising b (ps.map fun p => (p.1, n * p.2))) : Rising b ps := by
  induction ps generalizing b with
  | nil => trivial
  | cons p ps ih =>
    obtain ⟨u, c⟩ := p
    obtain ⟨h1, h2, h3⟩ := h
    exact ⟨h1, fun hc => h2 (by dsimp only at *; rw [hc, Int.mul_zero]), ih h3⟩
theorem content_dvd (L : List (Int × Int)) : ∀ p ∈ norm L, content L ∣ p.2 := fun p hp => by
  have h := (gcdL_dvd (norm L) 0).2 p hp
  exact Int.ofNat_dvd_left.2 h
theorem quot_plain (L : List (Int × Int)) (h : content L ≠ 0) : norm (quot (content L) (norm L)) = quot (content L) (norm L) :=
  norm_id (rising_unscale (n := content L) (by rw [quot_back h _ (content_dvd L)]; exact norm_plain L))
/-- What is left bears the content 1. -/
theorem content_quot (L : List (Int × Int)) (h : content L ≠ 0) : content (quot (content L) (norm L)) = 1 := by
  have h1 := gcdL_scale (gcdL 0 (norm L)) (quot (content L) (norm L)) 0
  rw [Nat.mul_zero] at h1
  have h2 := quot_back h (norm L) (content_dvd L)
  unfold content at h2
  unfold content at h1
  rw [h2] at h1
  unfold content
  have h3 := quot_plain L h
  unfold content at h3
  rw [h3]
  have h0 : gcdL 0 (norm L) ≠ 0 := by intro hh; apply h; unfold content; rw [hh]; rfl
  generalize gcdL 0 (quot (↑(gcdL 0 (norm L))) (norm L)) = x at *
  generalize gcdL 0 (norm L) = g at *
  have h4 : x = 1 := by
    have h5 : g * x = g * 1 := by omega
    exact Nat.eq_of_mul_eq_mul_left (by omega) h5
  rw [h4]; rfl
/-- The place at which v occurs first. -/
def firstAt (v : Int) : List Int → Option Nat
  | [] => none
  | x :: xs => if x = v then some 0 else (firstAt v xs).map (· + 1)
theorem firstAt_snoc (x v : Int) (us : List Int) : firstAt x (us ++ [v]) = match firstAt x us with | some i => some i | none => if v = x then some us.length else none := by
  induction us with
  | nil => simp [firstAt]
  | cons u us ih =>
    rw [List.cons_append, firstAt, firstAt, ih]
    by_cases h : u = x
    · simp [h]
    · simp only [if_neg h]
      cases firstAt x us with
      | some i => rfl
      | none =>
        by_cases h2 : v = x
        · simp [h2]
        · simp [h2]
theorem firstAt_lt (v : Int) (us : List Int) (i : Nat) (h : firstAt v us = some i) : i < us.length := by
  induction us generalizing i with
  | nil => simp [firstAt] at h
  | cons u us ih =>
    unfold firstAt at h
    split at h
    · injection h with h; subst h; simp
    · cases hx : firstAt v us with
      | none => rw [hx] at h; simp at h
      | some k =>
        rw [hx] at h
        simp at h
        have := ih k hx
        simp; omega
/-- What stands in variable v's place. -/
def place (vs : List Int) (ts : List (List (Int × Int) × Int)) (v : Int) : List (Int × Int) × Int :=
  match firstAt v vs with
  | some i => ts.getD i ([(v, 1)], 0)
  | none => ([(v, 1)], 0)
def putL (vs : List Int) (ts : List (List (Int × Int) × Int)) : List (Int × Int) → List (Int × Int)
  | [] => []
  | p :: ps => ((place vs ts p.1).1.map fun r => (r.1, p.2 * r.2)) ++ putL vs ts ps
def putK (vs : List Int) (ts : List (List (Int × Int) × Int)) : List (Int × Int) → Int
  | [] => 0
  | p :: ps => p.2 * (place vs ts p.1).2 + putK vs ts ps
theorem putL_append (vs : List Int) (ts : List (List (Int × Int) × Int)) (ps qs : List (Int × Int)) : putL vs ts (ps ++ qs) = putL vs ts ps ++ putL vs ts qs := by
  induction ps with
  | nil => rfl
  | cons p ps ih => rw [List.cons_append, putL, putL, ih, List.append_assoc]
theorem putK_append (vs : List Int) (ts : List (List (Int × Int) × Int)) (ps qs : List (Int × Int)) : putK vs ts (ps ++ qs) = putK vs ts ps + putK vs ts qs := by
  induction ps with
  | nil => simp [putK]
  | cons p ps ih => rw [List.cons_append, putK, putK, ih, Int.add_assoc]
end Go.Proofs.YtdeakieenppmiaaGreat.Tm
