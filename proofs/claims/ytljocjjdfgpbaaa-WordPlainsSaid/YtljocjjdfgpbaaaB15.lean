/- Texts of one seat, put together: WordO WordIn WordL. -/
import Derived.Test.YtljocjjdfgpbaaaB13
import Derived.Test.YtljocjjdfgpbaaaB14
import Derived.Test.YtljocjjdfgpbaaaB04
import Derived.OrdersIn
import Derived.TacticsIn
import Derived.RangeFuncCalls
import Derived.RangeFuncNested
import Derived.RangeFuncBox
import Derived.RangeFuncBound
import Derived.RangeFuncLeaves
import Derived.Shelf.Abstract
import Derived.WalkKit
import Derived.OwnWalkIn
import Derived.TacticsInMore
import Derived.LoopNIn
import Derived.LoopIn
set_option linter.unusedVariables false
/- The functions that track.truths hands to each. -/
namespace Go.Proofs.Ytljocjjdfgpbaaa
open Go.RowKit
open Wo

set_option maxRecDepth 100000 in
set_option maxHeartbeats 8000000 in
theorem truths1_any (S : Nat → Prop) (N M : Nat) (A1 : Option Addr) (n c1 : Nat) (b : Int) (L : List (List Bool)) (k p : Int) (s : Value) (i : Nat) (w0 : World) (hx2 : Box 53 w0 N #[.slice A1 n c1, .int .i64 b]) (hx3 : Box 24 w0 M #[.int .i64 k, .int .i64 p, s]) (hl : LsIn S w0 A1 n L) (hi : i < n) :
    Calls Try.prog 44 #[.int .i64 (i : Int), .pointer (some ⟨N, 0, none⟩), .pointer (some ⟨M, 0, none⟩)] w0 (fun e w' => e = .returned (.bool (hasB (L.getD i []) p)) ∧ Below w0.heap.size w0 w') := by
  obtain ⟨bb, o, A2, c2, l, rfl, hlt, hll, d0, -, -, hbl⟩ := hl.at_ hi
  have HL := hide (show L.getD i [] = l from by rw [List.getD_eq_getElem?_getD, hll]; rfl)
  rw [HL.out]
  obtain ⟨ll, hll⟩ : ∃ ll, ll = l.length := ⟨_, rfl⟩
  rw [← hll] at d0 hbl
  have HHAS := hide (fun W (h : Below w0.heap.size w0 W) => has_any S A2 ll c2 l p W (hbl.keep (Keep.of_below h)))
  have SOF := hide (show ∀ W, Below w0.heap.size w0 W → (W.cell? ⟨N, 0, none⟩ = some (.slice (some ⟨bb, o, none⟩) n c1) ∧ W.cell? ⟨M, 1, none⟩ = some (.int .i64 p) ∧ W.cell? ⟨bb, o + i, none⟩ = some (.slice A2 ll c2)) from fun W h => ⟨(hx2.next h).cell 0 _ rfl, (hx3.next h).cell 1 _ rfl, (below_cell h hlt).trans d0⟩)
  generalize hasB l p = res at *
  clear hx2 hx3 hl hll hbl d0 HL
  go_enter Try.func44, Try.ntmps44
  go_upto_region 1 with fail
  refine wp_drawn (by kernel_rfl) (by kernel_rfl) (by kernel_rfl) (fun w w' => Below w.heap.size w w') (fun j v w => match j with | 0 => v = .pointer (some ⟨N, 0, none⟩) | 1 => v = .slice (some ⟨bb, o, none⟩) n c1 | 2 => v = .int .i64 (i : Int) | 3 => v = .pointer (some ⟨bb, o + i, none⟩) | 4 => v = .slice A2 ll c2 | 5 => v = .pointer (some ⟨M, 1, none⟩) | 6 => v = .int .i64 p | 7 => v = .bool res | 8 => v = .bool res | _ => True) (fun _ _ w => Below w0.heap.size w0 w) ?_ (fun _ => bl_drewN w0 1) ?_ ?_
  · intro j v w w' hT h
    match j, h with
    | 0, h => exact h
    | 1, h => exact h
    | 2, h => exact h
    | 3, h => exact h
    | 4, h => exact h
    | 5, h => exact h
    | 6, h => exact h
    | 7, h => exact h
    | 8, h => exact h
    | j + 9, h => trivial
  · refine ⟨?_, ?_, ?_, ?_, ?_, ?_, ?_, ?_, ?_, trivial⟩
    · intro listed σ w a hin hout hl hc hp hG hF
      refine Guarded.none rfl ?_
      have e1 : a.tmps.getD 1 undef = .pointer (some ⟨N, 0, none⟩) := hout 1 (outB_spec (by kernel_rfl))
      refine Does.val (.pointer (some ⟨N, 0, none⟩)) (w' := w) ?_ ⟨Below.refl _ _, rfl, hG⟩
      simp only [Array.getD_eq_getD_getElem?] at e1
      go_simp
    · intro listed σ w a hin hout hl hc hp hG hF
      refine Guarded.none rfl ?_
      have e5 : a.tmps.getD 5 undef = .pointer (some ⟨N, 0, none⟩) := (hin 0 5 rfl (hp ⟨0, .data⟩ (by simp) rfl)).trans (hF 0 (hp ⟨0, .data⟩ (by simp) rfl))
      have CC := SOF.out w hG; obtain ⟨C0, C1, C2⟩ := CC
      refine Does.val (.slice (some ⟨bb, o, none⟩) n c1) (w' := w) ?_ ⟨Below.refl _ _, rfl, hG⟩
      go_simp
    · intro listed σ w a hin hout hl hc hp hG hF
      refine Guarded.none rfl ?_
      have e0 : a.tmps.getD 0 undef = .int .i64 (i : Int) := hout 0 (outB_spec (by kernel_rfl))
      refine Does.val (.int .i64 (i : Int)) (w' := w) ?_ ⟨Below.refl _ _, rfl, hG⟩
      simp only [Array.getD_eq_getD_getElem?] at e0
      go_simp
    · intro listed σ w a hin hout hl hc hp hG hF
      refine Guarded.none rfl ?_
      have e6 : a.tmps.getD 6 undef = .slice (some ⟨bb, o, none⟩) n c1 := (hin 1 6 rfl (hp ⟨1, .data⟩ (by simp) rfl)).trans (hF 1 (hp ⟨1, .data⟩ (by simp) rfl))
      have e7 : a.tmps.getD 7 undef = .int .i64 (i : Int) := (hin 2 7 rfl (hp ⟨2, .data⟩ (by simp) rfl)).trans (hF 2 (hp ⟨2, .data⟩ (by simp) rfl))
      refine Does.val (.pointer (some ⟨bb, o + i, none⟩)) (w' := w) ?_ ⟨Below.refl _ _, rfl, hG⟩
      simp only [Array.getD_eq_getD_getElem?] at e6 e7
      go_simp
      (try (intro hh; exfalso; omega))
    · intro listed σ w a hin hout hl hc hp hG hF
      refine Guarded.none rfl ?_
      have e8 : a.tmps.getD 8 undef = .pointer (some ⟨bb, o + i, none⟩) := (hin 3 8 rfl (hp ⟨3, .data⟩ (by simp) rfl)).trans (hF 3 (hp ⟨3, .data⟩ (by simp) rfl))
      have CC := SOF.out w hG; obtain ⟨C0, C1, C2⟩ := CC
      refine Does.val (.slice A2 ll c2) (w' := w) ?_ ⟨Below.refl _ _, rfl, hG⟩
      go_simp
    · intro listed σ w a hin hout hl hc hp hG hF
      refine Guarded.none rfl ?_
      have e2 : a.tmps.getD 2 undef = .pointer (some ⟨M, 0, none⟩) := hout 2 (outB_spec (by kernel_rfl))
      refine Does.val (.pointer (some ⟨M, 1, none⟩)) (w' := w) ?_ ⟨Below.refl _ _, rfl, hG⟩
      simp only [Array.getD_eq_getD_getElem?] at e2
      go_simp
    · intro listed σ w a hin hout hl hc hp hG hF
      refine Guarded.none rfl ?_
      have e10 : a.tmps.getD 10 undef = .pointer (some ⟨M, 1, none⟩) := (hin 5 10 rfl (hp ⟨5, .data⟩ (by simp) rfl)).trans (hF 5 (hp ⟨5, .data⟩ (by simp) rfl))
      have CC := SOF.out w hG; obtain ⟨C0, C1, C2⟩ := CC
      refine Does.val (.int .i64 p) (w' := w) ?_ ⟨Below.refl _ _, rfl, hG⟩
      go_simp
    · intro listed σ w a hin hout hl hc hp hG hF
      refine Guarded.none rfl ?_
      have e9 : a.tmps.getD 9 undef = .slice A2 ll c2 := (hin 4 9 rfl (hp ⟨4, .data⟩ (by simp) rfl)).trans (hF 4 (hp ⟨4, .data⟩ (by simp) rfl))
      have e11 : a.tmps.getD 11 undef = .int .i64 p := (hin 6 11 rfl (hp ⟨6, .data⟩ (by simp) rfl)).trans (hF 6 (hp ⟨6, .data⟩ (by simp) rfl))
      refine Does.call ?_ (HHAS.out w hG) ?_
      · go_simp
      · rintro e w' ⟨rfl, hb⟩
        exact ⟨_, rfl, hb, rfl, hG.next hb⟩
    · intro listed σ w a hin hout hl hc hp hG hF
      refine Guarded.none rfl ?_
      have e12 : a.tmps.getD 12 undef = .bool res := (hin 7 12 rfl (hp ⟨7, .data⟩ (by simp) rfl)).trans (hF 7 (hp ⟨7, .data⟩ (by simp) rfl))
      refine Does.val (.bool res) (w' := w) ?_ ⟨Below.refl _ _, rfl, hG⟩
      simp only [Array.getD_eq_getD_getElem?] at e12
      go_simp
  · intro listed σ W9 hall hG hF
    rw [show mid _ σ listed _ = (Act.put (Act.put (Act.put (Act.put (Act.put (Act.put (Act.put (Act.put (Act.put _ (some 5) (σ 0)) (some 6) (σ 1)) (some 7) (σ 2)) (some 8) (σ 3)) (some 9) (σ 4)) (some 10) (σ 5)) (some 11) (σ 6)) (some 12) (σ 7)) (some 4) (σ 8)) from (mid_all hall).trans rfl]
    generalize σ 0 = tt0
    generalize σ 1 = tt1
    generalize σ 2 = tt2
    generalize σ 3 = tt3
    generalize σ 4 = tt4
    generalize σ 5 = tt5
    generalize σ 6 = tt6
    generalize σ 7 = tt7
    rw [show σ 8 = .bool res from hF 8 (by decide)]
    simp only [Act.put, List.setIfInBounds_toArray, List.set_cons_zero, List.set_cons_succ]
    have TG := hG
    clear hF hG hall
    clear σ
    go_wp2_with fail
    go_ret
    exact ⟨rfl, TG⟩
set_option maxRecDepth 100000 in
set_option maxHeartbeats 8000000 in
theorem truths2_any (N g5 g : Nat) (A1 : Option Addr) (n c1 b : Nat) (l : List Bool) (s1 : Value) (i : Nat) (w0 : World) (hx2 : Box 53 w0 N #[.slice A1 n c1, .int .i64 (b : Int)]) (hx5 : Box 63 w0 g5 #[.slice (some ⟨g, 0, none⟩) n n, s1]) (ha : ABox w0 g l) (hl : l.length = n) (hi : i < n) (hb : b < n) (hn : n ≤ 1000000) :
    Calls Try.prog 46 #[.int .i64 (i : Int), .pointer (some ⟨g5, 0, none⟩), .pointer (some ⟨N, 0, none⟩)] w0 (fun e w' => e = .returned (.bool (l.getD (nxt b n i) false)) ∧ Below w0.heap.size w0 w') := by
  have HNXT := hide (fun W => next_any A1 n c1 b i W hn hi)
  have hy9 : nxt b n i < n := by unfold nxt; split <;> omega
  generalize nxt b n i = y at *
  obtain ⟨res, hres⟩ : ∃ v, l[y]? = some v := ⟨l[y]'(by omega), List.getElem?_eq_getElem (by omega)⟩
  rw [show l.getD y false = res from by rw [List.getD_eq_getElem?_getD, hres]; rfl]
  have SOF := hide (show ∀ W, Below w0.heap.size w0 W → (W.cell? ⟨g5, 0, none⟩ = some (.slice (some ⟨g, 0, none⟩) n n) ∧ W.cell? ⟨N, 0, none⟩ = some (.slice A1 n c1) ∧ W.cell? ⟨N, 1, none⟩ = some (.int .i64 (b : Int)) ∧ W.cell? ⟨g, y, none⟩ = some (.bool res)) from fun W h => ⟨(hx5.next h).cell 0 _ rfl, (hx2.next h).cell 0 _ rfl, (hx2.next h).cell 1 _ rfl, (Box.next ha h).cell y _ (by simp [hres])⟩)
  clear hx2 hx5 ha hl hres
  go_enter Try.func46, Try.ntmps46
  go_upto_region 1 with fail
  refine wp_drawn (by kernel_rfl) (by kernel_rfl) (by kernel_rfl) (fun w w' => Below w.heap.size w w') (fun j v w => match j with | 0 => v = .pointer (some ⟨g5, 0, none⟩) | 1 => v = .slice (some ⟨g, 0, none⟩) n n | 2 => v = .agg #[.slice A1 n c1, .int .i64 (b : Int)] | 3 => v = .int .i64 (i : Int) | 4 => v = .int .i64 (y : Int) | 5 => v = .pointer (some ⟨g, y, none⟩) | 6 => v = .bool res | 7 => v = .bool res | _ => True) (fun _ _ w => Below w0.heap.size w0 w) ?_ (fun _ => bl_drewN w0 1) ?_ ?_
  · intro j v w w' hT h
    match j, h with
    | 0, h => exact h
    | 1, h => exact h
    | 2, h => exact h
    | 3, h => exact h
    | 4, h => exact h
    | 5, h => exact h
    | 6, h => exact h
    | 7, h => exact h
    | j + 8, h => trivial
  · refine ⟨?_, ?_, ?_, ?_, ?_, ?_, ?_, ?_, trivial⟩
    · intro listed σ w a hin hout hl hc hp hG hF
      refine Guarded.none rfl ?_
      have e1 : a.tmps.getD 1 undef = .pointer (some ⟨g5, 0, none⟩) := hout 1 (outB_spec (by kernel_rfl))
      refine Does.val (.pointer (some ⟨g5, 0, none⟩)) (w' := w) ?_ ⟨Below.refl _ _, rfl, hG⟩
      simp only [Array.getD_eq_getD_getElem?] at e1
      go_simp
      (try (intro hh; exfalso; omega))
    · intro listed σ w a hin hout hl hc hp hG hF
      refine Guarded.none rfl ?_
      have e5 : a.tmps.getD 5 undef = .pointer (some ⟨g5, 0, none⟩) := (hin 0 5 rfl (hp ⟨0, .data⟩ (by simp) rfl)).trans (hF 0 (hp ⟨0, .data⟩ (by simp) rfl))
      have CC := SOF.out w hG; obtain ⟨C0, C1, C2, C3⟩ := CC
      refine Does.val (.slice (some ⟨g, 0, none⟩) n n) (w' := w) ?_ ⟨Below.refl _ _, rfl, hG⟩
      go_simp
    · intro listed σ w a hin hout hl hc hp hG hF
      refine Guarded.none rfl ?_
      have e2 : a.tmps.getD 2 undef = .pointer (some ⟨N, 0, none⟩) := hout 2 (outB_spec (by kernel_rfl))
      have CC := SOF.out w hG; obtain ⟨C0, C1, C2, C3⟩ := CC
      refine Does.val (.agg #[.slice A1 n c1, .int .i64 (b : Int)]) (w' := w) ?_ ⟨Below.refl _ _, rfl, hG⟩
      go_simp
    · intro listed σ w a hin hout hl hc hp hG hF
      refine Guarded.none rfl ?_
      have e0 : a.tmps.getD 0 undef = .int .i64 (i : Int) := hout 0 (outB_spec (by kernel_rfl))
      refine Does.val (.int .i64 (i : Int)) (w' := w) ?_ ⟨Below.refl _ _, rfl, hG⟩
      simp only [Array.getD_eq_getD_getElem?] at e0
      go_simp
    · intro listed σ w a hin hout hl hc hp hG hF
      refine Guarded.none rfl ?_
      have e7 : a.tmps.getD 7 undef = .agg #[.slice A1 n c1, .int .i64 (b : Int)] := (hin 2 7 rfl (hp ⟨2, .data⟩ (by simp) rfl)).trans (hF 2 (hp ⟨2, .data⟩ (by simp) rfl))
      have e8 : a.tmps.getD 8 undef = .int .i64 (i : Int) := (hin 3 8 rfl (hp ⟨3, .data⟩ (by simp) rfl)).trans (hF 3 (hp ⟨3, .data⟩ (by simp) rfl))
      refine Does.call ?_ (HNXT.out w) ?_
      · go_simp
      · rintro e w' ⟨rfl, hb⟩
        exact ⟨_, rfl, hb, rfl, hG.next hb⟩
    · intro listed σ w a hin hout hl hc hp hG hF
      refine Guarded.none rfl ?_
      have e6 : a.tmps.getD 6 undef = .slice (some ⟨g, 0, none⟩) n n := (hin 1 6 rfl (hp ⟨1, .data⟩ (by simp) rfl)).trans (hF 1 (hp ⟨1, .data⟩ (by simp) rfl))
      have e9 : a.tmps.getD 9 undef = .int .i64 (y : Int) := (hin 4 9 rfl (hp ⟨4, .data⟩ (by simp) rfl)).trans (hF 4 (hp ⟨4, .data⟩ (by simp) rfl))
      refine Does.val (.pointer (some ⟨g, y, none⟩)) (w' := w) ?_ ⟨Below.refl _ _, rfl, hG⟩
      simp only [Array.getD_eq_getD_getElem?] at e6 e9
      go_simp
      (try (intro hh; exfalso; omega))
    · intro listed σ w a hin hout hl hc hp hG hF
      refine Guarded.none rfl ?_
      have e10 : a.tmps.getD 10 undef = .pointer (some ⟨g, y, none⟩) := (hin 5 10 rfl (hp ⟨5, .data⟩ (by simp) rfl)).trans (hF 5 (hp ⟨5, .data⟩ (by simp) rfl))
      have CC := SOF.out w hG; obtain ⟨C0, C1, C2, C3⟩ := CC
      refine Does.val (.bool res) (w' := w) ?_ ⟨Below.refl _ _, rfl, hG⟩
      go_simp
    · intro listed σ w a hin hout hl hc hp hG hF
      refine Guarded.none rfl ?_
      have e11 : a.tmps.getD 11 undef = .bool res := (hin 6 11 rfl (hp ⟨6, .data⟩ (by simp) rfl)).trans (hF 6 (hp ⟨6, .data⟩ (by simp) rfl))
      refine Does.val (.bool res) (w' := w) ?_ ⟨Below.refl _ _, rfl, hG⟩
      simp only [Array.getD_eq_getD_getElem?] at e11
      go_simp
  · intro listed σ W9 hall hG hF
    rw [show mid _ σ listed _ = (Act.put (Act.put (Act.put (Act.put (Act.put (Act.put (Act.put (Act.put _ (some 5) (σ 0)) (some 6) (σ 1)) (some 7) (σ 2)) (some 8) (σ 3)) (some 9) (σ 4)) (some 10) (σ 5)) (some 11) (σ 6)) (some 4) (σ 7)) from (mid_all hall).trans rfl]
    generalize σ 0 = tt0
    generalize σ 1 = tt1
    generalize σ 2 = tt2
    generalize σ 3 = tt3
    generalize σ 4 = tt4
    generalize σ 5 = tt5
    generalize σ 6 = tt6
    rw [show σ 7 = .bool res from hF 7 (by decide)]
    simp only [Act.put, List.setIfInBounds_toArray, List.set_cons_zero, List.set_cons_succ]
    have TG := hG
    clear hF hG hall
    clear σ
    go_wp2_with fail
    go_ret
    exact ⟨rfl, TG⟩
set_option maxHeartbeats 4000000 in
theorem truths3_any (M : Nat) (k : Int) (i : Int) (w0 : World) (h : w0.cell? ⟨M, 0, none⟩ = some (.int .i64 k)) : Calls Try.prog 48 #[.int .i64 i, .pointer (some ⟨M, 0, none⟩)] w0 (fun e w' => e = .returned (.bool (decide (k = 9 ∨ k = 12))) ∧ Below w0.heap.size w0 w') := by
  by_cases h9 : k = 9
  · subst h9
    go_enter Try.func48, Try.ntmps48
    go_wp2_with fail
    go_ret
    exact ⟨rfl, Below.refl _ _⟩
  · have g9 : (k == 9) = false := by simp; omega
    by_cases h12 : k = 12
    · subst h12
      go_enter Try.func48, Try.ntmps48
      go_wp2_with fail
      go_ret
      exact ⟨rfl, Below.refl _ _⟩
    · have g12 : (k == 12) = false := by simp; omega
      have HE := hide (show decide (k = 9 ∨ k = 12) = false from by simp; omega)
      rw [HE.out]
      clear h9 h12 HE
      go_enter Try.func48, Try.ntmps48
      go_wp2_with fail
      go_ret
      exact ⟨rfl, Below.refl _ _⟩
end Go.Proofs.Ytljocjjdfgpbaaa
/- A region that draws its order, in a round of a range over a function, at the wide fence. -/
namespace Go.Proofs.Ytljocjjdfgpbaaa
open Go.RowKit

section
variable {P : Program} {ops : Array Oper} {Q : Exit → Act → World → Prop} {l n : Nat}
/-- The fence of a round of loop l. -/
abbrev rnd (l : Nat) : Fence := Fence.wide.inRound l
def plainB (ops : Array Oper) : Bool := ops.all fun o => match o.op with | .defer _ => false | _ => true
theorem plainB_spec (h : plainB ops = true) {i : Nat} {o : Oper} (ho : ops[i]? = some o) : ∀ c, o.op ≠ .defer c := by
  intro c hc
  obtain ⟨hi, he⟩ := Array.getElem?_eq_some_iff.1 ho
  have h1 := Array.all_eq_true.1 h i hi
  rw [he, hc] at h1
  exact Bool.false_ne_true h1
theorem wpIn_region_inv {id : Nat} {a : Act} {w : World} (hm : P.follows .mixedOrders = true) (hb : backB ops = true) (I : Array Bool → Act → World → Prop)
    (h0 : I (Array.replicate ops.size false) a w.drew)
    (hstep : ∀ (i : Nat) (o : Oper) (listed : Array Bool) (a : Act) (w : World), ops[i]? = some o → listed.size = ops.size → listed.getD i true = false → ClosedL .any ops listed → (∀ e ∈ o.after, Region.binds .any e = true → listed.getD e.on false = true) → I listed a w →
      wpOpIn (rnd l) n P ops Q i (I (listed.setIfInBounds i true)) a w)
    (hend : ∀ (listed : Array Bool) (a : Act) (w : World), listed.size = ops.size → AllOn ops.size listed → I listed a w → Q .normal a w) : (Code.region id ops true).wpIn (rnd l) n P Q a w := by
  have main : ∀ (fuel : Nat) (listed : Array Bool) (a : Act) (w : World), listed.size = ops.size → todo listed ≤ fuel → ClosedL .any ops listed → I listed a w → wpAnyIn (rnd l) n P .any ops Q fuel listed a w := by
    intro fuel
    induction fuel with
    | zero =>
      intro listed a w hs hf hc hI
      have hall : AllOn ops.size listed := by rw [← hs]; exact todo_zero (by omega)
      exact ⟨all_ready hall, hend listed a w hs hall hI⟩
    | succ fuel ih =>
      intro listed a w hs hf hc hI
      refine ⟨fun h => hend listed a w hs (ready_nil hb hs h) hI, fun i hi => ?_⟩
      obtain ⟨h1, o, ho, h2⟩ := mem_ready.1 hi
      refine wpOpIn_mono (fun a' w' hI' => ?_) (hstep i o listed a w ho hs h1 hc h2 hI)
      exact ih _ a' w' (by simp [hs]) (by have := todo_set h1; omega) (hc.next hi) hI'
  exact wpIn_region_any hm (main ops.size _ a _ (by simp) (by rw [todo_start]; exact Nat.le_refl _) (ClosedL.zero _) h0)
theorem Does.stepIn {i : Nat} {o : Oper} {K : Act → World → Prop} {a : Act} {w : World} {R : Value → World → Prop} (ho : ops[i]? = some o) (hd : ∀ c, o.op ≠ .defer c) (hg : Region.wanted o (yielded ops a.tmps) = true) (h : Does P a o w R) (hK : ∀ v w', R v w' → K (a.put o.dst v) w') : wpOpIn (rnd l) n P ops Q i K a w :=
  wpOpIn_step ho fun K' hK' => by
    rw [if_pos hg]
    unfold Oper.wpIn
    refine ⟨fun _ _ => trivial, ?_⟩
    rw [show (rnd l).round = some l from rfl, Oper.semAt_some l _ _ hd]
    rcases h with ⟨v, w', hr, hR⟩ | ⟨w', hr, hR⟩ | ⟨f, args, R', hr, hc, hR⟩
    · rw [hr]; exact hK' _ _ (hK _ _ hR)
    · rw [hr]; exact hK' _ _ (hK _ _ hR)
    · rw [hr, Oper.uponIn_enter]
      refine ⟨fun hh => (by cases hh), ?_⟩
      refine (CallsIn.inRound l (callsIn_wide.2 hc)).mono ?_
      intro e w' he
      obtain ⟨v, rfl, hv⟩ := hR e w' he
      exact hK' _ _ (hK _ _ hv)
theorem Guarded.stepIn {i : Nat} {o : Oper} {K : Act → World → Prop} {a : Act} {w : World} {R : Value → World → Prop} (ho : ops[i]? = Option.some o) (hd : ∀ c, o.op ≠ .defer c) (h : Guarded ops a o w R (Does P a o w R)) (hK : ∀ v w', R v w' → K (a.put o.dst v) w') : wpOpIn (rnd l) n P ops Q i K a w := by
  unfold Guarded at h
  cases hg : o.guard with
  | none =>
    rw [hg] at h
    exact Does.stepIn ho hd (by simp [Region.wanted, hg]) h hK
  | some gw =>
    obtain ⟨g, want⟩ := gw
    rw [hg] at h
    obtain ⟨d, b, hd2, hv, h1, h2⟩ := h
    have hy : yielded ops a.tmps g = Option.some b := by
      have h3 : a.tmps[d]? = Option.some (.bool b) := by
        rcases hx : a.tmps[d]? with _ | x
        · simp [hx] at hv; exact absurd hv (by unfold undef; simp)
        · simp [hx] at hv; rw [hv]
      unfold dstOf at hd2
      unfold yielded
      rw [hd2]
      show (match a.tmps[d]? with | Option.some (.bool b) => Option.some b | _ => Option.none) = _
      rw [h3]
    by_cases hb : b = want
    · exact Does.stepIn ho hd (by simp [Region.wanted, hg, hy, hb]) (h1 hb) hK
    · refine wpOpIn_step ho fun K' hK' => ?_
      rw [if_neg (by simp [Region.wanted, hg, hy, hb])]
      exact ⟨fun _ _ => trivial, hK' _ _ (hK _ _ (h2 hb))⟩
theorem stepQ_nextIn {a0 : Act} {T : World → World → Prop} {F : Nat → Value → World → Prop} {G : Array Bool → (Nat → Value) → World → Prop} (ho : ownB ops a0.tmps.size = true) (hpl : plainB ops = true) (hF : ∀ j v w w', T w w' → F j v w → F j v w')
    (hstep : Each (StepQ P ops a0 T F G) 0 ops.toList) {K : Act → World → Prop} {i : Nat} {o : Oper} {listed : Array Bool} {σ : Nat → Value} {w : World} (hio : ops[i]? = some o) (hl : listed.getD i true = false) (hc : ClosedL .any ops listed)
    (hp : ∀ e ∈ o.after, Region.binds .any e = true → listed.getD e.on false = true) (hG : G listed σ w) (hF1 : ∀ j, listed.getD j false = true → F j (σ j) w)
    (hK : ∀ σ' w', G (listed.setIfInBounds i true) σ' w' → (∀ j, (listed.setIfInBounds i true).getD j false = true → F j (σ' j) w') → K (mid ops σ' (listed.setIfInBounds i true) a0) w') : wpOpIn (rnd l) n P ops Q i K (mid ops σ listed a0) w := by
  have hlt : i < ops.size := (Array.getElem?_eq_some_iff.1 hio).1
  have h1 := Each.get ops.toList 0 hstep i o (by simpa using hio)
  rw [Nat.zero_add] at h1
  refine Guarded.stepIn hio (plainB_spec hpl hio) (h1 listed σ w (mid ops σ listed a0) (fun j t hd hj => mid_in ho hd hj) (fun t ht => mid_un ht) (unlisted hl) hc hp hG hF1) ?_
  rintro v w' ⟨hT, hFi, hG'⟩
  have hd : o.dst = dstOf ops i := by simp [dstOf, hio]
  rw [hd, show (mid ops σ listed a0).put (dstOf ops i) v = mid ops (upd σ i v) (listed.setIfInBounds i true) a0 from (fill_set ho hlt hl _ _ List.nodup_range (fun j hj => List.mem_range.1 hj) (List.mem_range.2 hlt)).symm]
  refine hK _ _ hG' (fun j hj => ?_)
  by_cases hji : j = i
  · subst hji; rw [upd_self]; exact hFi
  · rw [upd_ne σ v hji]
    rw [getD_set_ne false (Ne.symm hji)] at hj
    exact hF j _ _ _ hT (hF1 j hj)
/-- wp_drawn in a round. -/
theorem wpIn_drawn {id : Nat} {a0 : Act} {w : World} (hm : P.follows .mixedOrders = true) (hb : backB ops = true) (ho : ownB ops a0.tmps.size = true) (hpl : plainB ops = true) (T : World → World → Prop) (F : Nat → Value → World → Prop) (G : Array Bool → (Nat → Value) → World → Prop)
    (hF : ∀ j v w w', T w w' → F j v w → F j v w') (h0 : ∀ σ, G (Array.replicate ops.size false) σ w.drew)
    (hstep : Each (StepQ P ops a0 T F G) 0 ops.toList)
    (hend : ∀ (listed : Array Bool) (σ : Nat → Value) (w : World), AllOn ops.size listed → G listed σ w → (∀ j, j < ops.size → F j (σ j) w) → Q .normal (mid ops σ listed a0) w) : (Code.region id ops true).wpIn (rnd l) n P Q a0 w := by
  refine wpIn_region_inv hm hb (fun listed a w => ∃ σ, a = mid ops σ listed a0 ∧ G listed σ w ∧ ∀ j, listed.getD j false = true → F j (σ j) w) ?_ ?_ ?_
  · exact ⟨fun _ => undef, (mid_none a0).symm, h0 _, fun j hj => by rw [rep_false] at hj; cases hj⟩
  · rintro i o listed a w hio hs hl hc hp ⟨σ, rfl, hG, hF1⟩
    exact stepQ_nextIn ho hpl hF hstep hio hl hc hp hG hF1 (fun σ' w' hG' hF' => ⟨σ', rfl, hG', hF'⟩)
  · rintro listed a w hs hall ⟨σ, rfl, hG, hF1⟩
    exact hend listed σ w hall hG (fun j hj => hF1 j (hall j hj))
end
end Go.Proofs.Ytljocjjdfgpbaaa
/- slices.Backward of Booleans: its contract as an iterator. -/
namespace Go.Proofs.Ytljocjjdfgpbaaa
open Go.RowKit Go.Shelf
open Wo

attribute [local go_sem] Oper.semAt_some
/-- What a round must leave: the box with the list, and a list of as many Booleans. -/
def KpB (Bs g n : Nat) (W W' : World) : Prop :=
  (W.cell? ⟨Bs, 0, none⟩ = some (.slice (some ⟨g, 0, none⟩) n n) → W'.cell? ⟨Bs, 0, none⟩ = some (.slice (some ⟨g, 0, none⟩) n n)) ∧
  ((∃ l : List Bool, l.length = n ∧ ABox W g l) → ∃ l : List Bool, l.length = n ∧ ABox W' g l)
def downs (n k : Nat) : List Nat := (List.range k).map fun j => n - 1 - j
theorem downs_succ (n k : Nat) : downs n (k + 1) = downs n k ++ [n - 1 - k] := by simp [downs, List.range_succ]
set_option maxRecDepth 100000 in
set_option maxHeartbeats 4000000 in
theorem backward1_in (N l Bs g n : Nat) (hn : n ≤ 1000000) (J Jx : List (Nat × Bool) → World → Prop)
    (hY : ∀ pre x W, J pre W → pre.length < n → x.1 < n → YieldAt Fence.wide (N - 1) Try.prog l #[.int .i64 (x.1 : Int), .bool x.2] W fun e W' =>
      (e = .returned (.bool true) ∧ J (pre ++ [x]) W' ∧ KpB Bs g n W W') ∨ (e = .returned (.bool false) ∧ Jx (pre ++ [x]) W'))
    (W : World) (hBs : W.cell? ⟨Bs, 0, none⟩ = some (.slice (some ⟨g, 0, none⟩) n n)) (hA : ∃ ls : List Bool, ls.length = n ∧ ABox W g ls) (h0 : J [] W) :
    CallsIn Fence.wide N Try.prog 52 #[.func (.yield l) #[] #[], .pointer (some ⟨Bs, 0, none⟩)] W fun e W' => (∃ v, e = .returned v) ∧
      ((∃ xs : List (Nat × Bool), xs.map (·.1) = downs n n ∧ J xs W') ∨ (∃ pre : List (Nat × Bool), (∃ k, k ≤ n ∧ pre.map (·.1) = downs n k) ∧ Jx pre W')) := by
  refine callsIn_of_wp Try.func52 rfl trivial ?_ rfl
  simp only [Try.ntmps52, List.size_toArray, List.length_cons, List.length_nil, Nat.reduceAdd, Nat.reduceSub, Array.replicate_succ, Array.replicate_zero, List.push_toArray, List.append_toArray, List.nil_append, List.cons_append]
  gi_wp2
  gi_loopw [3] (fun i wr => ∃ (k : Nat) (pre : List (Nat × Bool)), k ≤ n ∧ i = .int .i64 ((n : Int) - 1 - (k : Int)) ∧ pre.map (·.1) = downs n k ∧ J pre wr ∧ wr.cell? ⟨Bs, 0, none⟩ = some (.slice (some ⟨g, 0, none⟩) n n) ∧ ∃ ls : List Bool, ls.length = n ∧ ABox wr g ls)
    (fun i _ => (intOf i + 1).toNat)
  case atStart => exact ⟨0, [], Nat.zero_le _, by simp, rfl, h0, hBs, hA⟩
  case round =>
    obtain ⟨k, pre, hk, rfl, hpre, hJs, hb, ls, hls, ha⟩ := hrel
    by_cases hlt : k < n
    · obtain ⟨i, hi⟩ : ∃ i : Nat, (n : Int) - 1 - (k : Int) = (i : Int) := ⟨n - 1 - k, by omega⟩
      rw [hi]
      have hin : i < n := by omega
      have hik : i = n - 1 - k := by omega
      obtain ⟨v, hv⟩ : ∃ v, ls[i]? = some v := ⟨ls[i]'(by omega), List.getElem?_eq_getElem (by omega)⟩
      have hc := ha.cell hv
      have hpl : pre.length = k := by
        have := congrArg List.length hpre
        simpa [downs] using this
      obtain ⟨fn, tmps, assign, body, hy, hR⟩ := hY pre (i, v) wr hJs (by omega) hin
      dsimp only at hy
      have hge : (0 : Int) ≤ (i : Int) := by omega
      have HI := hide hi
      have HIK := hide hik
      have HPRE := hide hpre
      have HABX := hide (⟨hls, ha⟩ : ls.length = n ∧ ABox wr g ls)
      clear hi hik hv hpl hpre hls ha
      gi_wp2
      refine ⟨fun h => (by cases h), ?_⟩
      refine hR.mono ?_
      rintro e W3 (⟨rfl, hJ3, hk3⟩ | ⟨rfl, hJx3⟩)
      · have HK := hide (show W3.cell? ⟨Bs, 0, none⟩ = some (.slice (some ⟨g, 0, none⟩) n n) ∧ ∃ ls : List Bool, ls.length = n ∧ ABox W3 g ls from ⟨hk3.1 hb, hk3.2 ⟨ls, HABX.out.1, HABX.out.2⟩⟩)
        have HJ3 := hide hJ3
        clear hJ3 hk3 hb hc hy hR
        gi_wp2
        go_roundw
        case rel => exact ⟨k + 1, pre ++ [(i, v)], by omega, (show Value.int .i64 _ = Value.int .i64 _ from congrArg _ (by have := HI.out; omega)), by rw [List.map_append, HPRE.out, downs_succ, HIK.out]; rfl, HJ3.out, HK.out.1, HK.out.2⟩
        case measure => simp [intOf] <;> omega
      · have HJ3 := hide hJx3
        clear hJx3 hb hc hy hR
        gi_wp2
        refine bodyPost_ret (results_none rfl _ _ _) rfl ?_
        exact ⟨⟨_, rfl⟩, .inr ⟨_, ⟨k + 1, by omega, by rw [List.map_append, HPRE.out, downs_succ, HIK.out]; rfl⟩, HJ3.out⟩⟩
    · obtain rfl : k = n := by omega
      have HPRE := hide hpre
      have HJ := hide hJs
      clear hpre hls ha hJs
      gi_wp2
      go_end0
      exact ⟨⟨_, rfl⟩, .inl ⟨pre, HPRE.out, HJ.out⟩⟩
/-- slices.Backward(s): the slice is boxed. -/
theorem backward_any (A : Option Addr) (n c : Nat) (w : World) : Calls Try.prog 49 #[.slice A n c] w (fun e w' => e = .returned (.func (.func 52) #[] #[.pointer (some ⟨w.heap.size, 0, none⟩)]) ∧ w' = w.alloc (.cells #[.slice A n c] 47)) := by
  go_enter Try.func49, Try.ntmps49
  go_wp2_with fail
  go_ret
  exact ⟨rfl, rfl⟩
theorem backward_stops (N Bs g n : Nat) (hn : n ≤ 1000000) (w : World) (hBs : Bs < w.heap.size) (hg : g < w.heap.size) (hc : w.cell? ⟨Bs, 0, none⟩ = some (.slice (some ⟨g, 0, none⟩) n n)) (hA : ∃ ls : List Bool, ls.length = n ∧ ABox w g ls) :
    SeqStopsK Fence.wide N Try.prog 52 #[.pointer (some ⟨Bs, 0, none⟩)] (fun x : {x : Nat × Bool // x.1 < n} => #[Value.int .i64 (x.1.1 : Int), Value.bool x.1.2]) (KpB Bs g n) (fun xs => xs.map (·.1.1) = downs n n)
      (fun pre => ∃ k, k ≤ n ∧ pre.map (·.1.1) = downs n k) n w := fun l J Jx W hW _ _ hY h0 => by
  have hc' := (hW.cell (p := ⟨Bs, 0, none⟩) hBs).trans hc
  obtain ⟨ls, h1, h2⟩ := hA
  refine (backward1_in N l Bs g n hn (fun pre W => ∃ pre' : List {x : Nat × Bool // x.1 < n}, pre'.map (·.1) = pre ∧ J pre' W) (fun pre W => ∃ pre' : List {x : Nat × Bool // x.1 < n}, pre'.map (·.1) = pre ∧ Jx pre' W) ?_ W hc' ⟨ls, h1, Box.below h2 hW hg⟩ ⟨[], rfl, h0⟩).mono ?_
  · rintro pre x W ⟨pre', e, hJ⟩ hlen hx
    obtain ⟨fn, tmps, assign, body, hy, hR⟩ := hY pre' ⟨x, hx⟩ W hJ (by rw [← e] at hlen; simpa using hlen)
    refine ⟨fn, tmps, assign, body, hy, hR.mono ?_⟩
    rintro e9 W9 (⟨rfl, h1, h2⟩ | ⟨rfl, h1⟩)
    · exact .inl ⟨rfl, ⟨pre' ++ [⟨x, hx⟩], by rw [List.map_append, e]; rfl, h1⟩, h2⟩
    · exact .inr ⟨rfl, ⟨pre' ++ [⟨x, hx⟩], by rw [List.map_append, e]; rfl, h1⟩⟩
  · rintro e9 W9 ⟨hv, (⟨xs, hxs, xs', e, hJ⟩ | ⟨pre, ⟨k, hk, hpre⟩, pre', e, hJ⟩)⟩
    · exact ⟨hv, .inl ⟨xs', by rw [← hxs, ← e, List.map_map]; rfl, hJ⟩⟩
    · exact ⟨hv, .inr ⟨pre', ⟨k, hk, by rw [← hpre, ← e, List.map_map]; rfl⟩, hJ⟩⟩
end Go.Proofs.Ytljocjjdfgpbaaa
