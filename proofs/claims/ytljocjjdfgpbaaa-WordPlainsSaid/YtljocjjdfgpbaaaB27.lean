/- Texts of one seat, put together: Open OpenL WordLawH. -/
import Derived.Test.YtljocjjdfgpbaaaB01
import Derived.ProofKit
import Derived.OpenShut
import Derived.ShutString
import Derived.ChangeOld
import Derived.Below
import Derived.Test.YtljocjjdfgpbaaaRows
import Derived.Test.YtljocjjdfgpbaaaB07
import Derived.Deep.Strs
import Derived.Deep.Grids
import Derived.SizedLaws
import Derived.Test.YtljocjjdfgpbaaaB26
set_option linter.unusedVariables false
/- What the row's arguments are opened to. -/
namespace Go.Proofs.Ytljocjjdfgpbaaa
open Go.ChangeShapes Go.WideShapes Go.ChangeAt Go.RowKit
open Go.ChangeMaps (open_string shut_string)

theorem own : ownKnob Try.prog.godebug = none := by kernel_rfl
theorem laidOut : laidOutB Try.prog = true := by kernel_rfl

theorem wf_u32 {z : Int} (h : (Lit.int .u32 z).wf = true) : 0 ≤ z ∧ z < 4294967296 := by
  have h1 : IntKind.u32.min = 0 := rfl
  have h2 : IntKind.u32.max = 4294967295 := rfl
  simp only [Lit.wf, Bool.and_eq_true, decide_eq_true_eq] at h
  omega

end Go.Proofs.Ytljocjjdfgpbaaa
/- What a row's argument of type api.Ltl or word.Word is opened to. -/
namespace Go.Proofs.Ytljocjjdfgpbaaa
open Go.ChangeShapes Go.WideShapes Go.ChangeAt Go.RowKit Go.Deep
open Wo

theorem cellsLtl : Try.prog.cellsOf 24 = 3 := by kernel_rfl
theorem cellsLtls : Try.prog.cellsOf 22 = 1 := by kernel_rfl
theorem cellsIn : Try.prog.cellsOf 3 = 1 := by kernel_rfl
theorem cellsLetters : Try.prog.cellsOf 25 = 1 := by kernel_rfl
theorem cellsLetter : Try.prog.cellsOf 47 = 1 := by kernel_rfl
theorem cellsWord : Try.prog.cellsOf 27 = 2 := by kernel_rfl
instance : Inhabited LT := ⟨lff⟩
/-- Any block. -/
def Some_ (_ : Nat) : Prop := True
/-- What is read of letters is so long. -/
def LD {H : Type} (d : DataW H) (n : Nat) : Prop := n = 0 ∨ ∃ el sp, d = .slice el sp ∧ el.length = n
section
variable {H : Type} {enc : TypeId × Value → H} {W : World} {f : Nat} {x : DataW H × List MemPlace} {cs : List Value}
set_option maxRecDepth 100000 in
theorem open_ltl_cells : ∀ (f : Nat) (cs : List Value) (x : DataW H × List MemPlace), DataW.trod enc Try.prog W 0 (fun _ => true) true f 24 cs = some x → ∃ t : LT, DIn Some_ W t cs := by
  intro f
  induction f using Nat.strongRecOn with
  | _ f ih =>
    intro cs x h
    obtain ⟨xs, n, hn, -, hl, hlen, hf⟩ := DataW.trod_struct Try.underlying24 h
    rw [cellsLtl] at hl
    match cs, hl, xs, hlen with
    | [v0, v1, v2], _, [y0, y1, y2], _ =>
      have g0 : DataW.trod enc Try.prog W 0 (fun _ => true) true n 3 (([v0, v1, v2].drop 0).take (Try.prog.cellsOf 3)) = some y0 := hf 0 _ rfl
      have g1 : DataW.trod enc Try.prog W 0 (fun _ => true) true n 3 (([v0, v1, v2].drop 1).take (Try.prog.cellsOf 3)) = some y1 := hf 1 _ rfl
      have g2 : DataW.trod enc Try.prog W 0 (fun _ => true) true n 22 (([v0, v1, v2].drop 2).take (Try.prog.cellsOf 22)) = some y2 := hf 2 _ rfl
      rw [cellsIn] at g0 g1
      rw [cellsLtls] at g2
      obtain ⟨k, e0, -, -⟩ := DataW.trod_int Try.underlying3 g0
      obtain ⟨p, e1, -, -⟩ := DataW.trod_int Try.underlying3 g1
      injection e0 with e0
      injection e1 with e1
      subst e0 e1
      rcases DataW.trod_slice Try.underlying22 g2 with ⟨hcs, _⟩ | ⟨a, len, cap, elems, rest, m, hm, hcs, -, -, hlc, hmx, hel, hx, -⟩
      · injection hcs with hcs
        subst hcs
        exact ⟨.mk k p [], DIn.leaf _ _ _ _⟩
      · injection hcs with hcs
        subst hcs
        unfold maxLen at hmx
        obtain ⟨q, hq⟩ := choose_lt (α := LT × List Value) (n := len) (p := fun i q => q.2.length = 3 ∧ (∀ r u, q.2[r]? = some u → W.cell? (a.add (i * 3 + r)) = some u) ∧ DIn Some_ W q.1 q.2) (fun i hi => by
          have h1 := hx i hi
          rw [List.getElem?_eq_getElem (by omega)] at h1
          obtain ⟨cs', h2, h3⟩ := Option.bind_eq_some_iff.1 h1
          rw [cellsLtl] at h2
          obtain ⟨_, hlen, hcell⟩ := World.cells?_some h2
          obtain ⟨t, ht⟩ := ih m (by omega) cs' _ h3
          refine ⟨(t, cs'), hlen, fun r u hu => ?_, ht⟩
          have hr : r < 3 := by have := (List.getElem?_eq_some_iff.1 (show cs'[r]? = some u from hu)).1; omega
          rw [← show cs'[r]? = some u from hu, ← hcell r hr, add_add])
        have hform : ∀ j, j < len → a = ⟨a.block, a.off, none⟩ ∧ a.block < W.heap.size := fun j hj => by
          obtain ⟨hl3, hc3, -⟩ := hq 0 (by omega)
          have h0 := hc3 0 _ (List.getElem?_eq_getElem (by omega))
          obtain ⟨b, o, spot⟩ := a
          have hspot : spot = none := by simpa [Addr.add] using World.cell?_spot h0
          subst hspot
          exact ⟨rfl, World.block_lt_of_cell? W _ h0⟩
        refine ⟨.mk k p ((List.range len).map fun i => (q i).1), DIn.mk k p _ (some a) len cap a.block a.off (fun i => (q i).2) (by simp) hlc hmx (fun e => by cases e) (fun hn => ?_) (fun j hj => ⟨(hq j hj).1, fun r u hu => ?_⟩) (fun j t ht => ?_)⟩
        · obtain ⟨e, hlt⟩ := hform 0 hn
          exact ⟨congrArg some e, trivial, hlt⟩
        · have h0 := (hq j hj).2.1 r u hu
          rw [(hform j hj).1, add_plain, ← Nat.add_assoc] at h0
          exact h0
        · have hj : j < len := by
            rcases Nat.lt_or_ge j len with h | h
            · exact h
            · rw [List.getElem?_eq_none (by simpa using h)] at ht; cases ht
          rw [List.getElem?_map, List.getElem?_range hj] at ht
          injection ht with ht
          subst ht
          exact (hq j hj).2.2
set_option maxRecDepth 100000 in
theorem open_ltl {b : Nat} {v : Value} {d : DataW H} {p : List MemPlace} (hv : Value.okWide Try.prog W .any b 24 v)
    (h0 : DataW.Trod enc Try.prog W 0 (fun _ => true) true 24 v d p) : ∃ k q A n c t, v = .agg #[.int .i64 k, .int .i64 q, .slice A n c] ∧ DIn Some_ W t (c3 k q A n c) := by
  obtain ⟨cs, rfl, hsz⟩ := okWide_struct Try.underlying24 hv
  obtain ⟨fuel, hf⟩ := h0
  obtain ⟨t, ht⟩ := open_ltl_cells _ _ _ hf
  obtain ⟨A, n, c, e, -⟩ := ht.open_
  have e2 : cs = #[.int .i64 t.k, .int .i64 t.p, .slice A n c] := by
    cases cs
    simp only [Value.cells] at e
    simpa [c3] using e
  subst e2
  exact ⟨_, _, _, _, _, t, rfl, ht⟩
set_option maxRecDepth 100000 in
theorem open_letters (h : DataW.trod enc Try.prog W 0 (fun _ => true) true f 25 cs = some x) : ∃ A n c L, cs = [.slice A n c] ∧ LsIn Some_ W A n L ∧ n ≤ c ∧ c ≤ 9223372036854775807 ∧ (A = none → n = 0 ∧ c = 0) ∧ LD x.1 n := by
  rcases open_slice1 Try.underlying25 cellsLetter h with ⟨hcs, _⟩ | ⟨a, len, cap, m, n, V, D, Pl, hcs, -, hl, hmx, hmm, hxe, hx⟩
  · exact ⟨none, 0, 0, [], hcs, LsIn.nil _ _ _, by omega, by omega, fun _ => ⟨rfl, rfl⟩, .inl rfl⟩
  · subst hcs
    unfold maxLen at hmx
    have hlm : len ≤ m := by rw [hmm]; split <;> omega
    obtain ⟨q, hq⟩ := choose_lt (α := Option Addr × Nat × List Bool) (n := len) (p := fun i q => W.cell? (a.add i) = some (.slice q.1 q.2.2.length q.2.1) ∧ q.2.2.length ≤ q.2.1 ∧ q.2.1 ≤ 9223372036854775807 ∧ BIn Some_ W q.1 q.2.2.length q.2.2) (fun i hi => by
      obtain ⟨h1, h2⟩ := hx i (by omega)
      rcases open_bools Try.underlying47 Try.underlying4 (by kernel_rfl) h2 with ⟨hcs, _⟩ | ⟨b, l, c, B, hcs, -, hl1, hm1, -, hc1⟩
      · injection hcs with hcs
        rw [hcs] at h1
        exact ⟨(none, 0, []), h1, by simp, by simp, BIn.nil _ _ _⟩
      · injection hcs with hcs
        rw [hcs] at h1
        unfold maxLen at hm1
        refine ⟨(some b, c, (List.range l).map B), by simpa using h1, by simpa using hl1, hm1, rfl, fun h0 => ?_⟩
        have hlp : 0 < l := by simpa using h0
        have h3 := hc1 0 (by omega)
        obtain ⟨bb, o, spot⟩ := b
        have hspot : spot = none := by simpa [Addr.add] using World.cell?_spot h3
        subst hspot
        refine ⟨bb, o, rfl, trivial, World.block_lt_of_cell? W _ h3, fun j v hv => ?_⟩
        have hj : j < l := by
          rcases Nat.lt_or_ge j l with h | h
          · exact h
          · rw [List.getElem?_eq_none (by simpa using h)] at hv; cases hv
        rw [List.getElem?_map, List.getElem?_range hj] at hv
        injection hv with hv
        subst hv
        have h4 := hc1 j (by omega)
        rw [add_plain] at h4
        exact h4)
    refine ⟨some a, len, cap, (List.range len).map fun i => (q i).2.2, rfl, ⟨by simp, fun h0 => ?_⟩, hl, hmx, (fun e => by cases e), .inr ⟨_, _, congrArg Prod.fst hxe, by simp⟩⟩
    have h3 := (hq 0 h0).1
    obtain ⟨bb, o, spot⟩ := a
    have hspot : spot = none := by simpa [Addr.add] using World.cell?_spot h3
    subst hspot
    refine ⟨bb, o, rfl, trivial, World.block_lt_of_cell? W _ h3, fun j l hj => ?_⟩
    have hjl : j < len := by
      rcases Nat.lt_or_ge j len with h | h
      · exact h
      · rw [List.getElem?_eq_none (by simpa using h)] at hj; cases hj
    rw [List.getElem?_map, List.getElem?_range hjl] at hj
    injection hj with hj
    subst hj
    obtain ⟨h4, h5, h6, h7⟩ := hq j hjl
    rw [add_plain] at h4
    exact ⟨_, _, h4, h5, h6, h7⟩
set_option maxRecDepth 100000 in
theorem open_word {b : Nat} {v : Value} {d : DataW H} {p : List MemPlace} (hv : Value.okWide Try.prog W .any b 27 v)
    (h0 : DataW.Trod enc Try.prog W 0 (fun _ => true) true 27 v d p) : ∃ A1 n1 c1 L1 A2 n2 c2 L2 d1 d2, v = .agg #[.slice A1 n1 c1, .slice A2 n2 c2] ∧ d = .agg [d1, d2] ∧ LD d1 n1 ∧ LD d2 n2 ∧ LsIn Some_ W A1 n1 L1 ∧ LsIn Some_ W A2 n2 L2 ∧ n1 ≤ c1 ∧ c1 ≤ 9223372036854775807 ∧ (A1 = none → n1 = 0 ∧ c1 = 0) ∧ n2 ≤ c2 ∧ c2 ≤ 9223372036854775807 ∧ (A2 = none → n2 = 0 ∧ c2 = 0) := by
  obtain ⟨cs, rfl, hsz⟩ := okWide_struct Try.underlying27 hv
  obtain ⟨fuel, hf⟩ := h0
  obtain ⟨y0, y1, n, hxe, hl, h0, h1⟩ := trod_struct2 Try.underlying27 hf
  rw [cellsWord] at hl
  obtain ⟨cs⟩ := cs
  match cs, hl with
  | [v0, v1], _ =>
    have g0 : DataW.trod enc Try.prog W 0 (fun _ => true) true n 25 (([v0, v1].drop 0).take (Try.prog.cellsOf 25)) = some y0 := h0
    have g1 : DataW.trod enc Try.prog W 0 (fun _ => true) true n 25 (([v0, v1].drop 1).take (Try.prog.cellsOf 25)) = some y1 := h1
    rw [cellsLetters] at g0 g1
    obtain ⟨A1, n1, c1, L1, e1, p1, q1, r1, s1, u1⟩ := open_letters g0
    obtain ⟨A2, n2, c2, L2, e2, p2, q2, r2, s2, u2⟩ := open_letters g1
    injection e1 with e1
    injection e2 with e2
    subst e1 e2
    exact ⟨A1, n1, c1, L1, A2, n2, c2, L2, y0.1, y1.1, rfl, congrArg Prod.fst hxe, u1, u2, p1, p2, q1, r1, s1, q2, r2, s2⟩
theorem bytesLetters : Try.prog.bytesOf 47 = 24 := by kernel_rfl
/-- A word among what was read: its letters' number. -/
theorem word_small {ts : List TypeId} {ds : List (DataW H)} (h : (DataW.weightsEach Try.prog ts ds).all (· ≤ reachBytes) = true) {j : Nat} {d d1 d2 : DataW H} {n1 n2 : Nat} (ht : ts[j]? = some 27) (hd : ds[j]? = some d) (e : d = .agg [d1, d2]) (h1 : LD d1 n1) (h2 : LD d2 n2) : n1 ≤ 4611686018427387903 ∧ n2 ≤ 4611686018427387903 := by
  have hw := fun x hx => List.all_eq_true.1 h _ (DataW.weights_mem_each ht hd x hx)
  have hr : reachBytes = 140737488351232 := rfl
  subst e
  constructor
  · rcases h1 with h1 | ⟨el, sp, rfl, hl⟩
    · omega
    · have := hw ((el.length + sp.length) * 24) (by simp [DataW.weights, DataW.weightsEach, Try.underlying27, Try.underlying25, bytesLetters])
      rw [hr] at this
      have := of_decide_eq_true this
      omega
  · rcases h2 with h2 | ⟨el, sp, rfl, hl⟩
    · omega
    · have := hw ((el.length + sp.length) * 24) (by simp [DataW.weights, DataW.weightsEach, Try.underlying27, Try.underlying25, bytesLetters])
      rw [hr] at this
      have := of_decide_eq_true this
      omega
end
end Go.Proofs.Ytljocjjdfgpbaaa
/- The law WordHolds, walked. -/
namespace Go.Proofs.Ytljocjjdfgpbaaa
open Go.RowKit
open Wo

/-- The answer is true, and nothing that was there has turned. -/
def WYes (w : World) (e : Ending) (w' : World) : Prop := e = .returned (.bool true) ∧ Below w.heap.size w w'
theorem H_HV (L1 L2 : List (List Bool)) (f : Pr) (x : Nat) : H (L1 ++ L2).length (ltrOf (L1 ++ L2) L1.length) f x = HV L1 L2 f x := by rw [List.length_append]; rfl
set_option maxRecDepth 100000 in
set_option maxHeartbeats 16000000 in
theorem wordHolds_any (S : Nat → Prop) (kd pr : Int) (A : Option Addr) (n c : Nat) (t : LT) (A1 : Option Addr) (c1 : Nat) (L1 : List (List Bool)) (A2 : Option Addr) (c2 : Nat) (L2 : List (List Bool)) (at_ : Int) (W : World)
    (hd : DIn S W t (c3 kd pr A n c)) (h1 : LsIn S W A1 L1.length L1) (h2 : LsIn S W A2 L2.length L2) (hn : L1.length ≤ 4611686018427387903) (hm : L2.length ≤ 4611686018427387903) (hx9 : at_ ≤ 9223372036854775807) :
    Calls Try.prog 7 #[.agg #[.int .i64 kd, .int .i64 pr, .slice A n c], .agg #[.slice A1 L1.length c1, .slice A2 L2.length c2], .int .i64 at_] W (WYes W) := by
  obtain ⟨x3, x4, hb, hbz⟩ := bstart2 24 27 W #[.int .i64 kd, .int .i64 pr, .slice A n c] #[.slice A1 L1.length c1, .slice A2 L2.length c2]
  have HB := hide hb
  have X3 := hide x3
  have X4 := hide x4
  have HF := hide (fun w (h : Below W.heap.size W w) => lfew_any S t kd pr A n c A1 L1.length c1 A2 L2.length c2 L1 L2 w (hd.keep (Keep.of_below h)) (h1.keep (Keep.of_below h)) (h2.keep (Keep.of_below h)) hn hm)
  have HD := hide hd
  have H1 := hide h1
  have H2 := hide h2
  clear hb hbz hd h1 h2 x3 x4
  have HY := hide (show ∀ w', Below W.heap.size W w' → WYes W (.returned (.bool true)) w' from fun w' h => ⟨rfl, h⟩)
  go_enter Try.func7, Try.ntmps7
  go_wp2_with fail
  refine (lalive_any _).mono ?_
  rintro e w2 ⟨rfl, b2⟩
  have HB2 := hide (HB.out.next b2)
  have X3 := hide (X3.out.next b2)
  have X4 := hide (X4.out.next b2)
  clear b2
  have C0 := X3.out.cell 0 _ rfl
  have C1 := X3.out.cell 1 _ rfl
  have C2 := X3.out.cell 2 _ rfl
  have C3 := X4.out.cell 0 _ rfl
  have C4 := X4.out.cell 1 _ rfl
  go_wp2_with fail
  refine (HF.out _ HB2.out).mono ?_
  rintro e w3 ⟨bf, rfl, hf, b3⟩
  have HB3 := hide (HB2.out.next b3)
  have X3 := hide (X3.out.next b3)
  have X4 := hide (X4.out.next b3)
  clear b3 C0 C1 C2 C3 C4
  cases bf
  · clear hf
    go_wp2_with fail
    go_ret
    exact HY.out _ HB3.out
  · obtain ⟨-, hl, -, -⟩ := hf rfl
    have HL := hide hl
    clear hf hl
    have C4 := X4.out.cell 1 _ rfl
    by_cases hz : L2.length = 0
    · have C0 := X3.out.cell 0 _ rfl
      have C1 := X3.out.cell 1 _ rfl
      have C2 := X3.out.cell 2 _ rfl
      have C3 := X4.out.cell 0 _ rfl
      rw [hz] at C4
      clear HF X3 X4 HD H1 H2 HL hm
      generalize L2.length = n2 at *
      subst hz
      go_wp2_with fail
      refine (wholds_none kd pr A n c A1 L1.length c1 A2 c2 at_ _).mono ?_
      rintro e w4 ⟨rfl, b4⟩
      have HB4 := hide (HB3.out.next b4)
      clear b4
      go_wp2_with fail
      go_ret
      exact HY.out _ HB4.out
    · have g0 : ((L2.length : Int) == 0) = false := by rw [beq_eq_false_iff_ne]; omega
      go_upto_region 7 with fail
      obtain ⟨x, hx⟩ : ∃ x, x = at_.toNat := ⟨_, rfl⟩
      have hmx : ∀ (w : World) (ts : Array TypeId) (t : TypeId) (k k' : IntKind), (Builtin.max_ ts t #[.int k at_, .int k' 0]).run Try.prog w = .ok (.int k (x : Int)) w := fun w ts t k k' => by
        rw [run_max_int2]; congr 2; split <;> omega
      obtain ⟨res, hres⟩ : ∃ res, res = HV L1 L2 (norm t) x := ⟨_, rfl⟩
      have HRES := hide (show res = H (L1 ++ L2).length (ltrOf (L1 ++ L2) L1.length) (norm t) at_.toNat from by rw [H_HV, ← hx]; exact hres)
      have HRE2 := hide (show HV L1 L2 (norm t) x = res from hres.symm)
      have HH := hide (fun w (h : Below w3.heap.size w3 w) => wholds_any S t kd pr A n c A1 c1 A2 c2 L1 L2 at_ w (HD.out.keep (Keep.of_below (HB3.out.next h))) (H1.out.keep (Keep.of_below (HB3.out.next h))) (H2.out.keep (Keep.of_below (HB3.out.next h))) (by omega) (by have := HL.out; omega) hx9)
      have HR := hide (fun w (h : Below w3.heap.size w3 w) => rholds_any L1 L2 (by omega) (by have := HL.out; omega) (norm t).size t W.heap.size kd pr A n c A1 L1.length c1 A2 L2.length c2 x w (Nat.le_refl _) (by omega) (HB3.out.next h).size
        ((HD.out.sub (fun b hlt _ => (hlt : Lt W.heap.size b))).keep (Keep.of_below (HB3.out.next h))) ((H1.out.sub (fun b hlt _ => (hlt : Lt W.heap.size b))).keep (Keep.of_below (HB3.out.next h))) ((H2.out.sub (fun b hlt _ => (hlt : Lt W.heap.size b))).keep (Keep.of_below (HB3.out.next h))))
      have SOF := hide (fun w (h : Below w3.heap.size w3 w) => (⟨(X3.out.next h).cell 0 _ rfl, (X3.out.next h).cell 1 _ rfl, (X3.out.next h).cell 2 _ rfl, (X4.out.next h).cell 0 _ rfl, (X4.out.next h).cell 1 _ rfl⟩ : _ ∧ _ ∧ _ ∧ _ ∧ _))
      clear hres hx C4 HF HD H1 H2 hn hm HL X3 X4
      refine wp_drawnL (by kernel_rfl) (by kernel_rfl) (by kernel_rfl) (by kernel_rfl) (fun w w' => Below w.heap.size w w') (fun j v w => match j with | 0 => v = .agg #[.int .i64 kd, .int .i64 pr, .slice A n c] | 1 => v = .agg #[.slice A1 L1.length c1, .slice A2 L2.length c2] | 2 => v = .int .i64 at_ | 3 => v = .bool res | 4 => v = .agg #[.int .i64 kd, .int .i64 pr, .slice A n c] | 5 => v = .agg #[.slice A1 L1.length c1, .slice A2 L2.length c2] | 6 => v = .agg #[.slice A1 L1.length c1, .slice A2 L2.length c2] | 7 => v = .int .i64 at_ | 8 => v = .int .i64 (x : Int) | 9 => v = .bool res | 10 => v = .bool true | _ => True) (fun _ _ w => Below w3.heap.size w3 w) ?_ (fun _ => bl_drewN w3 1) ?_ ?_
      · intro j v w w' hT h
        match j, h with
        | 0, h => exact h
        | 1, h => exact h
        | 2, h => exact h
        | 3, h => exact h
        | 4, h => exact h
        | 5, h => exact h
        | 6, h => exact h
        | 7, h => exact h
        | 8, h => exact h
        | 9, h => exact h
        | 10, h => exact h
        | j + 11, h => trivial
      · refine ⟨?_, ?_, ?_, ?_, ?_, ?_, ?_, ?_, ?_, ?_, ?_, trivial⟩
        · intro listed σ w a hin hout hl hla hs hc hp hG hF
          refine Guarded.none rfl ?_
          have e3 : a.tmps.getD 3 undef = .pointer (some ⟨W.heap.size, 0, none⟩) := hout 3 (outB_spec (by kernel_rfl))
          have CC := SOF.out w hG; obtain ⟨C0, C1, C2, C3, C4⟩ := CC
          refine Does.val (.agg #[.int .i64 kd, .int .i64 pr, .slice A n c]) (w' := w) ?_ ⟨Below.refl _ _, rfl, hG⟩
          go_simp
        · intro listed σ w a hin hout hl hla hs hc hp hG hF
          refine Guarded.none rfl ?_
          have e4 : a.tmps.getD 4 undef = .pointer (some ⟨W.heap.size + 1, 0, none⟩) := hout 4 (outB_spec (by kernel_rfl))
          have CC := SOF.out w hG; obtain ⟨C0, C1, C2, C3, C4⟩ := CC
          refine Does.val (.agg #[.slice A1 L1.length c1, .slice A2 L2.length c2]) (w' := w) ?_ ⟨Below.refl _ _, rfl, hG⟩
          go_simp
        · intro listed σ w a hin hout hl hla hs hc hp hG hF
          refine Guarded.none rfl ?_
          have e2 : a.tmps.getD 2 undef = .int .i64 at_ := hout 2 (outB_spec (by kernel_rfl))
          refine Does.val (.int .i64 at_) (w' := w) ?_ ⟨Below.refl _ _, rfl, hG⟩
          simp only [Array.getD_eq_getD_getElem?] at e2
          go_simp
        · intro listed σ w a hin hout hl hla hs hc hp hG hF
          refine Guarded.none rfl ?_
          have e22 : a.tmps.getD 22 undef = .agg #[.int .i64 kd, .int .i64 pr, .slice A n c] := (hin 0 22 rfl (hp ⟨0, .data⟩ (by simp) rfl)).trans (hF 0 (hp ⟨0, .data⟩ (by simp) rfl))
          have e23 : a.tmps.getD 23 undef = .agg #[.slice A1 L1.length c1, .slice A2 L2.length c2] := (hin 1 23 rfl (hp ⟨1, .data⟩ (by simp) rfl)).trans (hF 1 (hp ⟨1, .data⟩ (by simp) rfl))
          have e24 : a.tmps.getD 24 undef = .int .i64 at_ := (hin 2 24 rfl (hp ⟨2, .data⟩ (by simp) rfl)).trans (hF 2 (hp ⟨2, .data⟩ (by simp) rfl))
          refine Does.call ?_ (HH.out w hG) ?_
          · go_simp
          · rintro e w' ⟨rfl, hb⟩
            exact ⟨_, rfl, hb, (congrArg Value.bool HRES.out.symm), hG.next hb⟩
        · intro listed σ w a hin hout hl hla hs hc hp hG hF
          refine Guarded.none rfl ?_
          have e3 : a.tmps.getD 3 undef = .pointer (some ⟨W.heap.size, 0, none⟩) := hout 3 (outB_spec (by kernel_rfl))
          have CC := SOF.out w hG; obtain ⟨C0, C1, C2, C3, C4⟩ := CC
          refine Does.val (.agg #[.int .i64 kd, .int .i64 pr, .slice A n c]) (w' := w) ?_ ⟨Below.refl _ _, rfl, hG⟩
          go_simp
        · intro listed σ w a hin hout hl hla hs hc hp hG hF
          refine Guarded.none rfl ?_
          have e4 : a.tmps.getD 4 undef = .pointer (some ⟨W.heap.size + 1, 0, none⟩) := hout 4 (outB_spec (by kernel_rfl))
          have CC := SOF.out w hG; obtain ⟨C0, C1, C2, C3, C4⟩ := CC
          refine Does.val (.agg #[.slice A1 L1.length c1, .slice A2 L2.length c2]) (w' := w) ?_ ⟨Below.refl _ _, rfl, hG⟩
          go_simp
        · intro listed σ w a hin hout hl hla hs hc hp hG hF
          refine Guarded.none rfl ?_
          have e27 : a.tmps.getD 27 undef = .agg #[.slice A1 L1.length c1, .slice A2 L2.length c2] := (hin 5 27 rfl (hp ⟨5, .data⟩ (by simp) rfl)).trans (hF 5 (hp ⟨5, .data⟩ (by simp) rfl))
          refine Does.call ?_ (as_any A1 L1.length c1 A2 L2.length c2 w) ?_
          · go_simp
          · rintro e w' ⟨rfl, hb⟩
            exact ⟨_, rfl, hb, rfl, hG.next hb⟩
        · intro listed σ w a hin hout hl hla hs hc hp hG hF
          refine Guarded.none rfl ?_
          have e2 : a.tmps.getD 2 undef = .int .i64 at_ := hout 2 (outB_spec (by kernel_rfl))
          refine Does.val (.int .i64 at_) (w' := w) ?_ ⟨Below.refl _ _, rfl, hG⟩
          simp only [Array.getD_eq_getD_getElem?] at e2
          go_simp
        · intro listed σ w a hin hout hl hla hs hc hp hG hF
          refine Guarded.none rfl ?_
          have e29 : a.tmps.getD 29 undef = .int .i64 at_ := (hin 7 29 rfl (hp ⟨7, .data⟩ (by simp) rfl)).trans (hF 7 (hp ⟨7, .data⟩ (by simp) rfl))
          refine Does.val (.int .i64 (x : Int)) (w' := w) ?_ ⟨Below.refl _ _, rfl, hG⟩
          simp only [Array.getD_eq_getD_getElem?] at e29
          go_simp
        · intro listed σ w a hin hout hl hla hs hc hp hG hF
          refine Guarded.none rfl ?_
          have e26 : a.tmps.getD 26 undef = .agg #[.int .i64 kd, .int .i64 pr, .slice A n c] := (hin 4 26 rfl (hp ⟨4, .data⟩ (by simp) rfl)).trans (hF 4 (hp ⟨4, .data⟩ (by simp) rfl))
          have e28 : a.tmps.getD 28 undef = .agg #[.slice A1 L1.length c1, .slice A2 L2.length c2] := (hin 6 28 rfl (hp ⟨6, .data⟩ (by simp) rfl)).trans (hF 6 (hp ⟨6, .data⟩ (by simp) rfl))
          have e30 : a.tmps.getD 30 undef = .int .i64 (x : Int) := (hin 8 30 rfl (hp ⟨8, .data⟩ (by simp) rfl)).trans (hF 8 (hp ⟨8, .data⟩ (by simp) rfl))
          refine Does.call ?_ (HR.out w hG) ?_
          · go_simp
          · rintro e w' ⟨rfl, hb⟩
            exact ⟨_, rfl, hb, (congrArg Value.bool HRE2.out), hG.next hb⟩
        · intro listed σ w a hin hout hl hla hs hc hp hG hF
          refine Guarded.none rfl ?_
          have e25 : a.tmps.getD 25 undef = .bool res := (hin 3 25 rfl (hp ⟨3, .data⟩ (by simp) rfl)).trans (hF 3 (hp ⟨3, .data⟩ (by simp) rfl))
          have e31 : a.tmps.getD 31 undef = .bool res := (hin 9 31 rfl (hp ⟨9, .data⟩ (by simp) rfl)).trans (hF 9 (hp ⟨9, .data⟩ (by simp) rfl))
          refine Does.val (.bool true) (w' := w) ?_ ⟨Below.refl _ _, rfl, hG⟩
          simp only [Array.getD_eq_getD_getElem?] at e25 e31
          go_simp
      · intro o ho
        injection ho with ho; subst ho
        intro listed σ w a hall hin hout hG hF
        refine Guarded.none rfl ?_
        have e32 : a.tmps.getD 32 undef = .bool true := (hin 10 32 rfl (by decide)).trans (hF 10 (by decide))
        refine Does.val (.bool true) (w' := w) (by simp only [Array.getD_eq_getD_getElem?] at *; go_simp) ?_
        rw [show fin _ σ (.bool true) _ = (Act.put (Act.put (Act.put (Act.put (Act.put (Act.put (Act.put (Act.put (Act.put (Act.put (Act.put (Act.put _ (some 22) (σ 0)) (some 23) (σ 1)) (some 24) (σ 2)) (some 25) (σ 3)) (some 26) (σ 4)) (some 27) (σ 5)) (some 28) (σ 6)) (some 29) (σ 7)) (some 30) (σ 8)) (some 31) (σ 9)) (some 32) (σ 10)) (some 6) (.bool true)) from (fin_all hall).trans rfl]
        simp only [Act.put, List.setIfInBounds_toArray, List.set_cons_zero, List.set_cons_succ]
        have HB9 := hide (HB3.out.next hG)
        generalize σ 0 = tt0 at *; generalize σ 1 = tt1 at *; generalize σ 2 = tt2 at *; generalize σ 3 = tt3 at *; generalize σ 4 = tt4 at *; generalize σ 5 = tt5 at *; generalize σ 6 = tt6 at *; generalize σ 7 = tt7 at *; generalize σ 8 = tt8 at *; generalize σ 9 = tt9 at *; generalize σ 10 = tt10 at *
        clear hF hG hall hin hout SOF
        go_wp2_with fail
        go_ret
        exact HY.out _ HB9.out
theorem wordHolds_walk (kd pr : Int) (A : Option Addr) (n c : Nat) (t : LT) (A1 : Option Addr) (n1 c1 : Nat) (L1 : List (List Bool)) (A2 : Option Addr) (n2 c2 : Nat) (L2 : List (List Bool)) (at_ : Int) (W : World)
    (hd : DIn Some_ W t (c3 kd pr A n c)) (h1 : LsIn Some_ W A1 n1 L1) (h2 : LsIn Some_ W A2 n2 L2) (_ : n1 ≤ c1) (_ : c1 ≤ 9223372036854775807) (_ : A1 = none → n1 = 0 ∧ c1 = 0) (_ : n2 ≤ c2) (_ : c2 ≤ 9223372036854775807) (_ : A2 = none → n2 = 0 ∧ c2 = 0)
    (hn : n1 ≤ 4611686018427387903) (hm : n2 ≤ 4611686018427387903) (_ : -9223372036854775808 ≤ at_) (hx9 : at_ ≤ 9223372036854775807) :
    Calls Try.prog 7 #[.agg #[.int .i64 kd, .int .i64 pr, .slice A n c], .agg #[.slice A1 n1 c1, .slice A2 n2 c2], .int .i64 at_] W (WYes W) := by
  obtain rfl := h1.1
  obtain rfl := h2.1
  exact wordHolds_any Some_ kd pr A n c t A1 c1 L1 A2 c2 L2 at_ W hd h1 h2 hn hm hx9
end Go.Proofs.Ytljocjjdfgpbaaa
