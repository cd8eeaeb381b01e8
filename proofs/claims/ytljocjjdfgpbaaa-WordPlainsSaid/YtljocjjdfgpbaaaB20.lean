/- Texts of one seat, put together: WordEq TwoP WordSame WordX. -/
import Derived.Test.YtljocjjdfgpbaaaB19
import Derived.Test.YtljocjjdfgpbaaaB04
import Derived.Test.YtljocjjdfgpbaaaB07
set_option linter.unusedVariables false
/- When two properties are the same as far as they count. -/
namespace Go.Proofs.Ytljocjjdfgpbaaa
open Go.RowKit
open Wo

theorem cnt_form (t : LT) : cnt t = .mk 0 0 [] ∨ cnt t = .mk 1 0 [] ∨ (∃ p, cnt t = .mk 2 p []) ∨ (∃ k a, arity k = 1 ∧ cnt t = .mk k 0 [a]) ∨ ∃ k a b, arity k = 2 ∧ cnt t = .mk k 0 [a, b] := by
  by_cases h0 : t.k = 0
  · exact .inl (by unfold cnt; rw [if_pos h0])
  by_cases h1 : t.k = 1
  · exact .inr (.inl (by unfold cnt; rw [if_neg h0, if_pos h1]))
  by_cases h2 : t.k = 2
  · exact .inr (.inr (.inl ⟨t.p, by unfold cnt; rw [if_neg h0, if_neg h1, if_pos h2]⟩))
  have h9 := arity_le t.k
  by_cases ha : arity t.k = 0
  · exact .inr (.inl (cnt_other rfl h0 h1 h2 ha))
  · have hc := cnt_one (t := t) rfl rfl (by omega : 0 < arity t.k)
    have hl := pad_len (kids := t.kids) (q := arity t.k) (by omega)
    by_cases h : arity t.k = 1
    · rw [h] at hl hc
      obtain ⟨a, hp⟩ := List.length_eq_one_iff.1 hl
      exact .inr (.inr (.inr (.inl ⟨t.k, a, h, by rw [hc, hp]⟩)))
    · have h2 : arity t.k = 2 := by omega
      rw [h2] at hl hc
      rcases hp : pad t.kids 2 with _ | ⟨a, _ | ⟨b, _ | ⟨c, r⟩⟩⟩
      · rw [hp] at hl; cases hl
      · rw [hp] at hl; cases hl
      · exact .inr (.inr (.inr (.inr ⟨t.k, a, b, h2, by rw [hc, hp]⟩)))
      · rw [hp] at hl; simp at hl
theorem norm_f0 : norm (.mk 0 0 []) = .tt := by rw [norm_eq]; rfl
theorem norm_f1 : norm (.mk 1 0 []) = .ff := by rw [norm_eq]; decide
theorem norm_f2 (p : Int) : norm (.mk 2 p []) = .cmp p := by rw [norm_eq]; rfl
theorem norm_fa {k : Int} {a : LT} (h : arity k = 1) : norm (.mk k 0 [a]) = .una k.toNat (norm a) := by
  have h3 := arity_one h
  rw [norm_eq]
  show (if k = 0 then Pr.tt else if k = 2 then Pr.cmp 0 else if arity k = 1 then Pr.una k.toNat (norm a) else if arity k = 2 then Pr.bin k.toNat (norm a) (norm lff) else .ff) = _
  rw [if_neg (by omega), if_neg (by omega), if_pos h]
theorem norm_fb {k : Int} {a b : LT} (h : arity k = 2) : norm (.mk k 0 [a, b]) = .bin k.toNat (norm a) (norm b) := by
  have h3 := arity_two h
  rw [norm_eq]
  show (if k = 0 then Pr.tt else if k = 2 then Pr.cmp 0 else if arity k = 1 then Pr.una k.toNat (norm a) else if arity k = 2 then Pr.bin k.toNat (norm a) (norm b) else .ff) = _
  rw [if_neg (by omega), if_neg (by omega), if_neg (by omega), if_pos h]
/-- The same as far as they count: kind, atom and kids. -/
def sameK (t u : LT) : Prop := (cnt t).k = (cnt u).k ∧ (cnt t).p = (cnt u).p ∧ (cnt t).kids.map norm = (cnt u).kids.map norm
theorem una_iff {k k' : Int} {a b : Pr} (h : arity k = 1) (h' : arity k' = 1) : Pr.una k.toNat a = Pr.una k'.toNat b ↔ k = k' ∧ a = b := by
  have h1 := arity_one h
  have h2 := arity_one h'
  constructor
  · intro e; injection e with e1 e2; exact ⟨by omega, e2⟩
  · rintro ⟨rfl, rfl⟩; rfl
theorem bin_iff {k k' : Int} {a b c d : Pr} (h : arity k = 2) (h' : arity k' = 2) : Pr.bin k.toNat a b = Pr.bin k'.toNat c d ↔ k = k' ∧ a = c ∧ b = d := by
  have h1 := arity_two h
  have h2 := arity_two h'
  constructor
  · intro e; injection e with e1 e2 e3; exact ⟨by omega, e2, e3⟩
  · rintro ⟨rfl, rfl, rfl⟩; rfl
theorem norm_same (t u : LT) : norm t = norm u ↔ sameK t u := by
  rw [← norm_cnt t, ← norm_cnt u]
  unfold sameK
  rcases cnt_form t with h | h | ⟨p, h⟩ | ⟨k, a, hk, h⟩ | ⟨k, a, b, hk, h⟩ <;> rcases cnt_form u with g | g | ⟨q, g⟩ | ⟨m, c, hm, g⟩ | ⟨m, c, d, hm, g⟩ <;> rw [h, g] <;>
    simp [norm_f0, norm_f1, norm_f2, LT.k, LT.p, LT.kids, *, norm_fa, norm_fb, una_iff, bin_iff]
  · intro _; have h1 := arity_one hk; have h2 := arity_one hm; omega
  · intro _ _; have h1 := arity_two hk; have h2 := arity_two hm; omega
/-- The kids from the first on, as far as they go: the same. -/
theorem norm_same_step {ks us : List LT} {q : Nat} {x y : LT} (hx : ks[q]? = some x) (hy : us[q]? = some y) (h : (ks.take q).map norm = (us.take q).map norm) (hxy : norm x = norm y) : (ks.take (q + 1)).map norm = (us.take (q + 1)).map norm := by
  rw [List.take_add_one, List.take_add_one, hx, hy]
  simp only [Option.toList_some, List.map_append, List.map_cons, List.map_nil]
  rw [h, hxy]
theorem norm_same_not {ks us : List LT} {q : Nat} {x y : LT} (hx : ks[q]? = some x) (hy : us[q]? = some y) (hxy : norm x ≠ norm y) : ks.map norm ≠ us.map norm := by
  intro h
  have h1 : (ks.map norm)[q]? = (us.map norm)[q]? := by rw [h]
  rw [List.getElem?_map, List.getElem?_map, hx, hy] at h1
  injection h1 with h1
  exact hxy h1
end Go.Proofs.Ytljocjjdfgpbaaa
/- A region that draws its order and ends in two stores of structs, of which facts are known, into known variables. -/
namespace Go.Proofs.Ytljocjjdfgpbaaa
open Go.RowKit

/-- All blocks but two are what they were. -/
structure K2 (r q : Nat) (w w' : World) : Prop where
  os : w'.os = w.os
  tape : w'.tape = w.tape
  output : w'.output = w.output
  size : w.heap.size ≤ w'.heap.size
  block : ∀ b, b < w.heap.size → b ≠ r → b ≠ q → w'.heap[b]? = w.heap[b]?
theorem K2.refl (r q : Nat) (w : World) : K2 r q w w := ⟨rfl, rfl, rfl, Nat.le_refl _, fun _ _ _ _ => rfl⟩
theorem K2.trans {r q : Nat} {a b c : World} (h : K2 r q a b) (k : K2 r q b c) : K2 r q a c :=
  ⟨k.os.trans h.os, k.tape.trans h.tape, k.output.trans h.output, Nat.le_trans h.size k.size, fun i hi h1 h2 => (k.block i (Nat.lt_of_lt_of_le hi h.size) h1 h2).trans (h.block i hi h1 h2)⟩
theorem K2.of_below {r q : Nat} {w w' : World} (h : Below w.heap.size w w') : K2 r q w w' := ⟨h.os, h.tape, h.output, h.size, fun i hi _ _ => h.block i hi⟩
theorem K2.fst {r q : Nat} {w w' : World} (ho : Only r w w') : K2 r q w w' := ⟨ho.os, ho.tape, ho.output, ho.size, fun i hi h1 _ => ho.block i hi (fun e => h1 (by injection e))⟩
theorem K2.snd {r q : Nat} {w w' : World} (ho : Only q w w') : K2 r q w w' := ⟨ho.os, ho.tape, ho.output, ho.size, fun i hi _ h2 => ho.block i hi (fun e => h2 (by injection e))⟩
theorem K2.below {r q B : Nat} {w w' : World} (h : K2 r q w w') (hB : B ≤ w.heap.size) (hr : B ≤ r) (hq : B ≤ q) : Below B w w' :=
  ⟨h.os, h.tape, h.output, h.size, fun b hb => h.block b (by omega) (by omega) (by omega)⟩
theorem K2.box {r q g : Nat} {T : TypeId} {cs : Array Value} {w w' : World} (h : K2 r q w w') (hb : Box T w g cs) (hr : g ≠ r) (hq : g ≠ q) : Box T w' g cs := (h.block g hb.lt hr hq).trans hb
theorem K2.keep {r q : Nat} {S : Nat → Prop} {w w' : World} (h : K2 r q w w') (hr : ¬ S r) (hq : ¬ S q) : Keep S w w' :=
  ⟨h.size, fun b hS hb => h.block b hb (fun e => hr (e ▸ hS)) (fun e => hq (e ▸ hS))⟩
theorem K2.cell {r q g o : Nat} {w w' : World} (h : K2 r q w w') (hg : g < w.heap.size) (hr : g ≠ r) (hq : g ≠ q) : w'.cell? ⟨g, o, none⟩ = w.cell? ⟨g, o, none⟩ :=
  World.cell?_of_block (w := w) (a := ⟨g, o, none⟩) (h.block g hg hr hq)
theorem Does.store_boxE {P : Program} {w : World} {o : Oper} {a : Act} {T : TypeId} {x y g : Nat} {cells old : Array Value} {R : Value → World → Prop} (ho : o.op = .store T (.tmp x) (.tmp y)) (hx : a.tmps.getD x undef = .pointer (some ⟨g, 0, none⟩)) (hy : a.tmps.getD y undef = .agg cells) (hb : Box T w g old)
    (hi : (P.info? T).map (·.size) = some cells.size) (hold : old.size = cells.size) (h1 : cells.all (·.oneCell') = true) (hR : ∀ w', Box T w' g cells → Only g w w' → w'.heap.size = w.heap.size → R undef w') : Does P a o w R := by
  refine Does.skip (w' := w.setRow g cells) ?_ (hR _ (setRow_heap w g old cells _ _ hb) (only_setRow2 w g _) (by simp [World.setRow]))
  unfold execOp
  have hx' : a.eval (.tmp x) = .pointer (some ⟨g, 0, none⟩) := hx
  have hy' : a.eval (.tmp y) = .agg cells := hy
  simp only [ho, hx', hy', Instr.storeAt, Instr.sureAddr, Sem.run_bind, Sem.run_pure, Result.andThen_ok, run_storeVar_row w g T T old cells hb hi hold h1]
/-- What has come up of the two stores: operation s1 into r, s2 into q; P1 and P2 say what they store. -/
structure GP (W0 : World) (r s1 : Nat) (T1 : TypeId) (C1 : Array Value) (P1 : Array Value → World → Prop) (q s2 : Nat) (T2 : TypeId) (C2 : Array Value) (P2 : Array Value → World → Prop) (listed : Array Bool) (_σ : Nat → Value) (w : World) : Prop where
  k : K2 r q W0 w
  b1 : ∃ c, c.size = C1.size ∧ Box T1 w r c ∧ (listed.getD s1 false = false → c = C1) ∧ (listed.getD s1 false = true → P1 c w)
  b2 : ∃ c, c.size = C2.size ∧ Box T2 w q c ∧ (listed.getD s2 false = false → c = C2) ∧ (listed.getD s2 false = true → P2 c w)
  big : s1 < listed.size ∧ s2 < listed.size
section
variable {W0 w w' : World} {r s1 q s2 : Nat} {T1 T2 : TypeId} {C1 C2 : Array Value} {P1 P2 : Array Value → World → Prop} {listed : Array Bool} {σ τ : Nat → Value}
theorem GP.start {n : Nat} (h1 : Box T1 w r C1) (h2 : Box T2 w q C2) (hb : Below W0.heap.size W0 w) (hn : s1 < n ∧ s2 < n) : GP W0 r s1 T1 C1 P1 q s2 T2 C2 P2 (Array.replicate n false) σ w :=
  ⟨K2.of_below hb, ⟨C1, rfl, h1, fun _ => rfl, fun h => by rw [rep_false] at h; cases h⟩, ⟨C2, rfl, h2, fun _ => rfl, fun h => by rw [rep_false] at h; cases h⟩, by simpa using hn⟩
theorem GP.next {i : Nat} (hP1 : ∀ c w w', K2 r q w w' → P1 c w → P1 c w') (hP2 : ∀ c w w', K2 r q w w' → P2 c w → P2 c w') (h : GP W0 r s1 T1 C1 P1 q s2 T2 C2 P2 listed σ w) (hb : Below w.heap.size w w') (h1 : i ≠ s1) (h2 : i ≠ s2) : GP W0 r s1 T1 C1 P1 q s2 T2 C2 P2 (listed.setIfInBounds i true) τ w' := by
  refine ⟨h.k.trans (K2.of_below hb), ?_, ?_, by simpa using h.big⟩
  · obtain ⟨c, z, b, e, p⟩ := h.b1
    exact ⟨c, z, b.next hb, fun hl => e (by rw [getD_set_ne false h1] at hl; exact hl), fun hl => hP1 _ _ _ (K2.of_below hb) (p (by rw [getD_set_ne false h1] at hl; exact hl))⟩
  · obtain ⟨c, z, b, e, p⟩ := h.b2
    exact ⟨c, z, b.next hb, fun hl => e (by rw [getD_set_ne false h2] at hl; exact hl), fun hl => hP2 _ _ _ (K2.of_below hb) (p (by rw [getD_set_ne false h2] at hl; exact hl))⟩
theorem GP.st1 {c' : Array Value} (hP2 : ∀ c w w', K2 r q w w' → P2 c w → P2 c w') (h : GP W0 r s1 T1 C1 P1 q s2 T2 C2 P2 listed σ w) (hrq : r ≠ q) (h12 : s1 ≠ s2) (z' : c'.size = C1.size) (x : Box T1 w' r c') (ho : Only r w w') (hp : P1 c' w') : K2 r q w w' ∧ GP W0 r s1 T1 C1 P1 q s2 T2 C2 P2 (listed.setIfInBounds s1 true) τ w' := by
  refine ⟨K2.fst ho, h.k.trans (K2.fst ho), ⟨c', z', x, fun hl => ?_, fun _ => hp⟩, ?_, by simpa using h.big⟩
  · have := h.big.1
    simp [Array.getD, this] at hl
  · obtain ⟨c, z, b, e, p⟩ := h.b2
    exact ⟨c, z, b.other ho (Ne.symm hrq), fun hl => e (by rw [getD_set_ne false h12] at hl; exact hl), fun hl => hP2 _ _ _ (K2.fst ho) (p (by rw [getD_set_ne false h12] at hl; exact hl))⟩
theorem GP.st2 {c' : Array Value} (hP1 : ∀ c w w', K2 r q w w' → P1 c w → P1 c w') (h : GP W0 r s1 T1 C1 P1 q s2 T2 C2 P2 listed σ w) (hrq : r ≠ q) (h12 : s1 ≠ s2) (z' : c'.size = C2.size) (x : Box T2 w' q c') (ho : Only q w w') (hp : P2 c' w') : K2 r q w w' ∧ GP W0 r s1 T1 C1 P1 q s2 T2 C2 P2 (listed.setIfInBounds s2 true) τ w' := by
  refine ⟨K2.snd ho, h.k.trans (K2.snd ho), ?_, ⟨c', z', x, fun hl => ?_, fun _ => hp⟩, by simpa using h.big⟩
  · obtain ⟨c, z, b, e, p⟩ := h.b1
    exact ⟨c, z, b.other ho hrq, fun hl => e (by rw [getD_set_ne false (Ne.symm h12)] at hl; exact hl), fun hl => hP1 _ _ _ (K2.snd ho) (p (by rw [getD_set_ne false (Ne.symm h12)] at hl; exact hl))⟩
  · have := h.big.2
    simp [Array.getD, this] at hl
end
end Go.Proofs.Ytljocjjdfgpbaaa
/- word.Same. -/
namespace Go.Proofs.Ytljocjjdfgpbaaa
open Go.RowKit
open Wo

/-- The cells are a property's. -/
def CB (U : Nat → Prop) (t : LT) (c : Array Value) (w : World) : Prop := ∃ k p A n d, c = #[.int .i64 k, .int .i64 p, .slice A n d] ∧ DIn U w t (c3 k p A n d)
theorem CB.k2 {U : Nat → Prop} {t : LT} {r q : Nat} (hr : ¬ U r) (hq : ¬ U q) : ∀ c w w', K2 r q w w' → CB U t c w → CB U t c w' := by
  rintro c w w' hk ⟨k, p, A, n, d, e, h⟩
  exact ⟨k, p, A, n, d, e, h.keep (hk.keep hr hq)⟩
def SamePost (b : Bool) (w : World) (e : Ending) (w' : World) : Prop := e = .returned (.bool b) ∧ Below w.heap.size w w'
set_option maxRecDepth 100000 in
set_option maxHeartbeats 8000000 in
theorem equalF_any (S S' : Nat → Prop) (A A' : Option Addr) (n c n' c' : Nat) (ks us : List LT) (w0 : World) (hn9 : n ≤ 1000) (hn9' : n' ≤ 1000) (hk : KsIn S w0 A n ks) (hu : KsIn S' w0 A' n' us)
    (hcall : ∀ (j : Nat) (x y : LT), ks[j]? = some x → us[j]? = some y → ∀ (k p : Int) (B : Option Addr) (m d : Nat) (k' p' : Int) (B' : Option Addr) (m' d' : Nat) (W : World), Below w0.heap.size w0 W → DIn S W x (c3 k p B m d) → DIn S' W y (c3 k' p' B' m' d') →
      Calls Try.prog 21 #[.agg #[.int .i64 k, .int .i64 p, .slice B m d], .agg #[.int .i64 k', .int .i64 p', .slice B' m' d']] W (SamePost (decide (norm x = norm y)) W)) :
    Calls Try.prog 38 #[.slice A n c, .slice A' n' c', .func (.func 21) #[] #[]] w0 (SamePost (decide (ks.map norm = us.map norm)) w0) := by
  by_cases hn : n = n'
  · subst hn
    have hF : ∀ args W, (callFunc 21 args).run Try.prog W = .ok (.enter 21 args) W := fun _ _ => rfl
    have HKS := hide hk
    have HUS := hide hu
    have HC := hide hcall
    have HT := hide (show ∀ W, Below w0.heap.size w0 W → ks.map norm = us.map norm → SamePost (decide (ks.map norm = us.map norm)) w0 (.returned (.bool true)) W from fun W h e => ⟨by rw [decide_eq_true e], h⟩)
    have HF := hide (show ∀ W (q : Nat) (x y : LT), Below w0.heap.size w0 W → ks[q]? = some x → us[q]? = some y → norm x ≠ norm y → SamePost (decide (ks.map norm = us.map norm)) w0 (.returned (.bool false)) W from fun W q x y h hx hy hxy => ⟨by rw [decide_eq_false (norm_same_not hx hy hxy)], h⟩)
    have HS0 := hide (show Below w0.heap.size w0 w0 from Below.refl _ _)
    have g0 : ((n : Int) != n) = false := by simp
    clear hk hu hcall
    go_enter Try.func38, Try.ntmps38
    go_wp2_with fail
    go_loopw [17] (fun i wr => ∃ q : Nat, q ≤ n ∧ i = .int .i64 q ∧ Hid ((ks.take q).map norm = (us.take q).map norm) ∧ Hid (Below w0.heap.size w0 wr)) (fun i _ => n - (intOf i).toNat)
    case atStart => exact ⟨0, Nat.zero_le _, rfl, hide rfl, HS0⟩
    case round =>
      obtain ⟨q, hq, rfl, HE, HR⟩ := hrel
      by_cases hqn : q < n
      · obtain ⟨be, oe, tK, kK, pK, AK, nK, cK, hA5, hlt, hkid, hdk, d0, d1, d2⟩ := (HKS.out.keep (Keep.of_below HR.out)).at_ hqn
        obtain ⟨be', oe', tU, kU, pU, AU, nU, cU, hA6, hlt', hkid', hdu, f0, f1, f2⟩ := (HUS.out.keep (Keep.of_below HR.out)).at_ hqn
        subst hA5 hA6
        have HX := hide hkid
        have HY := hide hkid'
        have HDK := hide hdk
        have HDU := hide hdu
        clear hkid hkid' hdk hdu
        go_wp2_with fail
        have hb9 := (bl_alloc wr (.cells #[.int .i64 kK, .int .i64 pK, .slice AK nK cK] 24)).next (bl_alloc _ (.cells #[.int .i64 kU, .int .i64 pU, .slice AU nU cU] 24))
        refine (HC.out q tK tU HX.out HY.out _ _ _ _ _ _ _ _ _ _ _ (HR.out.next hb9) (HDK.out.keep (Keep.of_below hb9)) (HDU.out.keep (Keep.of_below hb9))).mono ?_
        rintro e w8 ⟨rfl, b8⟩
        have HR8 := hide ((HR.out.next hb9).next b8)
        clear b8 hb9 d0 d1 d2 f0 f1 f2
        by_cases hxy : norm tK = norm tU
        · have HST := hide (norm_same_step HX.out HY.out HE.out hxy)
          rw [decide_eq_true hxy]
          clear hxy
          go_wp2_with fail
          go_roundw
          case rel => exact ⟨q + 1, by omega, by go_num, HST, HR8⟩
          case measure => simp [intOf]; omega
        · have HNN := hide (HF.out w8 q tK tU HR8.out HX.out HY.out hxy)
          rw [decide_eq_false hxy]
          clear hxy
          go_wp2_with fail
          go_ret
          exact HNN.out
      · obtain rfl : q = n := by omega
        have HA := hide (HT.out wr HR.out (by have h := HE.out; rw [List.take_of_length_le (by rw [HKS.out.1]; exact Nat.le_refl _), List.take_of_length_le (by rw [HUS.out.1]; exact Nat.le_refl _)] at h; exact h))
        go_wp2_with fail
        go_ret
        exact HA.out
  · have g0 : ((n : Int) != n') = true := by simp; omega
    have g1 : ((n : Int) == n') = false := by simp; omega
    have g2 : ¬ (n : Int) = n' := by omega
    have HN := hide (show ks.map norm ≠ us.map norm from fun h => hn (by have := congrArg List.length h; rw [List.length_map, List.length_map, hk.1, hu.1] at this; exact this))
    clear hk hu hcall
    go_enter Try.func38, Try.ntmps38
    go_wp2_with fail
    go_ret
    exact ⟨by rw [decide_eq_false HN.out]; rfl, Below.refl _ _⟩
set_option maxRecDepth 100000 in
set_option maxHeartbeats 16000000 in
theorem wsame_any (Z : Nat) : ∀ (S S' : Nat → Prop) (t u : LT) (k p : Int) (A : Option Addr) (n c : Nat) (k' p' : Int) (A' : Option Addr) (n' c' : Nat) (w0 : World), (norm t).size ≤ Z → DIn S w0 t (c3 k p A n c) → DIn S' w0 u (c3 k' p' A' n' c') →
    Calls Try.prog 21 #[.agg #[.int .i64 k, .int .i64 p, .slice A n c], .agg #[.int .i64 k', .int .i64 p', .slice A' n' c']] w0 (SamePost (decide (norm t = norm u)) w0) := by
  induction Z with
  | zero => intro S S' t u k p A n c k' p' A' n' c' w0 hz; have := (norm t).size_pos; omega
  | succ Z ih =>
    intro S S' t u k p A n c k' p' A' n' c' w0 hz hd0 hu0
    obtain ⟨V, hV⟩ : ∃ V : Nat → Prop, V = UpN (fun b => S b ∨ S' b) w0.heap.size := ⟨_, rfl⟩
    have hd := hd0.sub (S' := V) (fun b hlt hs => by rw [hV]; exact ⟨.inl hs, hlt⟩)
    have hu := hu0.sub (S' := V) (fun b hlt hs => by rw [hV]; exact ⟨.inr hs, hlt⟩)
    obtain ⟨x1, x2, hb, hbz⟩ := bstart2 24 24 w0 #[.int .i64 k, .int .i64 p, .slice A n c] #[.int .i64 k', .int .i64 p', .slice A' n' c']
    have HU1 := hide (show ¬ Up V (w0.heap.size + 2) w0.heap.size from fun h => by rw [hV] at h; rcases h with ⟨-, h⟩ | h <;> omega)
    have HU2 := hide (show ¬ Up V (w0.heap.size + 2) (w0.heap.size + 1) from fun h => by rw [hV] at h; rcases h with ⟨-, h⟩ | h <;> omega)
    have HV := hide hV
    have HX1 := hide x1
    have HX2 := hide x2
    have HB := hide hb
    have HM := hide hbz
    have HD := hide (hd.keep (Keep.of_below hb))
    have HU := hide (hu.keep (Keep.of_below hb))
    have HSM := hide (fun (q : Nat) (hq : q < (cnt t).kids.length) => cnt_small hz hq)
    have HIH := hide ih
    have HNS := hide (norm_same t u)
    clear hb hbz hd hu hd0 hu0 x1 x2 hV ih
    go_enter Try.func21, Try.ntmps21
    go_upto_region 1 with fail
    generalize hW : (w0.alloc (.cells #[.int .i64 k, .int .i64 p, .slice A n c] 24)).alloc (.cells #[.int .i64 k', .int .i64 p', .slice A' n' c'] 24) = W1 at *
    clear hW
    have HP1 := hide (CB.k2 (t := cnt t) HU1.out HU2.out)
    have HP2 := hide (CB.k2 (t := cnt u) HU1.out HU2.out)
    have HVk := hide (show ∀ w, K2 w0.heap.size (w0.heap.size + 1) W1 w → Keep V W1 w from fun w h => h.keep (fun q => HU1.out (.inl q)) (fun q => HU2.out (.inl q)))
    have HCT := hide (fun w (h : K2 w0.heap.size (w0.heap.size + 1) W1 w) => counted_any V t k p A n c w (HD.out.keep (HVk.out w h)))
    have HCU := hide (fun w (h : K2 w0.heap.size (w0.heap.size + 1) W1 w) => counted_any V u k' p' A' n' c' w (HU.out.keep (HVk.out w h)))
    refine wp_drawn (by kernel_rfl) (by kernel_rfl) (by kernel_rfl) (K2 (w0.heap.size) (w0.heap.size + 1)) (fun j v w => match j with | 0 => v = .agg #[.int .i64 k, .int .i64 p, .slice A n c] | 1 => ∃ k p A n d, v = .agg #[.int .i64 k, .int .i64 p, .slice A n d] ∧ DIn (Up V (w0.heap.size + 2)) w (cnt t) (c3 k p A n d) | 2 => v = .agg #[.int .i64 k', .int .i64 p', .slice A' n' c'] | 3 => ∃ k p A n d, v = .agg #[.int .i64 k, .int .i64 p, .slice A n d] ∧ DIn (Up V (w0.heap.size + 2)) w (cnt u) (c3 k p A n d) | 4 => True | 5 => True | _ => True) (GP W1 (w0.heap.size) 4 24 #[.int .i64 k, .int .i64 p, .slice A n c] (CB (Up V (w0.heap.size + 2)) (cnt t)) (w0.heap.size + 1) 5 24 #[.int .i64 k', .int .i64 p', .slice A' n' c'] (CB (Up V (w0.heap.size + 2)) (cnt u))) ?_ (fun _ => GP.start ((HX1.out).drew) ((HX2.out).drew) (bl_drewN W1 1) (by decide)) ?_ ?_
    · intro j v w w' hT h
      match j, h with
      | 0, h => exact h
      | 1, h => exact (by obtain ⟨k, p, A, n, d, e, h⟩ := h; exact ⟨k, p, A, n, d, e, h.keep (hT.keep HU1.out HU2.out)⟩)
      | 2, h => exact h
      | 3, h => exact (by obtain ⟨k, p, A, n, d, e, h⟩ := h; exact ⟨k, p, A, n, d, e, h.keep (hT.keep HU1.out HU2.out)⟩)
      | 4, h => trivial
      | 5, h => trivial
      | j + 6, h => trivial
    · refine ⟨?_, ?_, ?_, ?_, ?_, ?_, trivial⟩
      · intro listed σ w a hin hout hl hc hp hG hF
        refine Guarded.none rfl ?_
        have e2 : a.tmps.getD 2 undef = .pointer (some ⟨w0.heap.size, 0, none⟩) := hout 2 (outB_spec (by kernel_rfl))
        obtain ⟨cc, zz, bb, h0, -⟩ := hG.b1
        have h0 := h0 (un_next (k := 4) hc hl (by kernel_rfl))
        subst h0
        have C0 := bb.cell 0 _ rfl; have C1 := bb.cell 1 _ rfl; have C2 := bb.cell 2 _ rfl
        refine Does.val (.agg #[.int .i64 k, .int .i64 p, .slice A n c]) (w' := w) ?_ ⟨K2.refl _ _ _, rfl, GP.next HP1.out HP2.out hG (Below.refl _ _) (by decide) (by decide)⟩
        go_simp
      · intro listed σ w a hin hout hl hc hp hG hF
        refine Guarded.none rfl ?_
        have e5 : a.tmps.getD 5 undef = .agg #[.int .i64 k, .int .i64 p, .slice A n c] := (hin 0 5 rfl (hp ⟨0, .data⟩ (by simp) rfl)).trans (hF 0 (hp ⟨0, .data⟩ (by simp) rfl))
        refine Does.call ?_ (HCT.out w hG.k) ?_
        · go_simp
        · rintro e w' ⟨k2, p2, A2, n2, c2, rfl, hd2, b2⟩
          exact ⟨_, rfl, K2.of_below b2, ⟨k2, p2, A2, n2, c2, rfl, hd2.sub (fun b _ h => h.imp id (fun h => Nat.le_trans (Nat.le_trans (Nat.le_of_eq HM.out.symm) hG.k.size) h))⟩, GP.next HP1.out HP2.out hG b2 (by decide) (by decide)⟩
      · intro listed σ w a hin hout hl hc hp hG hF
        refine Guarded.none rfl ?_
        have e3 : a.tmps.getD 3 undef = .pointer (some ⟨w0.heap.size + 1, 0, none⟩) := hout 3 (outB_spec (by kernel_rfl))
        obtain ⟨cc, zz, bb, h0, -⟩ := hG.b2
        have h0 := h0 (un_next (k := 5) hc hl (by kernel_rfl))
        subst h0
        have C0 := bb.cell 0 _ rfl; have C1 := bb.cell 1 _ rfl; have C2 := bb.cell 2 _ rfl
        refine Does.val (.agg #[.int .i64 k', .int .i64 p', .slice A' n' c']) (w' := w) ?_ ⟨K2.refl _ _ _, rfl, GP.next HP1.out HP2.out hG (Below.refl _ _) (by decide) (by decide)⟩
        go_simp
      · intro listed σ w a hin hout hl hc hp hG hF
        refine Guarded.none rfl ?_
        have e7 : a.tmps.getD 7 undef = .agg #[.int .i64 k', .int .i64 p', .slice A' n' c'] := (hin 2 7 rfl (hp ⟨2, .data⟩ (by simp) rfl)).trans (hF 2 (hp ⟨2, .data⟩ (by simp) rfl))
        refine Does.call ?_ (HCU.out w hG.k) ?_
        · go_simp
        · rintro e w' ⟨k2, p2, A2, n2, c2, rfl, hd2, b2⟩
          exact ⟨_, rfl, K2.of_below b2, ⟨k2, p2, A2, n2, c2, rfl, hd2.sub (fun b _ h => h.imp id (fun h => Nat.le_trans (Nat.le_trans (Nat.le_of_eq HM.out.symm) hG.k.size) h))⟩, GP.next HP1.out HP2.out hG b2 (by decide) (by decide)⟩
      · intro listed σ w a hin hout hl hc hp hG hF
        refine Guarded.none rfl ?_
        have e2 : a.tmps.getD 2 undef = .pointer (some ⟨w0.heap.size, 0, none⟩) := hout 2 (outB_spec (by kernel_rfl))
        have e6 := hin 1 6 rfl (hp ⟨1, .data⟩ (by simp) rfl)
        obtain ⟨k1, p1, A1, n1, d1, ev1, hd1⟩ := hF 1 (hp ⟨1, .data⟩ (by simp) rfl)
        rw [ev1] at e6
        obtain ⟨cc, zz, bb, -⟩ := hG.b1
        refine Does.store_boxE (T := 24) (cells := #[.int .i64 k1, .int .i64 p1, .slice A1 n1 d1]) rfl e2 e6 bb (by kernel_rfl) zz (by simp [Value.oneCell']) (fun w2 x9 o9 z9 => ?_)
        have q9 := GP.st1 (τ := upd σ 4 undef) (c' := #[.int .i64 k1, .int .i64 p1, .slice A1 n1 d1]) HP2.out hG (by omega) (by decide) rfl x9 o9 ⟨k1, p1, A1, n1, d1, rfl, hd1.keep ((K2.fst o9).keep HU1.out HU2.out)⟩
        exact ⟨q9.1, trivial, q9.2⟩
      · intro listed σ w a hin hout hl hc hp hG hF
        refine Guarded.none rfl ?_
        have e3 : a.tmps.getD 3 undef = .pointer (some ⟨w0.heap.size + 1, 0, none⟩) := hout 3 (outB_spec (by kernel_rfl))
        have e8 := hin 3 8 rfl (hp ⟨3, .data⟩ (by simp) rfl)
        obtain ⟨k3, p3, A3, n3, d3, ev3, hd3⟩ := hF 3 (hp ⟨3, .data⟩ (by simp) rfl)
        rw [ev3] at e8
        obtain ⟨cc, zz, bb, -⟩ := hG.b2
        refine Does.store_boxE (T := 24) (cells := #[.int .i64 k3, .int .i64 p3, .slice A3 n3 d3]) rfl e3 e8 bb (by kernel_rfl) zz (by simp [Value.oneCell']) (fun w2 x9 o9 z9 => ?_)
        have q9 := GP.st2 (τ := upd σ 5 undef) (c' := #[.int .i64 k3, .int .i64 p3, .slice A3 n3 d3]) HP1.out hG (by omega) (by decide) rfl x9 o9 ⟨k3, p3, A3, n3, d3, rfl, hd3.keep ((K2.snd o9).keep HU1.out HU2.out)⟩
        exact ⟨q9.1, trivial, q9.2⟩
    · intro listed σ W9 hall hG hF
      rw [show mid _ σ listed _ = (Act.put (Act.put (Act.put (Act.put (Act.put (Act.put _ (some 5) (σ 0)) (some 6) (σ 1)) (some 7) (σ 2)) (some 8) (σ 3)) none (σ 4)) none (σ 5)) from (mid_all hall).trans rfl]
      generalize σ 0 = tt0 at *
      generalize σ 1 = tt1 at *
      generalize σ 2 = tt2 at *
      generalize σ 3 = tt3 at *
      simp only [Act.put, List.setIfInBounds_toArray, List.set_cons_zero, List.set_cons_succ]
      have TK := hG.k
      obtain ⟨c91, -, X9, -, P9⟩ := hG.b1
      have P9 := P9 (hall 4 (by decide))
      obtain ⟨c92, -, Y9, -, Q9⟩ := hG.b2
      have Q9 := Q9 (hall 5 (by decide))
      clear hF hG hall
      obtain ⟨k5, p5, A5, n5, d5, rfl, hd5⟩ := P9
      obtain ⟨k6, p6, A6, n6, d6, rfl, hd6⟩ := Q9
      obtain ⟨hk5, hp5, hks5, -, -, -⟩ := hd5.parts
      obtain ⟨hk6, hp6, hks6, -, -, -⟩ := hd6.parts
      have HEQ := hide (equalF_any _ _ A5 A6 n5 d5 n6 d6 (cnt t).kids (cnt u).kids W9 (by rw [← hks5.1]; have := cnt_few t; omega) (by rw [← hks6.1]; have := cnt_few u; omega) hks5 hks6 (fun j x y hx hy k p B m d k' p' B' m' d' W hW hdx hdy => HIH.out _ _ x y k p B m d k' p' B' m' d' W (by
        have h := HSM.out j (by rcases Nat.lt_or_ge j (cnt t).kids.length with q | q; exact q; rw [List.getElem?_eq_none q] at hx; cases hx)
        rw [kid_in hx] at h; exact h) hdx hdy))
      have HB9 := hide (HB.out.trans (TK.below (B := w0.heap.size) HB.out.size (by omega) (by omega)))
      have cc0 := X9.cell 0 _ rfl
      have cc1 := X9.cell 1 _ rfl
      have cc2 := X9.cell 2 _ rfl
      have ee0 := Y9.cell 0 _ rfl
      have ee1 := Y9.cell 1 _ rfl
      have ee2 := Y9.cell 2 _ rfl
      have HPO := hide (show ∀ W b, (b = true ↔ sameK t u) → Below w0.heap.size w0 W → SamePost (decide (norm t = norm u)) w0 (.returned (.bool b)) W from fun W b h hB => ⟨by
        congr 2
        cases b
        · rw [decide_eq_false (fun e => by have := h.2 (HNS.out.1 e); cases this)]
        · rw [decide_eq_true (HNS.out.2 (h.1 rfl))], hB⟩)
      unfold sameK at HPO
      rw [← hk5, ← hk6, ← hp5, ← hp6] at HPO
      clear X9 Y9 TK hd5 hd6 hks5 hks6 HCT HCU HP1 HP2 HVk HD HU HX1 HX2 hk5 hk6 hp5 hp6
      by_cases h1 : k5 = k6
      · by_cases h2 : p5 = p6
        · subst h1 h2
          go_wp2_with fail
          refine HEQ.out.mono ?_
          rintro e w7 ⟨rfl, b7⟩
          have HB7 := hide (HB9.out.next b7)
          clear b7
          go_wp2_with fail
          go_ret
          refine HPO.out _ _ ?_ HB7.out
          simp
        · have g1 : (p5 == p6) = false := by rw [beq_eq_false_iff_ne]; exact h2
          have HN := hide (HPO.out W9 false ⟨fun h => (by cases h), fun h => absurd h.2.1 h2⟩ HB9.out)
          subst h1
          go_wp2_with fail
          go_ret
          exact HN.out
      · have g1 : (k5 == k6) = false := by rw [beq_eq_false_iff_ne]; exact h1
        have HN := hide (HPO.out W9 false ⟨fun h => (by cases h), fun h => absurd h.1 h1⟩ HB9.out)
        go_wp2_with fail
        go_ret
        exact HN.out
end Go.Proofs.Ytljocjjdfgpbaaa
/- word.copies: the appends. -/
namespace Go.Proofs.Ytljocjjdfgpbaaa
open Go.RowKit
open Wo

theorem bool_zero_nls : NLs (Value.bool false).cells.toList := by
  intro u hu
  simp [Value.cells] at hu
  rw [hu]; exact NL.bool _
/-- append([]bool(nil), letter...). -/
theorem wpList_append_bools {w : World} {ops : Array Oper} {rest : List Oper} {o : Oper} {a : Act} {Q : Exit → Act → World → Prop} (hgd : o.guard = none) (s x : Operand)
    (ho : o.op = .call { callee := .builtin .append, args := #[s, x], argTypes := #[47, 47] }) (hs : a.eval s = .slice none 0 0)
    (A : Option Addr) (m c : Nat) (S : Nat → Prop) (l : List Bool) (hx : a.eval x = .slice A m c) (hq : BIn S w A m l) (hn : m ≤ 1000000)
    (h : ∀ A2 c2 w', BIn (fun b => w.heap.size ≤ b) w' A2 m l → m ≤ c2 → c2 ≤ 9223372036854775807 → Below w.heap.size w w' → wpList Try.prog ops Q rest (a.put o.dst (.slice A2 m c2)) w') : wpList Try.prog ops Q (o :: rest) a w := by
  obtain ⟨i0, hi0, hz0, hz1, hz2⟩ := info_parts bool_info
  have hln := LRow.nil 4 1 w w.heap.size
  rcases A with _ | ⟨b, q, sp⟩
  · obtain rfl : m = 0 := by
      rcases Nat.eq_zero_or_pos m with h0 | h0
      · exact h0
      · obtain ⟨b, o, e, -⟩ := hq.2 h0
        cases e
    refine wpList_plain hgd fun K hK => ?_
    have hrun := run_append_nothingL (P := Try.prog) (w := w) w.heap.size 47 o.type 4 i0 1 Try.underlying47 hi0 (.slice none 0 0) 0 c [] hln
    unfold Oper.wp
    rw [exec_append ho hs hx hrun]
    exact hK _ _ (h none 0 w (by have := hq.1; rw [List.eq_nil_of_length_eq_zero this]; exact BIn.nil _ _ _) (Nat.le_refl _) (by omega) (Below.refl _ _))
  · refine wpList_append_lrow hgd s x 47 ho w.heap.size 4 i0 _ 1 1 Try.underlying47 hi0 hz0 hz1 hz2 rfl (by decide) bool_zero_nls (.slice none 0 0) 0 [] hs hln ⟨b, q, sp⟩ m c (l.map Value.bool) hx (by rw [List.length_map, hq.1, Nat.mul_one])
      (fun j u hu => ?_) (fun u hu => ?_) (fun u hu => ?_) (by unfold maxLen; omega) (by omega) (Nat.le_refl _) (fun v' w' h1 h2 => ?_)
    · have h0 : 0 < m := by
        rcases Nat.eq_zero_or_pos m with h0 | h0
        · have := hq.1
          rw [h0] at this
          rw [List.eq_nil_of_length_eq_zero this] at hu
          simp at hu
        · exact h0
      obtain ⟨b', q', e, -, -, hc⟩ := hq.2 h0
      injection e with e
      injection e with e1 e2 e3
      subst e1 e2 e3
      rw [List.getElem?_map] at hu
      cases hlj : l[j]? with
      | none => rw [hlj] at hu; cases hu
      | some v =>
        rw [hlj] at hu
        simp at hu
        subst hu
        have := hc j v hlj
        by_cases h9 : j = 0
        · subst h9; simpa [Addr.add] using this
        · simpa [Addr.add, h9] using this
    · obtain ⟨v, -, rfl⟩ := List.mem_map.1 hu
      rfl
    · obtain ⟨v, -, rfl⟩ := List.mem_map.1 hu
      exact NL.bool _
    · rw [Nat.zero_add, List.nil_append] at h1
      obtain ⟨A2, c2, rfl, h3, h4, -⟩ := h1.len
      refine h A2 c2 w' ⟨hq.1, fun h0 => ?_⟩ h3 h4 ⟨h2.os, h2.tape, h2.output, h2.size, fun k hk => h2.block k hk (fun e => by cases e)⟩
      obtain ⟨g, rfl, hb, hlt, hc⟩ := h1.cell h0
      exact ⟨g, 0, rfl, hb, hlt, fun j v hv => by rw [Nat.zero_add]; exact (hc j _ (by rw [List.getElem?_map, hv]; rfl)).1⟩
/-- append of one letter to a list of the call's own. -/
theorem wpList_append_l1 {w : World} {ops : Array Oper} {rest : List Oper} {o : Oper} {a : Act} {Q : Exit → Act → World → Prop} (hgd : o.guard = none) (s x : Operand)
    (ho : o.op = .call { callee := .builtin .append, args := #[s, x], argTypes := #[25, 25] }) {U : Nat → Prop} (base : Nat) (v : Value) (R : List (List Bool)) (vs : List Value) (hs : a.eval s = v) (hrow : LRow 47 1 w base v R.length vs) (hrep : LRep (NotOwn U v) w R vs)
    (gs : Nat) (A2 : Option Addr) (c2 : Nat) (l : List Bool) (hx : a.eval x = .slice (some ⟨gs, 0, none⟩) 1 1) (hb : Box 47 w gs #[.slice A2 l.length c2]) (hl : BIn (NotOwn U v) w A2 l.length l) (hc1 : l.length ≤ c2) (hc2 : c2 ≤ 9223372036854775807) (hn : R.length ≤ 1000000) (hbase : base ≤ w.heap.size)
    (h : ∀ v' w' us, LRow 47 1 w' base v' (R ++ [l]).length us → LRep (NotOwn U v') w' (R ++ [l]) us → w.grownBy w' v.ownBlock → wpList Try.prog ops Q rest (a.put o.dst v') w') : wpList Try.prog ops Q (o :: rest) a w := by
  obtain ⟨i0, hi0, hz0, hz1, hz2⟩ := info_parts ls_info
  refine wpList_append_lrow2 hgd s x 25 ho base 47 i0 _ 1 24 Try.underlying25 hi0 hz0 hz1 hz2 rfl (by decide) (fun u hu => ?_) v R.length vs hs hrow ⟨gs, 0, none⟩ 1 1 [.slice A2 l.length c2] hx rfl
      (fun j u hu => ?_) (fun u hu => ?_) (fun u hu => ?_) (by unfold maxLen; omega) (by omega) hbase (fun v' w' h1 hg hoo => ?_)
  · simp [Value.cells] at hu
    rw [hu]
    exact NL.slice _ _ _
  · match j with
    | 0 => simp at hu; subst hu; exact hb.cell 0 _ rfl
    | j + 1 => simp at hu
  · simp at hu; subst hu; rfl
  · simp at hu; subst hu; exact NL.slice _ _ _
  · have hk : Keep (fun b => NotOwn U v b ∧ some b ≠ v'.ownBlock) w w' := ⟨hg.size, fun b hb hlt => hg.block b hlt hb.1.2⟩
    have hsub : ∀ b, b < w.heap.size → NotOwn U v b → NotOwn U v b ∧ some b ≠ v'.ownBlock := fun b hlt hb => ⟨hb, fun e => by
      rcases hoo with ho | ho
      · rw [ho] at e; exact hb.2 e
      · rw [ho] at e; injection e with e; omega⟩
    refine h v' w' (vs ++ [.slice A2 l.length c2]) (by rw [List.length_append]; exact h1) ?_ hg
    have h8 : LRep (fun b => NotOwn U v b ∧ some b ≠ v'.ownBlock) w [l] [.slice A2 l.length c2] := ⟨rfl, fun u hu => by simp at hu; exact ⟨_, _, _, hu⟩, fun j l' hj => by
      match j with
      | 0 => simp at hj; subst hj; exact ⟨A2, c2, rfl, hc1, hc2, hl.sub hsub⟩
      | j + 1 => simp at hj⟩
    exact (((hrep.sub hsub).app h8).keep hk).sub (fun b _ hb => ⟨hb.1.1, hb.2⟩)
end Go.Proofs.Ytljocjjdfgpbaaa
