/- Texts of one seat, put together: ExprWal ExprTab Open OpenTx ExprWf. -/
import Derived.Test.YtneiajkcikcnnaaDoorB30
import Derived.Test.YtneiajkcikcnnaaDoorRows
import Derived.Test.YtneiajkcikcnnaaDoorB13
import Derived.Lib.LaidTab
import Derived.MakeChecks
import Derived.Test.YtneiajkcikcnnaaDoorB01
import Derived.ProofKit
import Derived.OpenShut
import Derived.ShutString
import Derived.ChangeOld
import Derived.Below
import Derived.Test.YtneiajkcikcnnaaDoorB04
import Derived.Deep.Strs
import Derived.Test.YtneiajkcikcnnaaDoorB31
set_option linter.unusedVariables false
/- plumblinelaw11.walking. -/
namespace Go.Proofs.YtneiajkcikcnnaaDoor
open Go.RowKit
open Lx Ex

/-- The text of the example. -/
def exW : ByteArray := ⟨#[120, 32, 43, 32, 121, 41]⟩
def exT : List TK := [⟨1, ⟨#[120]⟩, 1, 1⟩, ⟨2, ⟨#[43]⟩, 1, 3⟩, ⟨1, ⟨#[121]⟩, 1, 5⟩, ⟨2, ⟨#[41]⟩, 1, 6⟩, ⟨5, ⟨#[]⟩, 1, 7⟩]
theorem exT_eq : toksK exW = exT := by kernel_rfl
theorem exT_pos : resPos exW (lexAll (byteAt exW) exW.size) = (0, 0) := by kernel_rfl
theorem exT_code : (lexAll (byteAt exW) exW.size).code = 0 := by kernel_rfl
def exK (s : ByteArray) : Bool := !true || memS s [⟨#[120]⟩]
theorem ex_sum1 : ocd (sumP exK (rd exT 0)) = 110 := by kernel_rfl
theorem ex_sum2 : opos exT 0 (sumP exK (rd exT 0)) = 2 := by kernel_rfl
theorem ex_lex (W : World) : Calls Tryd.prog 5 #[.string ⟨#[120, 32, 43, 32, 121, 41]⟩] W (fun e w' => ∃ A c, e = .returned (.tuple #[.slice A 5 c, .agg #[.int .i64 0, .int .i64 0], .int .i64 0]) ∧ Below W.heap.size W w' ∧ 5 ≤ c ∧ c ≤ 9223372036854775807 ∧ KIn w' A 5 exT) := by
  refine (lex_norm exW W (by decide)).mono ?_
  rintro e w' ⟨A, c, he, hb, h1, h2, h3⟩
  rw [exT_eq] at he h1 h3
  rw [exT_pos, exT_code] at he
  exact ⟨A, c, he, hb, h1, h2, h3⟩
section
variable (D : CD) (hD : D.ts = exT) (hk : D.kn = exK) (g : Nat)
include hD hk
theorem ex_cursum (W : World) (h : Cur D g W 0) : Calls Tryd.prog 7 #[.pointer (some ⟨g, 0, none⟩)] W (fun e w' => ∃ v, e = .returned (.tuple #[v, .int .i64 110]) ∧ Went D g 2 W w') := by
  refine (sum_norm D g 0 W exT exK hD hk h).mono ?_
  rintro e w' ⟨A, c, he, -, hw⟩
  rw [ex_sum1] at he
  rw [ex_sum2] at hw
  exact ⟨_, he, hw⟩
end
section
variable (D : CD) (hD : D.ts = exT) (g : Nat)
include hD
theorem ex_at2 (W : World) (h : Cur D g W 2) : Calls Tryd.prog 16 #[.pointer (some ⟨g, 0, none⟩)] W (fun e w' => e = .returned (.agg #[.int .i64 1, .string ⟨#[121]⟩, .int .i64 1, .int .i64 5]) ∧ Below W.heap.size W w') := by
  have := at_any D g 2 W h
  unfold AtPost at this
  rw [hD] at this
  exact this
theorem ex_at4 (W : World) (h : Cur D g W 4) : Calls Tryd.prog 16 #[.pointer (some ⟨g, 0, none⟩)] W (fun e w' => e = .returned (.agg #[.int .i64 5, .string ⟨#[]⟩, .int .i64 1, .int .i64 7]) ∧ Below W.heap.size W w') := by
  have := at_any D g 4 W h
  unfold AtPost at this
  rw [hD] at this
  exact this
theorem ex_want (W : World) (h : Cur D g W 3) : Calls Tryd.prog 17 #[.pointer (some ⟨g, 0, none⟩), .string ⟨#[40]⟩] W (fun e w' => e = .returned (.int .i64 101) ∧ Went D g 3 W w') := by
  have := want_any D g 3 ⟨#[40]⟩ W h
  unfold WantPost at this
  rw [hD, show isT ⟨#[40]⟩ (rd exT 3) = false from by kernel_rfl] at this
  exact this
theorem ex_take3 (W : World) (h : Cur D g W 3) : Calls Tryd.prog 19 #[.pointer (some ⟨g, 0, none⟩), .string ⟨#[41]⟩] W (fun e w' => e = .returned (.bool true) ∧ Went D g 4 W w') := by
  have := take_any D g 3 ⟨#[41]⟩ W h
  unfold TakePost at this
  rw [hD, show isT ⟨#[41]⟩ (rd exT 3) = true from by kernel_rfl] at this
  exact this
theorem ex_take4 (W : World) (h : Cur D g W 4) : Calls Tryd.prog 19 #[.pointer (some ⟨g, 0, none⟩), .string ⟨#[41]⟩] W (fun e w' => e = .returned (.bool false) ∧ Went D g 4 W w') := by
  have := take_any D g 4 ⟨#[41]⟩ W h
  unfold TakePost at this
  rw [hD, show isT ⟨#[41]⟩ (rd exT 4) = false from by kernel_rfl] at this
  exact this
end
set_option maxRecDepth 100000 in
set_option maxHeartbeats 8000000 in
theorem walking_yes (w0 : World) : Calls Tryd.prog 4 #[] w0 (LexYes w0) := by
  have h1 := ex_lex w0
  go_enter Tryd.func4, Tryd.ntmps4
  go_wp2_with fail
  refine h1.mono ?_
  rintro e w1 ⟨A, c, rfl, b1, n1, n2, k1⟩
  clear h1
  go_wp2_with fail
  have hb1 := bl_alloc w1 (.cells #[.int .i64 0, .int .i64 0] 26)
  have hb2 := bl_alloc (w1.alloc (.cells #[.int .i64 0, .int .i64 0] 26)) (.cells #[.string ⟨#[120]⟩] 9)
  have hx2 := Box.new 9 (w1.alloc (.cells #[.int .i64 0, .int .i64 0] 26)) #[.string ⟨#[120]⟩]
  rw [size_alloc2] at hx2
  have hz3 : ((w1.alloc (.cells #[.int .i64 0, .int .i64 0] 26)).alloc (.cells #[.string ⟨#[120]⟩] 9)).heap.size = w1.heap.size + 1 + 1 := by rw [size_alloc2, size_alloc2]
  generalize hW3 : (w1.alloc (.cells #[.int .i64 0, .int .i64 0] 26)).alloc (.cells #[.string ⟨#[120]⟩] 9) = W3 at *
  clear hW3
  have hb3 := bl_alloc W3 (.cells #[.slice A 5 c, .int .i64 0, .slice (some ⟨w1.heap.size + 1, 0, none⟩) 1 1, .bool true] 35)
  have hx3 := Box.new 35 W3 #[.slice A 5 c, .int .i64 0, .slice (some ⟨w1.heap.size + 1, 0, none⟩) 1 1, .bool true]
  rw [hz3] at hx3
  generalize hW4 : W3.alloc (.cells #[.slice A 5 c, .int .i64 0, .slice (some ⟨w1.heap.size + 1, 0, none⟩) 1 1, .bool true] 35) = W4 at *
  clear hW4
  generalize hg : w1.heap.size + 1 + 1 = g at *
  obtain ⟨D, hD⟩ : ∃ D : CD, D = ⟨A, 5, c, exT, some ⟨w1.heap.size + 1, 0, none⟩, 1, 1, [⟨#[120]⟩], true⟩ := ⟨_, rfl⟩
  have hbw := (b1.next hb1).next hb2
  have BW := hide (hbw.next hb3)
  have hk3 := ((k1.below hb1).below hb2).below hb3
  have HCU := hide (show Cur D g W4 0 from by
    subst hD
    refine ⟨hx3, hk3, ⟨rfl, fun _ => ⟨w1.heap.size + 1, 0, rfl, by have := hx3.lt; omega, fun j s hs => ?_⟩⟩, ⟨?_, fun h0 a ha => ?_, fun h0 a ha => ?_, n1, n2, Nat.le_refl _, (by show (1 : Nat) ≤ _; decide), (by show (5 : Nat) ≤ _; decide), ?_, ?_, ?_⟩, ?_⟩
    · match j, hs with
      | 0, hs =>
        injection hs with hs
        subst hs
        exact ((hx2.below hb3 (by omega)).cell 0 _ rfl)
      | j + 1, hs => simp at hs
    · rw [← exT_eq]; exact toksK_ends exW
    · obtain ⟨b, o, e, hlt, -⟩ := k1.2 h0
      have ha' : A = some a := ha
      rw [ha'] at e; injection e with e; subst e
      show b ≠ g
      omega
    · injection ha with ha; subst ha
      show w1.heap.size + 1 ≠ g
      omega
    · intro t ht
      have ht' : t ∈ toksK exW := by rw [exT_eq]; exact ht
      have := (toksK_mem ht').2.2
      have h6 : exW.size = 6 := rfl
      omega
    · intro t ht
      have ht' : t ∈ toksK exW := by rw [exT_eq]; exact ht
      exact (toksK_mem ht').2.1
    · intro t ht
      have ht' : t ∈ toksK exW := by rw [exT_eq]; exact ht
      exact (toksK_mem ht').1
    · show 0 + (rd exT 0).length ≤ _
      rw [show (rd exT 0).length = 5 from rfl]; decide)
  have hD1 : D.ts = exT := by rw [hD]
  have hD2 : D.kn = exK := by rw [hD]; rfl
  have HSU := hide (ex_cursum D hD1 hD2 g)
  have HA2 := hide (ex_at2 D hD1 g)
  have HA4 := hide (ex_at4 D hD1 g)
  have HWN := hide (ex_want D hD1 g)
  have HT3 := hide (ex_take3 D hD1 g)
  have HT4 := hide (ex_take4 D hD1 g)
  have hws := hbw.size
  have HLO := hide (show w0.heap.size ≤ g from by have := b1.size; omega)
  have HFT := fun a b c d W => field_ktext a b c d W
  have HFK := fun a b c d W => field_kkind a b c d W
  have HFI := hide (show 3 + (rd D.ts 3).length ≤ 1099511627776 from by rw [hD1, show (rd exT 3).length = 2 from rfl]; decide)
  clear hD hD1 hD2 hx2 hx3 hk3 hb1 hb2 hb3 hbw b1 k1 n1 n2 hz3 hg hws
  refine (HSU.out W4 HCU.out).mono ?_
  rintro e w5 ⟨v5, rfl, hw5⟩
  have BW5 := hide (BW.out.trans ((K2.fst (q := g) hw5.1).below BW.out.size HLO.out HLO.out))
  have C5 := hide hw5.2
  have u1 := hw5.2.c1
  clear hw5 BW HCU HSU
  go_wp2_with fail
  refine (HA2.out _ C5.out).mono ?_
  rintro e w6 ⟨rfl, hb⟩
  have BW6 := hide (BW5.out.next hb)
  have c6 := C5.out.below hb
  clear hb u1 BW5 C5 HA2
  have u1 := c6.c1
  have hf1 := c6.box.fr 1
  have C7 := hide (c6.set 3 HFI.out)
  have BW7 := hide (BW6.out.trans ((K2.fst (q := g) (only_set1 w6 g 1 (.int .i64 3))).below BW6.out.size HLO.out HLO.out))
  clear c6 BW6
  go_wp2_with fail
  generalize hW8 : w6.setCell ⟨g, 1, none⟩ (.int .i64 3) = W8 at *
  clear hW8 u1 hf1
  refine (HWN.out _ C7.out).mono ?_
  rintro e w9 ⟨rfl, hw9⟩
  have BW9 := hide (BW7.out.trans ((K2.fst (q := g) hw9.1).below BW7.out.size HLO.out HLO.out))
  have C9 := hide hw9.2
  clear hw9 BW7 C7 HWN
  go_wp2_with fail
  refine (HT3.out _ C9.out).mono ?_
  rintro e w10 ⟨rfl, hw9⟩
  have BW10 := hide (BW9.out.trans ((K2.fst (q := g) hw9.1).below BW9.out.size HLO.out HLO.out))
  have C10 := hide hw9.2
  clear hw9 BW9 C9 HT3
  go_wp2_with fail
  refine (HT4.out _ C10.out).mono ?_
  rintro e w11 ⟨rfl, hw9⟩
  have BW11 := hide (BW10.out.trans ((K2.fst (q := g) hw9.1).below BW10.out.size HLO.out HLO.out))
  have C11 := hide hw9.2
  clear hw9 BW10 C10 HT4
  go_wp2_with fail
  refine (HA4.out _ C11.out).mono ?_
  rintro e w12 ⟨rfl, hb⟩
  have BW12 := hide (BW11.out.next hb)
  clear hb BW11 C11 HA4
  go_wp2_with fail
  go_ret
  exact ⟨rfl, BW12.out⟩
end Go.Proofs.YtneiajkcikcnnaaDoor
/- The operators' table, out of what the row lists. -/
namespace Go.Proofs.YtneiajkcikcnnaaDoor
open Go.RowKit
open Lx Ex

theorem bytes_ext {s t : ByteArray} (h : s.data.toList = t.data.toList) : s = t := by
  obtain ⟨⟨a⟩⟩ := s
  obtain ⟨⟨b⟩⟩ := t
  simp at h
  subst h; rfl
/-- An array of texts that reads as these holds them, cell for cell. -/
theorem cells_of_strs {H : Type} {enc : TypeId × Value → H} {P : Program} {w : World} {base : Nat} {sp : Nat → Bool} {held : Bool} {fuel : Nat} {t e : TypeId} {n : Nat} {cs : List Value} {xs : List ByteArray} {p : List MemPlace}
    (ht : P.underlying t = some (.array n e)) (he : P.underlying e = some .string) (hce : P.cellsOf e = 1) (hct : P.cellsOf t = n)
    (h : DataW.trod enc P w base sp held fuel t cs = some (.agg (xs.map fun s => .lit (.string s.data.toList)), p)) : cs = xs.map fun s => Value.string s := by
  cases fuel with
  | zero => simp [DataW.trod] at h
  | succ fuel =>
    simp only [DataW.trod, ht, hce, hct, Nat.mul_one] at h
    split at h
    · rename_i hl
      obtain ⟨ys, hm, hx⟩ := Option.map_eq_some_iff.1 h
      have hxs : ys.map (·.1) = xs.map fun s => (DataW.lit (.string s.data.toList) : DataW H) := by
        have := congrArg Prod.fst hx
        simpa using this
      have hxl : ys.length = n := by simpa using Lib.mapM_length hm
      have hzl : xs.length = n := by
        have := congrArg List.length hxs
        simp at this
        omega
      apply List.ext_getElem?
      intro i
      by_cases hi : i < n
      · obtain ⟨b, hb, hf⟩ := Lib.mapM_at hm i i (by simp [hi])
        obtain ⟨z, hc, rfl, _⟩ := DataW.trod_string he hf
        have h1 : cs[i]? = some (.string z) := by
          have := congrArg (·[0]?) hc
          simpa [List.getElem?_take, List.getElem?_drop] using this
        have h2 : (ys.map (·.1))[i]? = some (DataW.lit (.string z.data.toList) : DataW H) := by simp [hb]
        rw [hxs] at h2
        simp only [List.getElem?_map, Option.map_eq_some_iff, DataW.lit.injEq, Lit.string.injEq] at h2
        obtain ⟨z', hz', he'⟩ := h2
        have := bytes_ext he'
        subst this
        simp [h1, hz']
      · rw [List.getElem?_eq_none (by omega), List.getElem?_eq_none (by simp; omega)]
    · cases h
def opTexts : List ByteArray := [⟨#[61]⟩, ⟨#[33, 61]⟩, ⟨#[60]⟩, ⟨#[60, 61]⟩, ⟨#[62]⟩, ⟨#[62, 61]⟩]
theorem optab_of_laid {W : World} (h0 : laidMetH Tryd.prog [("plumbline/expr.operators", Rows.laid_plumbline_expr_operators)] W) : OpTab W := by
  have h : laidMet Tryd.prog [("plumbline/expr.operators", Rows.laid_plumbline_expr_operators)] W := by
    rw [MakeChecks.laidMetH_plain _ _ _ (by kernel_rfl)] at h0; exact h0
  obtain ⟨ps, ⟨g', t', cs, fuel, p, q, hg', ht', hvar, hd, _, _⟩, _⟩ := h
  have hg : Tryd.prog.globalNamed "plumbline/expr.operators" = some 1 := by kernel_rfl
  have hty : (Tryd.prog.globals[1]?).map (·.type) = some 98 := by kernel_rfl
  obtain rfl := Option.some.inj (hg.symm.trans hg')
  obtain rfl := Option.some.inj (hty.symm.trans ht')
  have e1 := cells_of_strs (xs := opTexts) Tryd.underlying98 Tryd.underlying9 (by kernel_rfl) (by kernel_rfl) hd
  have e2 : cs = (opTexts.map fun s => Value.string s).toArray := by rw [← e1]
  have hv : W.var? Tryd.prog "plumbline/expr.operators" = some (opTexts.map fun s => Value.string s).toArray := by rw [← e2]; exact hvar
  intro j hj
  rw [World.var?_cell hg hv j]
  match j, hj with
  | 0, _ => rfl
  | 1, _ => rfl
  | 2, _ => rfl
  | 3, _ => rfl
  | 4, _ => rfl
  | 5, _ => rfl
end Go.Proofs.YtneiajkcikcnnaaDoor
/- What the row's arguments are opened to. -/
namespace Go.Proofs.YtneiajkcikcnnaaDoor
open Go.ChangeShapes Go.WideShapes Go.ChangeAt Go.RowKit
open Go.ChangeMaps (open_string shut_string)

theorem own : ownKnob Tryd.prog.godebug = none := by kernel_rfl
theorem laidOut : laidOutB Tryd.prog = true := by kernel_rfl

theorem wf_u32 {z : Int} (h : (Lit.int .u32 z).wf = true) : 0 ≤ z ∧ z < 4294967296 := by
  have h1 : IntKind.u32.min = 0 := rfl
  have h2 : IntKind.u32.max = 4294967295 := rfl
  simp only [Lit.wf, Bool.and_eq_true, decide_eq_true_eq] at h
  omega

end Go.Proofs.YtneiajkcikcnnaaDoor
/- What a row's argument of type []string is opened to. -/
namespace Go.Proofs.YtneiajkcikcnnaaDoor
open Go.ChangeShapes Go.WideShapes Go.ChangeAt Go.RowKit Go.Deep

section
variable {H : Type} {enc : TypeId × Value → H} {W : World}
set_option maxRecDepth 100000 in
theorem open_texts2 {b : Nat} {v : Value} {d : DataW H} {p : List MemPlace} (hv : Value.okWide Tryd.prog W .any b 22 v)
    (h0 : DataW.Trod enc Tryd.prog W 0 (fun _ => true) true 22 v d p) : ∃ a len cap xs, v = .slice a len cap ∧ SIn W a len xs ∧ len ≤ cap ∧ cap ≤ 9223372036854775807 ∧ (a = none → len = 0 ∧ cap = 0) := by
  obtain ⟨a, len, cap, rfl⟩ := okWide_slice Tryd.underlying22 hv
  obtain ⟨fuel, hf⟩ := h0
  rcases open_strs Tryd.underlying22 Tryd.underlying9 (by kernel_rfl) hf with ⟨hcs, _⟩ | ⟨x, l, c, m, Sx, hcs, _, hl, hm, hmm, hx, hcell⟩
  · simp [Value.cells] at hcs
    obtain ⟨rfl, rfl, rfl⟩ := hcs
    exact ⟨none, 0, 0, [], rfl, ⟨rfl, fun h => absurd h (by omega)⟩, by omega, by omega, fun _ => ⟨rfl, rfl⟩⟩
  · simp [Value.cells] at hcs
    obtain ⟨rfl, rfl, rfl⟩ := hcs
    have hlm : len ≤ m := by rw [hmm]; split <;> omega
    have hd : d = .slice ((List.range len).map fun i => .lit (.string (Sx i).data.toList)) ((List.range (m - len)).map fun j => .lit (.string (Sx (len + j)).data.toList)) := congrArg Prod.fst hx
    unfold maxLen at hm
    refine ⟨some x, len, cap, (List.range len).map Sx, rfl, ⟨by simp, fun hn => ?_⟩, hl, hm, fun e => by cases e⟩
    · have h1 := (hcell 0 (by omega)).1
      obtain ⟨b, o, spot⟩ := x
      have hspot : spot = none := by simpa [Addr.add] using World.cell?_spot h1
      subst hspot
      have hlt := World.block_lt_of_cell? W _ h1
      refine ⟨b, o, rfl, hlt, fun j s hs => ?_⟩
      have hj : j < len := by
        rcases Nat.lt_or_ge j len with h | h
        · exact h
        · rw [List.getElem?_eq_none (by simpa using h)] at hs; cases hs
      rw [List.getElem?_map, List.getElem?_range hj] at hs
      injection hs with hs
      subst hs
      have h5 := (hcell j (by omega)).1
      rw [addr_add] at h5
      exact h5
end
end Go.Proofs.YtneiajkcikcnnaaDoor
/- ExprWalks, with its example. -/
namespace Go.Proofs.YtneiajkcikcnnaaDoor
open Go.RowKit
open Lx Ex

theorem exprWalks_say (s : ByteArray) (f : Int) (A : Option Addr) (n c : Nat) (xs : List ByteArray) (known : Bool) (w0 : World) (_ : s.size ≤ maxLen) (_ : -9223372036854775808 ≤ f) (_ : f ≤ 9223372036854775807) (hx : SIn w0 A n xs) (hA : A = none → n = 0 ∧ c = 0) (hnc : n ≤ c) (hcm : c ≤ 9223372036854775807) (htab : OpTab w0) :
    Calls Tryd.prog 3 #[.string s, .int .i64 f, .slice A n c, .bool known] w0 (LexYes w0) :=
  exprWalks_walk walking_yes s f A n c xs known w0 hx hA hnc hcm htab
end Go.Proofs.YtneiajkcikcnnaaDoor
