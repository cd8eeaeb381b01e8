/- Texts of one seat, put together: ExprWh. -/
import Derived.Test.YtneiajkcikcnnaaDoorB16
import Derived.Test.YtneiajkcikcnnaaDoorB17
import Derived.Test.YtneiajkcikcnnaaDoorB19
import Derived.Test.YtneiajkcikcnnaaDoorB23
set_option linter.unusedVariables false
/- expr.Whole[api.Tree], with Cond. -/
namespace Go.Proofs.YtneiajkcikcnnaaDoor
open Go.RowKit
open Lx Ex

theorem Cur.k2 {D : CD} {g i r q : Nat} {V W : World} (h : Cur D g V i) (k : K2 r q V W) (hr : g ≠ r) (hq : g ≠ q) (hA : 0 < D.n → ∀ a, D.A = some a → a.block ≠ r ∧ a.block ≠ q) (hV : 0 < D.m → ∀ a, D.V = some a → a.block ≠ r ∧ a.block ≠ q) : Cur D g W i := by
  refine ⟨k.box h.box hr hq, ⟨h.kin.1, fun hn => ?_⟩, ⟨h.sin.1, fun hn => ?_⟩, h.good, h.fits⟩
  · obtain ⟨b, o, e, hlt, hc⟩ := h.kin.2 hn
    have ha := hA hn _ e
    exact ⟨b, o, e, Nat.lt_of_lt_of_le hlt k.size, fun j u hu => (k.cell hlt ha.1 ha.2).trans (hc j u hu)⟩
  · obtain ⟨b, o, e, hlt, hc⟩ := h.sin.2 hn
    have ha := hV hn _ e
    exact ⟨b, o, e, Nat.lt_of_lt_of_le hlt k.size, fun j u hu => (k.cell hlt ha.1 ha.2).trans (hc j u hu)⟩
theorem results_tp {fn : Func} {p q t : Tmp} (h : fn.results = #[.cell p 45, .cell q 26, .tmp t]) (tmps : Array Value) (w : World) (g k : Nat) (a b : Value) (x1 x2 x3 x4 x5 x6 x7 : Value)
    (hp : tmps.getD p undef = .pointer (some ⟨g, 0, none⟩)) (hq : tmps.getD q undef = .pointer (some ⟨k, 0, none⟩)) (hg : Box 45 w g #[x1, x2, x3, x4, x5, x6, x7]) (hk : Box 26 w k #[a, b]) :
    (results fn tmps).run Tryd.prog w = .ok (.tuple #[.agg #[x1, x2, x3, x4, x5, x6, x7], .agg #[a, b], tmps.getD t undef]) w := by
  have hp' : tmps[p]?.getD undef = .pointer (some ⟨g, 0, none⟩) := by simpa using hp
  have hq' : tmps[q]?.getD undef = .pointer (some ⟨k, 0, none⟩) := by simpa using hq
  simp [results, h, hp', hq', asAddr, run_loadVar_row w g 45 45 #[x1, x2, x3, x4, x5, x6, x7] (0, 0) _ hg Tryd.underlying45 rfl (by kernel_rfl), run_loadVar_row w k 26 26 #[a, b] (0, 0) _ hk Tryd.underlying26 rfl (by kernel_rfl)]
theorem bodyPost_tp {fn : Func} {R : Ending → World → Prop} {ac : Act} {w : World} {g k p q t : Nat} {a b x1 x2 x3 x4 x5 x6 x7 v : Value} (hres : fn.results = #[.cell p 45, .cell q 26, .tmp t]) (hp : ac.tmps.getD p undef = .pointer (some ⟨g, 0, none⟩)) (hq : ac.tmps.getD q undef = .pointer (some ⟨k, 0, none⟩))
    (hv : ac.tmps.getD t undef = v) (hg : Box 45 w g #[x1, x2, x3, x4, x5, x6, x7]) (hk : Box 26 w k #[a, b]) (hd : ac.defers = []) (hR : R (.returned (.tuple #[.agg #[x1, x2, x3, x4, x5, x6, x7], .agg #[a, b], v])) w) : bodyPost Tryd.prog fn R .ret ac w :=
  bodyPost_ret (by rw [results_tp hres _ _ g k a b x1 x2 x3 x4 x5 x6 x7 hp hq hg hk, hv]) hd hR
/-- What Whole hands back, of a text that has tokens. -/
def WOk (s : ByteArray) (kn : ByteArray → Bool) (w : World) (e : Ending) (w' : World) : Prop :=
  ∃ (i' e0 : Nat) (kd : Int) (Al : Option Addr) (nl cl : Nat) (Ar : Option Addr) (nr cr : Nat) (op : Int) (p q : ByteArray) (A : Option Addr) (n c : Nat), e = .returned (.tuple #[.agg #[.int .i64 kd, .slice Al nl cl, .slice Ar nr cr, .int .i64 op, .string p, .string q, .slice A n c], .agg #[.int .i64 (endL (hd (toksK s) i').kind e0 (hd (toksK s) i').line : Nat), .int .i64 (endL (hd (toksK s) i').kind e0 (hd (toksK s) i').col : Nat)], .int .i64 (endC (hd (toksK s) i').kind e0 : Nat)]) ∧ Below w.heap.size w w' ∧
    ((e0 = 0 ∧ ∃ t r1, parsF kn .cond 60 (rd (toksK s) 0) = .ok t r1 ∧ rd (toksK s) i' = r1 ∧ i' + r1.length = (rd (toksK s) 0).length ∧ (endC (hd (toksK s) i').kind 0 = 0 → TIn (From w.heap.size) w' (gt t) [.int .i64 kd, .slice Al nl cl, .slice Ar nr cr, .int .i64 op, .string p, .string q, .slice A n c])) ∨
     (e0 ≠ 0 ∧ ∃ r1, parsF kn .cond 60 (rd (toksK s) 0) = .err e0 r1 ∧ rd (toksK s) i' = r1 ∧ i' + r1.length = (rd (toksK s) 0).length))
def WPost (s : ByteArray) (kn : ByteArray → Bool) (w : World) (e : Ending) (w' : World) : Prop :=
  if (lexAll (byteAt s) s.size).code = 0 then WOk s kn w e w' else (∃ a b c : Nat, e = .returned (.tuple #[.agg #[.int .i64 0, .slice none 0 0, .slice none 0 0, .int .i64 0, .string ⟨#[]⟩, .string ⟨#[]⟩, .slice none 0 0], .agg #[.int .i64 (a : Nat), .int .i64 (b : Nat)], .int .i64 (c : Nat)])) ∧ Below w.heap.size w w'
theorem WOk.zero {s : ByteArray} {kn : ByteArray → Bool} {w w' : World} {i' e0 cd : Nat} {th : TK} (hth : th = hd (toksK s) i') (h1 : endC th.kind e0 = cd) (h0 : cd ≠ 0) (hb : Below w.heap.size w w')
    (hor : (e0 = 0 ∧ ∃ t r1, parsF kn .cond 60 (rd (toksK s) 0) = .ok t r1 ∧ rd (toksK s) i' = r1 ∧ i' + r1.length = (rd (toksK s) 0).length) ∨ (e0 ≠ 0 ∧ ∃ r1, parsF kn .cond 60 (rd (toksK s) 0) = .err e0 r1 ∧ rd (toksK s) i' = r1 ∧ i' + r1.length = (rd (toksK s) 0).length)) :
    WOk s kn w (.returned (.tuple #[.agg #[.int .i64 0, .slice none 0 0, .slice none 0 0, .int .i64 0, .string ⟨#[]⟩, .string ⟨#[]⟩, .slice none 0 0], .agg #[.int .i64 (th.line : Int), .int .i64 (th.col : Int)], .int .i64 (cd : Nat)])) w' := by
  subst hth h1
  refine ⟨i', e0, 0, none, 0, 0, none, 0, 0, 0, ⟨#[]⟩, ⟨#[]⟩, none, 0, 0, ?_, hb, ?_⟩
  · unfold endL; rw [if_neg h0, if_neg h0]
  · rcases hor with ⟨h2, t, r1, h3, h4, h5⟩ | ⟨h2, r1, h3, h4, h5⟩
    · subst h2; exact Or.inl ⟨rfl, t, r1, h3, h4, h5, fun h6 => absurd h6 h0⟩
    · exact Or.inr ⟨h2, r1, h3, h4, h5⟩
theorem WOk.tree {s : ByteArray} {kn : ByteArray → Bool} {w w' : World} {i' : Nat} (kd : Int) (Al : Option Addr) (nl cl : Nat) (Ar : Option Addr) (nr cr : Nat) (op : Int) (p q : ByteArray) (A : Option Addr) (n c : Nat) {th : TK} {t : Tr} {r1 : List PT} (hth : th = hd (toksK s) i') (h1 : th.kind = 5) (hb : Below w.heap.size w w') (h3 : parsF kn .cond 60 (rd (toksK s) 0) = .ok t r1) (h4 : rd (toksK s) i' = r1) (h5 : i' + r1.length = (rd (toksK s) 0).length)
    (hT : TIn (From w.heap.size) w' (gt t) [.int .i64 kd, .slice Al nl cl, .slice Ar nr cr, .int .i64 op, .string p, .string q, .slice A n c]) : WOk s kn w (.returned (.tuple #[.agg #[.int .i64 kd, .slice Al nl cl, .slice Ar nr cr, .int .i64 op, .string p, .string q, .slice A n c], .agg #[.int .i64 0, .int .i64 0], .int .i64 0])) w' := by
  subst hth
  have e1 : endC (hd (toksK s) i').kind 0 = 0 := by unfold endC; rw [if_pos rfl, if_pos h1]
  refine ⟨i', 0, kd, Al, nl, cl, Ar, nr, cr, op, p, q, A, n, c, ?_, hb, Or.inl ⟨rfl, t, r1, h3, h4, h5, fun _ => hT⟩⟩
  unfold endL; rw [e1, if_pos rfl, if_pos rfl]; rfl
theorem lex_ok (s : ByteArray) (W : World) (hs : s.size ≤ 2000) (hc : (lexAll (byteAt s) s.size).code = 0) : Calls Tryd.prog 5 #[.string s] W (fun e w' => ∃ A c, e = .returned (.tuple #[.slice A (toksK s).length c, .agg #[.int .i64 0, .int .i64 0], .int .i64 0]) ∧ Below W.heap.size W w' ∧ (toksK s).length ≤ c ∧ c ≤ 9223372036854775807 ∧ KIn w' A (toksK s).length (toksK s) ∧ (0 < (toksK s).length → ∀ a, A = some a → W.heap.size ≤ a.block)) := by
  refine (all_any s W (by omega)).mono ?_
  rintro e w' ⟨v, rfl, hb, hl⟩
  have e1 : resPos s (lexAll (byteAt s) s.size) = (0, 0) := by unfold resPos; rw [if_pos hc]
  rw [e1, hc]
  have hl2 : LRow 60 4 w' W.heap.size v (toksK s).length (flatK (toksK s)) := by unfold toksK; rw [List.length_map]; exact hl
  obtain ⟨A, c, rfl, h1, h2, h3⟩ := hl2.kin
  refine ⟨A, c, rfl, hb, h1, h2, h3, fun h0 a ha => ?_⟩
  obtain ⟨g, hg, hbg, -⟩ := hl2.cell h0
  rw [hg] at ha; injection ha with ha; subst ha; exact hbg
set_option maxRecDepth 100000 in
set_option maxHeartbeats 64000000 in
theorem whole_any (s : ByteArray) (known : Bool) (A : Option Addr) (n c : Nat) (xs : List ByteArray) (w0 : World) (hs : s.size ≤ 2000) (hx : SIn w0 A n xs) (hA : A = none → n = 0 ∧ c = 0) (hn : n ≤ 1000) (htab : OpTab w0) :
    Calls Tryd.prog 13 #[.string s, .slice A n c, .bool known, .func (.func 9) #[] #[]] w0 (WPost s (fun x => !known || memS x xs) w0) := by
  obtain ⟨x0, x1, x2, x3, x4⟩ := bstart3 45 26 45 w0 #[.int .i64 0, .slice none 0 0, .slice none 0 0, .int .i64 0, .string ⟨#[]⟩, .string ⟨#[]⟩, .slice none 0 0] #[.int .i64 0, .int .i64 0] #[.int .i64 0, .slice none 0 0, .slice none 0 0, .int .i64 0, .string ⟨#[]⟩, .string ⟨#[]⟩, .slice none 0 0]
  have zW := Nat.lt_of_lt_of_eq (show w0.heap.size + 2 < w0.heap.size + 3 from by omega) x4.symm
  clear x4
  have X0 := hide x0
  have X1 := hide x1
  have X2 := hide x2
  have B0 := hide x3
  have HTB := hide (htab.below x3)
  have HX := hide (hx.below x3)
  have HL := hide (fun W => all_any s W (by omega))
  unfold AllPost at HL
  have hfn := fun W => (show (binOp .eql 54 (.func (.func 9) #[] #[]) .nilFunc).run Tryd.prog W = .ok (.bool false) W from by kernel_rfl)
  clear x0 x1 x2 x3 htab hx
  by_cases hc : (lexAll (byteAt s) s.size).code = 0
  · have HL2 := hide (fun W => lex_ok s W hs hc)
    have HP := hide (show ∀ e w', WOk s (fun x => !known || memS x xs) w0 e w' → WPost s (fun x => !known || memS x xs) w0 e w' from fun e w' hw => by unfold WPost; rw [if_pos hc]; exact hw)
    have hlen := toksK_len s
    have HPOS := hide (toksK_pos hc)
    clear HL hc
    go_enter Tryd.func13, Tryd.ntmps13
    go_wp2_with fail
    generalize hW0 : ((w0.alloc (.cells #[.int .i64 0, .slice none 0 0, .slice none 0 0, .int .i64 0, .string ⟨#[]⟩, .string ⟨#[]⟩, .slice none 0 0] 45)).alloc (.cells #[.int .i64 0, .int .i64 0] 26)).alloc (.cells #[.int .i64 0, .slice none 0 0, .slice none 0 0, .int .i64 0, .string ⟨#[]⟩, .string ⟨#[]⟩, .slice none 0 0] 45) = W0 at *
    clear hW0
    refine (HL2.out _).mono ?_
    rintro e W1 ⟨A1, c1, rfl, bq, hc1, hc2, hk1, ha1⟩
    generalize hnn : (toksK s).length = nn at *
    have HNN := hide hnn
    have hb := bl_alloc W1 (.cells #[.int .i64 0, .int .i64 0] 26)
    have XR := hide ((X0.out.next bq).next hb)
    have XQ := hide ((X1.out.next bq).next hb)
    have XN := hide ((X2.out.next bq).next hb)
    have HX2 := hide ((HX.out.below bq).below hb)
    have HK2 := hide (hk1.below hb)
    have HT2 := hide ((HTB.out.below bq).below hb)
    have BB := hide ((B0.out.next bq).next hb)
    have hs1 := bq.size
    have hs2 := hb.size
    clear bq hb HL2 hk1 hnn
    go_wp2_with fail
    generalize hV : W1.alloc (.cells #[.int .i64 0, .int .i64 0] 26) = V at *
    clear hV
    refine (clone_any A n c xs V HX2.out hA (by omega)).mono ?_
    rintro e W2 ⟨B, d, rfl, hx2, hd1, hd2, bq, hb1⟩
    obtain ⟨D, hD⟩ : ∃ D : CD, D = ⟨A1, nn, c1, toksK s, B, n, d, xs, known⟩ := ⟨_, rfl⟩
    have hb := bl_alloc W2 (.cells #[.slice A1 nn c1, .int .i64 0, .slice B n d, .bool known] 35)
    have XR3 := hide ((XR.out.next bq).next hb)
    have XQ3 := hide ((XQ.out.next bq).next hb)
    have XN3 := hide ((XN.out.next bq).next hb)
    have HT3 := hide ((HT2.out.below bq).below hb)
    have BB3 := hide ((BB.out.next bq).next hb)
    have HCU := hide (show Cur D W2.heap.size (W2.alloc (.cells #[.slice A1 nn c1, .int .i64 0, .slice B n d, .bool known] 35)) 0 from by
      subst hD
      have hk2 := HK2.out.below bq
      refine ⟨Box.new 35 W2 _, hk2.below hb, hx2.below hb, ⟨toksK_ends s, fun h0 a ha => ?_, fun h0 a ha => ?_, hc1, hc2, hd1, hd2, by show nn ≤ 1000000; omega, fun t ht => by have := (toksK_mem ht).2.2; omega, fun t ht => (toksK_mem ht).2.1, fun t ht => (toksK_mem ht).1⟩, ?_⟩
      · obtain ⟨b, o, e, hlt, -⟩ := hk2.2 h0
        have ha' : A1 = some a := ha
        rw [ha'] at e; injection e with e; subst e; exact Nat.ne_of_lt hlt
      · obtain ⟨b, o, e, hlt, -⟩ := hx2.2 h0
        have ha' : B = some a := ha
        rw [ha'] at e; injection e with e; subst e; exact Nat.ne_of_lt hlt
      · have h9 : (rd (toksK s) 0).length ≤ nn + 1 := by
          rw [rd_len, ← HNN.out]; unfold view
          split
          · simp
          · rw [List.length_drop]; omega
        show 0 + (rd (toksK s) 0).length ≤ _
        omega)
    have HAA := hide (show (0 < D.n → ∀ a, D.A = some a → w0.heap.size + 1 < a.block) ∧ (0 < D.m → ∀ a, D.V = some a → w0.heap.size + 1 < a.block) from by
      subst hD
      refine ⟨fun h0 a ha => by have := ha1 h0 a ha; omega, fun h0 a ha => ?_⟩
      have := hb1 h0 a ha
      omega)
    have HIN := hide (show D.ts = toksK s ∧ D.kn = (fun x => !known || memS x xs) from by subst hD; exact ⟨rfl, rfl⟩)
    have hs3 := bq.size
    have hs4 := hb.size
    have hs5 := World.size_alloc W2 (.cells #[.slice A1 nn c1, .int .i64 0, .slice B n d, .bool known] 35)
    clear bq hb hx2 ha1 hb1 hD HNN HX2 HK2
    go_wp2_with fail
    generalize hW3 : W2.alloc (.cells #[.slice A1 nn c1, .int .i64 0, .slice B n d, .bool known] 35) = W3 at *
    clear hW3
    generalize hgg : W2.heap.size = g at *
    clear hgg
    have hcond := (Cond_any D g 0 W3 HCU.out HT3.out).mono (fun _ _ hh => PPost.any hh)
    refine hcond.mono ?_
    clear hcond
    rintro e W4 ⟨i', code, kd, Al, nl, cl, Ar, nr, cr, op, p, q, A2, n2, c2, rfl, hw, hor⟩
    have hlg := HCU.out.lt
    have hb := bl_alloc W4 (.cells #[.int .i64 kd, .slice Al nl cl, .slice Ar nr cr, .int .i64 op, .string p, .string q, .slice A2 n2 c2] 45)
    have hs6 := hw.1.size
    have hs7 := hb.size
    have XR5 := hide ((XR3.out.other hw.1 (by omega)).next hb)
    have XQ5 := hide ((XQ3.out.other hw.1 (by omega)).next hb)
    have XN5 := hide ((XN3.out.other hw.1 (by omega)).next hb)
    have XT5 := hide (Box.new 45 W4 #[.int .i64 kd, .slice Al nl cl, .slice Ar nr cr, .int .i64 op, .string p, .string q, .slice A2 n2 c2])
    have hsB := BB3.out.size
    have BB5 := hide (BB3.out.trans (((K2.fst (q := g) hw.1).below hsB (by omega) (by omega)).trans (hb.mono (by omega))))
    have C5 := hide (hw.2.below hb)
    have HKT := hide (fun (t : GT) (hT : TIn (From W3.heap.size) W4 t [.int .i64 kd, .slice Al nl cl, .slice Ar nr cr, .int .i64 op, .string p, .string q, .slice A2 n2 c2]) => hT.keep (Keep.of_below hb))
    have hwi := HIN.out
    unfold Stands at hor
    rw [hwi.1, hwi.2] at hor
    simp only [Nat.zero_add] at hor
    have HOR := hide hor
    clear hb hw hor B0 BB BB3 HT2 HTB X0 X1 X2 XR XQ XN XR3 XQ3 XN3 HCU HX HT3
    generalize hV5 : W4.alloc (.cells #[.int .i64 kd, .slice Al nl cl, .slice Ar nr cr, .int .i64 op, .string p, .string q, .slice A2 n2 c2] 45) = V5 at *
    have HAT := hide (fun W (hk : K2 (w0.heap.size) (w0.heap.size + 1) V5 W) => at_any D g i' W (C5.out.k2 hk (by omega) (by omega) (fun h0 a ha => by have := HAA.out.1 h0 a ha; omega) (fun h0 a ha => by have := HAA.out.2 h0 a ha; omega)))
    unfold AtPost at HAT
    rw [hwi.1] at HAT
    have HKND := (fun a b c d W => (show (Instr.field 60 (.agg #[a, b, c, d]) 0).run Tryd.prog W = .ok a W from by kernel_rfl))
    clear C5 HIN HAA hwi
    obtain ⟨th, hth⟩ : ∃ th, th = hd (toksK s) i' := ⟨_, rfl⟩
    rw [← hth] at HAT
    have HTH := hide hth
    clear hth
    rcases HOR.out with ⟨hc0, t, r1, hp1, hT, hr1, hr2⟩ | ⟨cd, r1, hc0, hcd, hp1, hr1, hr2⟩
    · subst hc0
      have gk : th.kind ≠ 5 → ((th.kind : Int) != 5) = true := fun h => by simp; omega
      have gk2 : th.kind = 5 → ((th.kind : Int) != 5) = false := fun h => by rw [h]; rfl
      by_cases hk : th.kind = 5
      · have gq := gk2 hk
        have HPP := hide (fun w' (hb : Below w0.heap.size w0 w') (hT2 : TIn (From w0.heap.size) w' (gt t) [.int .i64 kd, .slice Al nl cl, .slice Ar nr cr, .int .i64 op, .string p, .string q, .slice A2 n2 c2]) => HP.out _ _ (WOk.tree _ _ _ _ _ _ _ _ _ _ _ _ _ HTH.out hk hb hp1 hr1 hr2 hT2))
        have HTT := hide (HKT.out _ hT)
        clear gk gk2 HP HKT HTH HOR hp1 hT hr1 hr2 XN5
        go_wp2_with fail
        refine (HAT.out _ (K2.refl _ _ _)).mono ?_
        rintro e W6 ⟨rfl, b6⟩
        have XR6 := XR5.out.next b6
        have XQ6 := XQ5.out.next b6
        have XT6 := XT5.out.next b6
        have BB6 := hide (BB5.out.trans (b6.mono (by omega)))
        have HT6 := hide (HTT.out.keep (Keep.of_below b6))
        have hs8 := b6.size
        have CT := XT6.cell
        clear b6 BB5 HTT XR5 XQ5 XT5 HAT
        have hlt := XT6.lt
        go_wp2_with (first
          | (with_reducible refine wpList_store_box rfl 45 _ _ rfl w0.heap.size #[.int .i64 kd, .slice Al nl cl, .slice Ar nr cr, .int .i64 op, .string p, .string q, .slice A2 n2 c2] rfl rfl _ XR6 (by kernel_rfl) rfl (by simp [Value.oneCell']) ?_; intro w8 x8 o8)
          | (with_reducible refine wpList_store_box rfl 26 _ _ rfl (w0.heap.size + 1) #[.int .i64 0, .int .i64 0] rfl rfl _ (XQ6.other o8 (by omega)) (by kernel_rfl) rfl (by simp [Value.oneCell']) ?_; intro w9 x9 o9))
        have hk9 := (K2.fst (q := w0.heap.size + 1) o8).trans (K2.snd o9)
        refine bodyPost_tp rfl rfl rfl rfl (x8.other o9 (by omega)) x9 rfl ?_
        exact HPP.out _ (BB6.out.trans (hk9.below BB6.out.size (by omega) (by omega))) ((HT6.out.keep (hk9.keep (by unfold From; omega) (by unfold From; omega))).mono (by omega))
      · have gq := gk hk
        have HZ := hide (fun w' (hb : Below w0.heap.size w0 w') => HP.out _ _ (WOk.zero HTH.out (show endC th.kind 0 = 101 from by unfold endC; rw [if_pos rfl, if_neg hk]) (by decide) hb (Or.inl ⟨rfl, t, r1, hp1, hr1, hr2⟩)))
        clear gk gk2 HP HKT HTH HOR hp1 hT hr1 hr2 XT5
        go_wp2_with fail
        refine (HAT.out _ (K2.refl _ _ _)).mono ?_
        rintro e W6 ⟨rfl, b6⟩
        have HAT := hide (fun W hk => HAT.out W ((K2.of_below b6).trans hk))
        have xR := XR5.out.next b6
        have xQ := XQ5.out.next b6
        have xN := XN5.out.next b6
        have BB6 := hide (BB5.out.trans (b6.mono (by omega)))
        have hs8 := b6.size
        clear b6 BB5 XR5 XQ5 XN5
        go_upto_region 12 with fail
        clear HKND
        have n0 := xN.cell 0 _ rfl
        have n1 := xN.cell 1 _ rfl
        have n2 := xN.cell 2 _ rfl
        have n3 := xN.cell 3 _ rfl
        have n4 := xN.cell 4 _ rfl
        have n5 := xN.cell 5 _ rfl
        have n6 := xN.cell 6 _ rfl
        have hgn := xN.lt
        have SOF := hide (show ∀ W, K2 (w0.heap.size) (w0.heap.size + 1) W6 W → (W.cell? ⟨w0.heap.size + 1 + 1, 0, none⟩ = some (.int .i64 0) ∧ W.cell? ⟨w0.heap.size + 1 + 1, 1, none⟩ = some (.slice none 0 0) ∧ W.cell? ⟨w0.heap.size + 1 + 1, 2, none⟩ = some (.slice none 0 0) ∧ W.cell? ⟨w0.heap.size + 1 + 1, 3, none⟩ = some (.int .i64 0) ∧ W.cell? ⟨w0.heap.size + 1 + 1, 4, none⟩ = some (.string ⟨#[]⟩) ∧ W.cell? ⟨w0.heap.size + 1 + 1, 5, none⟩ = some (.string ⟨#[]⟩) ∧ W.cell? ⟨w0.heap.size + 1 + 1, 6, none⟩ = some (.slice none 0 0)) from fun W h => ⟨(h.cell hgn (by omega) (by omega)).trans n0, (h.cell hgn (by omega) (by omega)).trans n1, (h.cell hgn (by omega) (by omega)).trans n2, (h.cell hgn (by omega) (by omega)).trans n3, (h.cell hgn (by omega) (by omega)).trans n4, (h.cell hgn (by omega) (by omega)).trans n5, (h.cell hgn (by omega) (by omega)).trans n6⟩)
        clear n0 n1 n2 n3 n4 n5 n6
        have HKN2 := (fun a b c d W => (show (Instr.field 60 (.agg #[a, b, c, d]) 2).run Tryd.prog W = .ok (.agg #[c, d]) W from by kernel_rfl))
        refine wp_drawn (by kernel_rfl) (by kernel_rfl) (by kernel_rfl) (K2 (w0.heap.size) (w0.heap.size + 1)) (fun j v w => match j with | 0 => v = .agg #[.int .i64 0, .slice none 0 0, .slice none 0 0, .int .i64 0, .string ⟨#[]⟩, .string ⟨#[]⟩, .slice none 0 0] | 1 => v = .pointer (some ⟨g, 0, none⟩) | 2 => v = .agg #[.int .i64 (th.kind : Int), .string th.text, .int .i64 (th.line : Int), .int .i64 (th.col : Int)] | 3 => v = .agg #[.int .i64 (th.line : Int), .int .i64 (th.col : Int)] | 4 => v = .int .i64 101 | 5 => True | 6 => True | 7 => v = .int .i64 101 | _ => True) (G2 W6 (w0.heap.size) 5 45 #[.int .i64 0, .slice none 0 0, .slice none 0 0, .int .i64 0, .string ⟨#[]⟩, .string ⟨#[]⟩, .slice none 0 0] (w0.heap.size + 1) 6 26 #[.int .i64 (th.line : Int), .int .i64 (th.col : Int)] 2) ?_ (fun _ => G2.start ((xR).drew) rfl ((xQ).drew) rfl (bl_drewN W6 1) rfl (by decide)) ?_ ?_
        · intro j v w w' hT h
          match j, h with
          | 0, h => exact h
          | 1, h => exact h
          | 2, h => exact h
          | 3, h => exact h
          | 4, h => exact h
          | 5, h => trivial
          | 6, h => trivial
          | 7, h => exact h
          | j + 8, h => trivial
        · refine ⟨?_, ?_, ?_, ?_, ?_, ?_, ?_, ?_, trivial⟩
          · intro listed σ w a hin hout hl hc hp hG hF
            refine Guarded.none rfl ?_
            have e11 : a.tmps.getD 11 undef = .pointer (some ⟨w0.heap.size + 1 + 1, 0, none⟩) := hout 11 (outB_spec (by kernel_rfl))
            have CC := SOF.out w hG.k; obtain ⟨C0, C1, C2, C3, C4, C5, C6⟩ := CC
            refine Does.val (.agg #[.int .i64 0, .slice none 0 0, .slice none 0 0, .int .i64 0, .string ⟨#[]⟩, .string ⟨#[]⟩, .slice none 0 0]) (w' := w) ?_ ⟨K2.refl _ _ _, rfl, hG.next (Below.refl _ _) (by decide) (by decide) (Or.inr rfl)⟩
            go_simp
          · intro listed σ w a hin hout hl hc hp hG hF
            refine Guarded.none rfl ?_
            have e15 : a.tmps.getD 15 undef = .pointer (some ⟨g, 0, none⟩) := hout 15 (outB_spec (by kernel_rfl))
            refine Does.val (.pointer (some ⟨g, 0, none⟩)) (w' := w) ?_ ⟨K2.refl _ _ _, rfl, hG.next (Below.refl _ _) (by decide) (by decide) (Or.inr rfl)⟩
            simp only [Array.getD_eq_getD_getElem?] at e15
            go_simp
          · intro listed σ w a hin hout hl hc hp hG hF
            refine Guarded.none rfl ?_
            have e57 : a.tmps.getD 57 undef = .pointer (some ⟨g, 0, none⟩) := (hin 1 57 rfl (hp ⟨1, .data⟩ (by simp) rfl)).trans (hF 1 (hp ⟨1, .data⟩ (by simp) rfl))
            refine Does.call ?_ (HAT.out w hG.k) ?_
            · go_simp
            · rintro e w' ⟨rfl, hb⟩
              exact ⟨_, rfl, K2.of_below hb, rfl, hG.next hb (by decide) (by decide) (Or.inl rfl)⟩
          · intro listed σ w a hin hout hl hc hp hG hF
            refine Guarded.none rfl ?_
            have e58 : a.tmps.getD 58 undef = .agg #[.int .i64 (th.kind : Int), .string th.text, .int .i64 (th.line : Int), .int .i64 (th.col : Int)] := (hin 2 58 rfl (hp ⟨2, .data⟩ (by simp) rfl)).trans (hF 2 (hp ⟨2, .data⟩ (by simp) rfl))
            refine Does.val (.agg #[.int .i64 (th.line : Int), .int .i64 (th.col : Int)]) (w' := w) ?_ ⟨K2.refl _ _ _, rfl, hG.next (Below.refl _ _) (by decide) (by decide) (Or.inr rfl)⟩
            simp only [Array.getD_eq_getD_getElem?] at e58
            go_simp
          · intro listed σ w a hin hout hl hc hp hG hF
            refine Guarded.none rfl ?_
            have e14 : a.tmps.getD 14 undef = .int .i64 101 := hout 14 (outB_spec (by kernel_rfl))
            refine Does.val (.int .i64 101) (w' := w) ?_ ⟨K2.refl _ _ _, rfl, hG.next (Below.refl _ _) (by decide) (by decide) (Or.inr rfl)⟩
            simp only [Array.getD_eq_getD_getElem?] at e14
            go_simp
          · intro listed σ w a hin hout hl hc hp hG hF
            refine Guarded.none rfl ?_
            have e8 : a.tmps.getD 8 undef = .pointer (some ⟨w0.heap.size, 0, none⟩) := hout 8 (outB_spec (by kernel_rfl))
            have e56 : a.tmps.getD 56 undef = .agg #[.int .i64 0, .slice none 0 0, .slice none 0 0, .int .i64 0, .string ⟨#[]⟩, .string ⟨#[]⟩, .slice none 0 0] := (hin 0 56 rfl (hp ⟨0, .data⟩ (by simp) rfl)).trans (hF 0 (hp ⟨0, .data⟩ (by simp) rfl))
            obtain ⟨cc, zz, bb, -⟩ := hG.b1
            refine Does.store_boxE (T := 45) (cells := #[.int .i64 0, .slice none 0 0, .slice none 0 0, .int .i64 0, .string ⟨#[]⟩, .string ⟨#[]⟩, .slice none 0 0]) rfl e8 e56 bb (by kernel_rfl) zz (by simp [Value.oneCell']) (fun w2 x9 o9 z9 => ?_)
            have q9 := G2.st1 (τ := upd σ 5 undef) hG (by omega) (by decide) (by decide) x9 o9 z9
            exact ⟨q9.1, trivial, q9.2⟩
          · intro listed σ w a hin hout hl hc hp hG hF
            refine Guarded.none rfl ?_
            have e9 : a.tmps.getD 9 undef = .pointer (some ⟨w0.heap.size + 1, 0, none⟩) := hout 9 (outB_spec (by kernel_rfl))
            have e59 : a.tmps.getD 59 undef = .agg #[.int .i64 (th.line : Int), .int .i64 (th.col : Int)] := (hin 3 59 rfl (hp ⟨3, .data⟩ (by simp) rfl)).trans (hF 3 (hp ⟨3, .data⟩ (by simp) rfl))
            obtain ⟨cc, zz, bb, -⟩ := hG.b2
            refine Does.store_boxE (T := 26) (cells := #[.int .i64 (th.line : Int), .int .i64 (th.col : Int)]) rfl e9 e59 bb (by kernel_rfl) zz (by simp [Value.oneCell']) (fun w2 x9 o9 z9 => ?_)
            have q9 := G2.st2 (τ := upd σ 6 undef) hG (by omega) (by decide) (by decide) x9 o9 z9
            exact ⟨q9.1, trivial, q9.2⟩
          · intro listed σ w a hin hout hl hc hp hG hF
            refine Guarded.none rfl ?_
            have e60 : a.tmps.getD 60 undef = .int .i64 101 := (hin 4 60 rfl (hp ⟨4, .data⟩ (by simp) rfl)).trans (hF 4 (hp ⟨4, .data⟩ (by simp) rfl))
            refine Does.val (.int .i64 101) (w' := w) ?_ ⟨K2.refl _ _ _, rfl, hG.next (Below.refl _ _) (by decide) (by decide) (Or.inr rfl)⟩
            simp only [Array.getD_eq_getD_getElem?] at e60
            go_simp
        · intro listed σ W9 hall hG hF
          rw [show mid _ σ listed _ = (Act.put (Act.put (Act.put (Act.put (Act.put (Act.put (Act.put (Act.put _ (some 56) (σ 0)) (some 57) (σ 1)) (some 58) (σ 2)) (some 59) (σ 3)) (some 60) (σ 4)) none (σ 5)) none (σ 6)) (some 10) (σ 7)) from (mid_all hall).trans rfl]
          generalize σ 0 = tt0 at *
          generalize σ 1 = tt1 at *
          generalize σ 2 = tt2 at *
          generalize σ 3 = tt3 at *
          generalize σ 4 = tt4 at *
          rw [show σ 7 = .int .i64 101 from hF 7 (by decide)]
          simp only [Act.put, List.setIfInBounds_toArray, List.set_cons_zero, List.set_cons_succ]
          have TK := hG.k
          obtain ⟨c91, -, X9, E9⟩ := hG.b1
          have E9 := E9 (hall 5 (by decide))
          subst E9
          obtain ⟨c92, -, Y9, E9⟩ := hG.b2
          have E9 := E9 (hall 6 (by decide))
          subst E9
          clear hF hG hall
          have hb9 := BB6.out.trans (TK.below BB6.out.size (by omega) (by omega))
          have HPP := hide (HZ.out W9 hb9)
          clear SOF TK hb9
          go_wp2_with fail
          refine bodyPost_tp rfl rfl rfl rfl X9 Y9 rfl ?_
          exact HPP.out
    · subst hc0
      have HZ := hide (fun w' (hb : Below w0.heap.size w0 w') => HP.out _ _ (WOk.zero HTH.out (show endC th.kind cd = cd from by unfold endC; rw [if_neg hcd]) hcd hb (Or.inr ⟨hcd, r1, hp1, hr1, hr2⟩)))
      have gc := err_ne hcd
      have gc2 := err_ne2 hcd
      have xR := XR5.out
      have xQ := XQ5.out
      have xN := XN5.out
      clear HP HKT HTH HOR hp1 hr1 hr2 XT5 XR5 XQ5 XN5 HKND hcd
      go_upto_region 12 with fail
      have n0 := xN.cell 0 _ rfl
      have n1 := xN.cell 1 _ rfl
      have n2 := xN.cell 2 _ rfl
      have n3 := xN.cell 3 _ rfl
      have n4 := xN.cell 4 _ rfl
      have n5 := xN.cell 5 _ rfl
      have n6 := xN.cell 6 _ rfl
      have hgn := xN.lt
      have SOF := hide (show ∀ W, K2 (w0.heap.size) (w0.heap.size + 1) V5 W → (W.cell? ⟨w0.heap.size + 1 + 1, 0, none⟩ = some (.int .i64 0) ∧ W.cell? ⟨w0.heap.size + 1 + 1, 1, none⟩ = some (.slice none 0 0) ∧ W.cell? ⟨w0.heap.size + 1 + 1, 2, none⟩ = some (.slice none 0 0) ∧ W.cell? ⟨w0.heap.size + 1 + 1, 3, none⟩ = some (.int .i64 0) ∧ W.cell? ⟨w0.heap.size + 1 + 1, 4, none⟩ = some (.string ⟨#[]⟩) ∧ W.cell? ⟨w0.heap.size + 1 + 1, 5, none⟩ = some (.string ⟨#[]⟩) ∧ W.cell? ⟨w0.heap.size + 1 + 1, 6, none⟩ = some (.slice none 0 0)) from fun W h => ⟨(h.cell hgn (by omega) (by omega)).trans n0, (h.cell hgn (by omega) (by omega)).trans n1, (h.cell hgn (by omega) (by omega)).trans n2, (h.cell hgn (by omega) (by omega)).trans n3, (h.cell hgn (by omega) (by omega)).trans n4, (h.cell hgn (by omega) (by omega)).trans n5, (h.cell hgn (by omega) (by omega)).trans n6⟩)
      clear n0 n1 n2 n3 n4 n5 n6
      have HKN2 := (fun a b c d W => (show (Instr.field 60 (.agg #[a, b, c, d]) 2).run Tryd.prog W = .ok (.agg #[c, d]) W from by kernel_rfl))
      refine wp_drawn (by kernel_rfl) (by kernel_rfl) (by kernel_rfl) (K2 (w0.heap.size) (w0.heap.size + 1)) (fun j v w => match j with | 0 => v = .agg #[.int .i64 0, .slice none 0 0, .slice none 0 0, .int .i64 0, .string ⟨#[]⟩, .string ⟨#[]⟩, .slice none 0 0] | 1 => v = .pointer (some ⟨g, 0, none⟩) | 2 => v = .agg #[.int .i64 (th.kind : Int), .string th.text, .int .i64 (th.line : Int), .int .i64 (th.col : Int)] | 3 => v = .agg #[.int .i64 (th.line : Int), .int .i64 (th.col : Int)] | 4 => v = .int .i64 (cd : Nat) | 5 => True | 6 => True | 7 => v = .int .i64 (cd : Nat) | _ => True) (G2 V5 (w0.heap.size) 5 45 #[.int .i64 0, .slice none 0 0, .slice none 0 0, .int .i64 0, .string ⟨#[]⟩, .string ⟨#[]⟩, .slice none 0 0] (w0.heap.size + 1) 6 26 #[.int .i64 (th.line : Int), .int .i64 (th.col : Int)] 2) ?_ (fun _ => G2.start ((xR).drew) rfl ((xQ).drew) rfl (bl_drewN V5 1) rfl (by decide)) ?_ ?_
      · intro j v w w' hT h
        match j, h with
        | 0, h => exact h
        | 1, h => exact h
        | 2, h => exact h
        | 3, h => exact h
        | 4, h => exact h
        | 5, h => trivial
        | 6, h => trivial
        | 7, h => exact h
        | j + 8, h => trivial
      · refine ⟨?_, ?_, ?_, ?_, ?_, ?_, ?_, ?_, trivial⟩
        · intro listed σ w a hin hout hl hc hp hG hF
          refine Guarded.none rfl ?_
          have e11 : a.tmps.getD 11 undef = .pointer (some ⟨w0.heap.size + 1 + 1, 0, none⟩) := hout 11 (outB_spec (by kernel_rfl))
          have CC := SOF.out w hG.k; obtain ⟨C0, C1, C2, C3, C4, C5, C6⟩ := CC
          refine Does.val (.agg #[.int .i64 0, .slice none 0 0, .slice none 0 0, .int .i64 0, .string ⟨#[]⟩, .string ⟨#[]⟩, .slice none 0 0]) (w' := w) ?_ ⟨K2.refl _ _ _, rfl, hG.next (Below.refl _ _) (by decide) (by decide) (Or.inr rfl)⟩
          go_simp
        · intro listed σ w a hin hout hl hc hp hG hF
          refine Guarded.none rfl ?_
          have e15 : a.tmps.getD 15 undef = .pointer (some ⟨g, 0, none⟩) := hout 15 (outB_spec (by kernel_rfl))
          refine Does.val (.pointer (some ⟨g, 0, none⟩)) (w' := w) ?_ ⟨K2.refl _ _ _, rfl, hG.next (Below.refl _ _) (by decide) (by decide) (Or.inr rfl)⟩
          simp only [Array.getD_eq_getD_getElem?] at e15
          go_simp
        · intro listed σ w a hin hout hl hc hp hG hF
          refine Guarded.none rfl ?_
          have e57 : a.tmps.getD 57 undef = .pointer (some ⟨g, 0, none⟩) := (hin 1 57 rfl (hp ⟨1, .data⟩ (by simp) rfl)).trans (hF 1 (hp ⟨1, .data⟩ (by simp) rfl))
          refine Does.call ?_ (HAT.out w hG.k) ?_
          · go_simp
          · rintro e w' ⟨rfl, hb⟩
            exact ⟨_, rfl, K2.of_below hb, rfl, hG.next hb (by decide) (by decide) (Or.inl rfl)⟩
        · intro listed σ w a hin hout hl hc hp hG hF
          refine Guarded.none rfl ?_
          have e58 : a.tmps.getD 58 undef = .agg #[.int .i64 (th.kind : Int), .string th.text, .int .i64 (th.line : Int), .int .i64 (th.col : Int)] := (hin 2 58 rfl (hp ⟨2, .data⟩ (by simp) rfl)).trans (hF 2 (hp ⟨2, .data⟩ (by simp) rfl))
          refine Does.val (.agg #[.int .i64 (th.line : Int), .int .i64 (th.col : Int)]) (w' := w) ?_ ⟨K2.refl _ _ _, rfl, hG.next (Below.refl _ _) (by decide) (by decide) (Or.inr rfl)⟩
          simp only [Array.getD_eq_getD_getElem?] at e58
          go_simp
        · intro listed σ w a hin hout hl hc hp hG hF
          refine Guarded.none rfl ?_
          have e14 : a.tmps.getD 14 undef = .int .i64 (cd : Nat) := hout 14 (outB_spec (by kernel_rfl))
          refine Does.val (.int .i64 (cd : Nat)) (w' := w) ?_ ⟨K2.refl _ _ _, rfl, hG.next (Below.refl _ _) (by decide) (by decide) (Or.inr rfl)⟩
          simp only [Array.getD_eq_getD_getElem?] at e14
          go_simp
        · intro listed σ w a hin hout hl hc hp hG hF
          refine Guarded.none rfl ?_
          have e8 : a.tmps.getD 8 undef = .pointer (some ⟨w0.heap.size, 0, none⟩) := hout 8 (outB_spec (by kernel_rfl))
          have e56 : a.tmps.getD 56 undef = .agg #[.int .i64 0, .slice none 0 0, .slice none 0 0, .int .i64 0, .string ⟨#[]⟩, .string ⟨#[]⟩, .slice none 0 0] := (hin 0 56 rfl (hp ⟨0, .data⟩ (by simp) rfl)).trans (hF 0 (hp ⟨0, .data⟩ (by simp) rfl))
          obtain ⟨cc, zz, bb, -⟩ := hG.b1
          refine Does.store_boxE (T := 45) (cells := #[.int .i64 0, .slice none 0 0, .slice none 0 0, .int .i64 0, .string ⟨#[]⟩, .string ⟨#[]⟩, .slice none 0 0]) rfl e8 e56 bb (by kernel_rfl) zz (by simp [Value.oneCell']) (fun w2 x9 o9 z9 => ?_)
          have q9 := G2.st1 (τ := upd σ 5 undef) hG (by omega) (by decide) (by decide) x9 o9 z9
          exact ⟨q9.1, trivial, q9.2⟩
        · intro listed σ w a hin hout hl hc hp hG hF
          refine Guarded.none rfl ?_
          have e9 : a.tmps.getD 9 undef = .pointer (some ⟨w0.heap.size + 1, 0, none⟩) := hout 9 (outB_spec (by kernel_rfl))
          have e59 : a.tmps.getD 59 undef = .agg #[.int .i64 (th.line : Int), .int .i64 (th.col : Int)] := (hin 3 59 rfl (hp ⟨3, .data⟩ (by simp) rfl)).trans (hF 3 (hp ⟨3, .data⟩ (by simp) rfl))
          obtain ⟨cc, zz, bb, -⟩ := hG.b2
          refine Does.store_boxE (T := 26) (cells := #[.int .i64 (th.line : Int), .int .i64 (th.col : Int)]) rfl e9 e59 bb (by kernel_rfl) zz (by simp [Value.oneCell']) (fun w2 x9 o9 z9 => ?_)
          have q9 := G2.st2 (τ := upd σ 6 undef) hG (by omega) (by decide) (by decide) x9 o9 z9
          exact ⟨q9.1, trivial, q9.2⟩
        · intro listed σ w a hin hout hl hc hp hG hF
          refine Guarded.none rfl ?_
          have e60 : a.tmps.getD 60 undef = .int .i64 (cd : Nat) := (hin 4 60 rfl (hp ⟨4, .data⟩ (by simp) rfl)).trans (hF 4 (hp ⟨4, .data⟩ (by simp) rfl))
          refine Does.val (.int .i64 (cd : Nat)) (w' := w) ?_ ⟨K2.refl _ _ _, rfl, hG.next (Below.refl _ _) (by decide) (by decide) (Or.inr rfl)⟩
          simp only [Array.getD_eq_getD_getElem?] at e60
          go_simp
      · intro listed σ W9 hall hG hF
        rw [show mid _ σ listed _ = (Act.put (Act.put (Act.put (Act.put (Act.put (Act.put (Act.put (Act.put _ (some 56) (σ 0)) (some 57) (σ 1)) (some 58) (σ 2)) (some 59) (σ 3)) (some 60) (σ 4)) none (σ 5)) none (σ 6)) (some 10) (σ 7)) from (mid_all hall).trans rfl]
        generalize σ 0 = tt0 at *
        generalize σ 1 = tt1 at *
        generalize σ 2 = tt2 at *
        generalize σ 3 = tt3 at *
        generalize σ 4 = tt4 at *
        rw [show σ 7 = .int .i64 (cd : Nat) from hF 7 (by decide)]
        simp only [Act.put, List.setIfInBounds_toArray, List.set_cons_zero, List.set_cons_succ]
        have TK := hG.k
        obtain ⟨c91, -, X9, E9⟩ := hG.b1
        have E9 := E9 (hall 5 (by decide))
        subst E9
        obtain ⟨c92, -, Y9, E9⟩ := hG.b2
        have E9 := E9 (hall 6 (by decide))
        subst E9
        clear hF hG hall
        have hb9 := BB5.out.trans (TK.below BB5.out.size (by omega) (by omega))
        have HPP := hide (HZ.out W9 hb9)
        clear SOF TK hb9
        go_wp2_with fail
        refine bodyPost_tp rfl rfl rfl rfl X9 Y9 rfl ?_
        exact HPP.out
  · have HP := hide (show ∀ (a b c : Nat) w', Below w0.heap.size w0 w' → WPost s (fun x => !known || memS x xs) w0 (.returned (.tuple #[.agg #[.int .i64 0, .slice none 0 0, .slice none 0 0, .int .i64 0, .string ⟨#[]⟩, .string ⟨#[]⟩, .slice none 0 0], .agg #[.int .i64 (a : Nat), .int .i64 (b : Nat)], .int .i64 (c : Nat)])) w' from fun a b c w' hw => by unfold WPost; rw [if_neg hc]; exact ⟨⟨a, b, c, rfl⟩, hw⟩)
    generalize resPos s (lexAll (byteAt s) s.size) = ps at *
    have gc := err_ne hc
    generalize (lexAll (byteAt s) s.size).code = cd at *
    clear hfn hc
    go_enter Tryd.func13, Tryd.ntmps13
    go_wp2_with fail
    generalize hW0 : ((w0.alloc (.cells #[.int .i64 0, .slice none 0 0, .slice none 0 0, .int .i64 0, .string ⟨#[]⟩, .string ⟨#[]⟩, .slice none 0 0] 45)).alloc (.cells #[.int .i64 0, .int .i64 0] 26)).alloc (.cells #[.int .i64 0, .slice none 0 0, .slice none 0 0, .int .i64 0, .string ⟨#[]⟩, .string ⟨#[]⟩, .slice none 0 0] 45) = W0 at *
    clear hW0
    refine (HL.out _).mono ?_
    rintro e W1 ⟨v1, rfl, bq, -⟩
    have hb := bl_alloc W1 (.cells #[.int .i64 (ps.1 : Nat), .int .i64 (ps.2 : Nat)] 26)
    have xR := (X0.out.next bq).next hb
    have xQ := (X1.out.next bq).next hb
    have xN := (X2.out.next bq).next hb
    have xP := Box.new 26 W1 #[.int .i64 (ps.1 : Nat), .int .i64 (ps.2 : Nat)]
    have BB := hide ((B0.out.next bq).next hb)
    have hs1 := bq.size
    clear bq hb HL
    go_upto_region 4 with fail
    generalize hV : W1.alloc (.cells #[.int .i64 (ps.1 : Nat), .int .i64 (ps.2 : Nat)] 26) = V at *
    clear hV
    have n0 := xN.cell 0 _ rfl
    have n1 := xN.cell 1 _ rfl
    have n2 := xN.cell 2 _ rfl
    have n3 := xN.cell 3 _ rfl
    have n4 := xN.cell 4 _ rfl
    have n5 := xN.cell 5 _ rfl
    have n6 := xN.cell 6 _ rfl
    have p0 := xP.cell 0 _ rfl
    have p1 := xP.cell 1 _ rfl
    have hgn := xN.lt
    have hgp := xP.lt
    have SOF := hide (show ∀ W, K2 (w0.heap.size) (w0.heap.size + 1) V W → (W.cell? ⟨w0.heap.size + 1 + 1, 0, none⟩ = some (.int .i64 0) ∧ W.cell? ⟨w0.heap.size + 1 + 1, 1, none⟩ = some (.slice none 0 0) ∧ W.cell? ⟨w0.heap.size + 1 + 1, 2, none⟩ = some (.slice none 0 0) ∧ W.cell? ⟨w0.heap.size + 1 + 1, 3, none⟩ = some (.int .i64 0) ∧ W.cell? ⟨w0.heap.size + 1 + 1, 4, none⟩ = some (.string ⟨#[]⟩) ∧ W.cell? ⟨w0.heap.size + 1 + 1, 5, none⟩ = some (.string ⟨#[]⟩) ∧ W.cell? ⟨w0.heap.size + 1 + 1, 6, none⟩ = some (.slice none 0 0) ∧ W.cell? ⟨W1.heap.size, 0, none⟩ = some (.int .i64 (ps.1 : Nat)) ∧ W.cell? ⟨W1.heap.size, 1, none⟩ = some (.int .i64 (ps.2 : Nat))) from fun W h => ⟨(h.cell hgn (by omega) (by omega)).trans n0, (h.cell hgn (by omega) (by omega)).trans n1, (h.cell hgn (by omega) (by omega)).trans n2, (h.cell hgn (by omega) (by omega)).trans n3, (h.cell hgn (by omega) (by omega)).trans n4, (h.cell hgn (by omega) (by omega)).trans n5, (h.cell hgn (by omega) (by omega)).trans n6, (h.cell hgp (by omega) (by omega)).trans p0, (h.cell hgp (by omega) (by omega)).trans p1⟩)
    clear n0 n1 n2 n3 n4 n5 n6 p0 p1
    refine wp_drawn (by kernel_rfl) (by kernel_rfl) (by kernel_rfl) (K2 (w0.heap.size) (w0.heap.size + 1)) (fun j v w => match j with | 0 => v = .agg #[.int .i64 0, .slice none 0 0, .slice none 0 0, .int .i64 0, .string ⟨#[]⟩, .string ⟨#[]⟩, .slice none 0 0] | 1 => v = .agg #[.int .i64 (ps.1 : Nat), .int .i64 (ps.2 : Nat)] | 2 => v = .int .i64 (cd : Nat) | 3 => True | 4 => True | 5 => v = .int .i64 (cd : Nat) | _ => True) (G2 V (w0.heap.size) 3 45 #[.int .i64 0, .slice none 0 0, .slice none 0 0, .int .i64 0, .string ⟨#[]⟩, .string ⟨#[]⟩, .slice none 0 0] (w0.heap.size + 1) 4 26 #[.int .i64 (ps.1 : Nat), .int .i64 (ps.2 : Nat)] 5) ?_ (fun _ => G2.start ((xR).drew) rfl ((xQ).drew) rfl (bl_drewN V 1) rfl (by decide)) ?_ ?_
    · intro j v w w' hT h
      match j, h with
      | 0, h => exact h
      | 1, h => exact h
      | 2, h => exact h
      | 3, h => trivial
      | 4, h => trivial
      | 5, h => exact h
      | j + 6, h => trivial
    · refine ⟨?_, ?_, ?_, ?_, ?_, ?_, trivial⟩
      · intro listed σ w a hin hout hl hc hp hG hF
        refine Guarded.none rfl ?_
        have e11 : a.tmps.getD 11 undef = .pointer (some ⟨w0.heap.size + 1 + 1, 0, none⟩) := hout 11 (outB_spec (by kernel_rfl))
        have CC := SOF.out w hG.k; obtain ⟨C0, C1, C2, C3, C4, C5, C6, D0, D1⟩ := CC
        refine Does.val (.agg #[.int .i64 0, .slice none 0 0, .slice none 0 0, .int .i64 0, .string ⟨#[]⟩, .string ⟨#[]⟩, .slice none 0 0]) (w' := w) ?_ ⟨K2.refl _ _ _, rfl, hG.next (Below.refl _ _) (by decide) (by decide) (Or.inr rfl)⟩
        go_simp
      · intro listed σ w a hin hout hl hc hp hG hF
        refine Guarded.none rfl ?_
        have e13 : a.tmps.getD 13 undef = .pointer (some ⟨W1.heap.size, 0, none⟩) := hout 13 (outB_spec (by kernel_rfl))
        have CC := SOF.out w hG.k; obtain ⟨C0, C1, C2, C3, C4, C5, C6, D0, D1⟩ := CC
        refine Does.val (.agg #[.int .i64 (ps.1 : Nat), .int .i64 (ps.2 : Nat)]) (w' := w) ?_ ⟨K2.refl _ _ _, rfl, hG.next (Below.refl _ _) (by decide) (by decide) (Or.inr rfl)⟩
        go_simp
      · intro listed σ w a hin hout hl hc hp hG hF
        refine Guarded.none rfl ?_
        have e14 : a.tmps.getD 14 undef = .int .i64 (cd : Nat) := hout 14 (outB_spec (by kernel_rfl))
        refine Does.val (.int .i64 (cd : Nat)) (w' := w) ?_ ⟨K2.refl _ _ _, rfl, hG.next (Below.refl _ _) (by decide) (by decide) (Or.inr rfl)⟩
        simp only [Array.getD_eq_getD_getElem?] at e14
        go_simp
      · intro listed σ w a hin hout hl hc hp hG hF
        refine Guarded.none rfl ?_
        have e8 : a.tmps.getD 8 undef = .pointer (some ⟨w0.heap.size, 0, none⟩) := hout 8 (outB_spec (by kernel_rfl))
        have e26 : a.tmps.getD 26 undef = .agg #[.int .i64 0, .slice none 0 0, .slice none 0 0, .int .i64 0, .string ⟨#[]⟩, .string ⟨#[]⟩, .slice none 0 0] := (hin 0 26 rfl (hp ⟨0, .data⟩ (by simp) rfl)).trans (hF 0 (hp ⟨0, .data⟩ (by simp) rfl))
        obtain ⟨cc, zz, bb, -⟩ := hG.b1
        refine Does.store_boxE (T := 45) (cells := #[.int .i64 0, .slice none 0 0, .slice none 0 0, .int .i64 0, .string ⟨#[]⟩, .string ⟨#[]⟩, .slice none 0 0]) rfl e8 e26 bb (by kernel_rfl) zz (by simp [Value.oneCell']) (fun w2 x9 o9 z9 => ?_)
        have q9 := G2.st1 (τ := upd σ 3 undef) hG (by omega) (by decide) (by decide) x9 o9 z9
        exact ⟨q9.1, trivial, q9.2⟩
      · intro listed σ w a hin hout hl hc hp hG hF
        refine Guarded.none rfl ?_
        have e9 : a.tmps.getD 9 undef = .pointer (some ⟨w0.heap.size + 1, 0, none⟩) := hout 9 (outB_spec (by kernel_rfl))
        have e27 : a.tmps.getD 27 undef = .agg #[.int .i64 (ps.1 : Nat), .int .i64 (ps.2 : Nat)] := (hin 1 27 rfl (hp ⟨1, .data⟩ (by simp) rfl)).trans (hF 1 (hp ⟨1, .data⟩ (by simp) rfl))
        obtain ⟨cc, zz, bb, -⟩ := hG.b2
        refine Does.store_boxE (T := 26) (cells := #[.int .i64 (ps.1 : Nat), .int .i64 (ps.2 : Nat)]) rfl e9 e27 bb (by kernel_rfl) zz (by simp [Value.oneCell']) (fun w2 x9 o9 z9 => ?_)
        have q9 := G2.st2 (τ := upd σ 4 undef) hG (by omega) (by decide) (by decide) x9 o9 z9
        exact ⟨q9.1, trivial, q9.2⟩
      · intro listed σ w a hin hout hl hc hp hG hF
        refine Guarded.none rfl ?_
        have e28 : a.tmps.getD 28 undef = .int .i64 (cd : Nat) := (hin 2 28 rfl (hp ⟨2, .data⟩ (by simp) rfl)).trans (hF 2 (hp ⟨2, .data⟩ (by simp) rfl))
        refine Does.val (.int .i64 (cd : Nat)) (w' := w) ?_ ⟨K2.refl _ _ _, rfl, hG.next (Below.refl _ _) (by decide) (by decide) (Or.inr rfl)⟩
        simp only [Array.getD_eq_getD_getElem?] at e28
        go_simp
    · intro listed σ W9 hall hG hF
      rw [show mid _ σ listed _ = (Act.put (Act.put (Act.put (Act.put (Act.put (Act.put _ (some 26) (σ 0)) (some 27) (σ 1)) (some 28) (σ 2)) none (σ 3)) none (σ 4)) (some 10) (σ 5)) from (mid_all hall).trans rfl]
      generalize σ 0 = tt0 at *
      generalize σ 1 = tt1 at *
      generalize σ 2 = tt2 at *
      rw [show σ 5 = .int .i64 (cd : Nat) from hF 5 (by decide)]
      simp only [Act.put, List.setIfInBounds_toArray, List.set_cons_zero, List.set_cons_succ]
      have TK := hG.k
      obtain ⟨c91, -, X9, E9⟩ := hG.b1
      have E9 := E9 (hall 3 (by decide))
      subst E9
      obtain ⟨c92, -, Y9, E9⟩ := hG.b2
      have E9 := E9 (hall 4 (by decide))
      subst E9
      clear hF hG hall
      have hb9 := BB.out.trans (TK.below BB.out.size (by omega) (by omega))
      have HPP := hide (HP.out ps.1 ps.2 cd W9 hb9)
      clear SOF TK hb9
      go_wp2_with fail
      refine bodyPost_tp rfl rfl rfl rfl X9 Y9 rfl ?_
      exact HPP.out
end Go.Proofs.YtneiajkcikcnnaaDoor
