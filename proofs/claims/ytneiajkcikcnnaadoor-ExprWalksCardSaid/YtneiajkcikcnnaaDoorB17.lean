/- Texts of one seat, put together: LexJ LexK ExprR1 ExprR2 ExprE1 ExprE2. -/
import Derived.Test.YtneiajkcikcnnaaDoorB05
import Derived.Test.YtneiajkcikcnnaaDoorB11
import Derived.Test.YtneiajkcikcnnaaDoorB14
set_option linter.unusedVariables false
/- plumblineref10: Name, Number. -/
namespace Go.Proofs.YtneiajkcikcnnaaDoor
open Go.RowKit
open Lx

end Go.Proofs.YtneiajkcikcnnaaDoor
/- plumblineref10: Name. -/
namespace Go.Proofs.YtneiajkcikcnnaaDoor
open Go.RowKit
open Lx

set_option maxHeartbeats 4000000 in
theorem rname_any (s : ByteArray) (w : World) (hs : s.size ≤ 4611686018427387904) : Calls Tryd.prog 45 #[.string s] w (Draws (.bool (rnameB s)) w) := by
  have HB := hide (show rnameB s = (!(decide (s.size = 0) || decide (20 < s.size) || !decide (clsB (byteAt s 0) = 1) || resB s) && allFrom wordC s 0) from rfl)
  generalize rnameB s = r at *
  by_cases h0 : s.size = 0
  · have hr : r = false := by rw [HB.out]; simp [h0]
    subst hr
    clear HB
    go_enter Tryd.func45, Tryd.ntmps45
    go_wp2_with fail
    go_ret
    exact ⟨rfl, 0, rfl⟩
  · have hl1 : 0 < s.size := by omega
    have b0 : ((s.size : Int) == 0) = false := by rw [beq_eq_false_iff_ne]; omega
    by_cases h1 : 20 < s.size
    · have hr : r = false := by rw [HB.out]; simp [h1]
      subst hr
      clear HB
      go_enter Tryd.func45, Tryd.ntmps45
      go_wp2_with fail
      go_ret
      exact ⟨rfl, 0, rfl⟩
    · have b1 : ¬ (20 : Int) < (s.size : Int) := by omega
      have hcl := fun (q : Nat) W => class_any (byteAt s q) W
      have hc0 := fun W => hcl 0 W
      simp only [byteAt_eq s 0 hl1] at hc0
      have HB := hide (show r = (!(!decide (clsB (byteAt s 0) = 1) || resB s) && allFrom wordC s 0) by rw [HB.out, decide_eq_false h0, decide_eq_false h1]; rfl)
      rw [byteAt_eq s 0 hl1] at HB
      by_cases h2 : clsB (s[0]'hl1).toNat = 1
      · have hre := fun W => rreserved_any s W
        have HB := hide (show r = (!resB s && allFrom wordC s 0) by rw [HB.out, decide_eq_true h2]; rfl)
        rw [h2] at hc0
        generalize resB s = rb at *
        cases rb with
        | true =>
          have hr : r = false := by rw [HB.out]; rfl
          subst hr
          clear HB h2
          go_enter Tryd.func45, Tryd.ntmps45
          go_wp2_with fail
          refine (hc0 _).mono ?_
          rintro e w1 ⟨rfl, k1, rfl⟩
          go_wp2_with fail
          refine (hre _).mono ?_
          rintro e w1 ⟨rfl, k2, rfl⟩
          go_wp2_with fail
          go_ret
          exact ⟨rfl, k1 + k2, rfl⟩
        | false =>
          have HR := hide (show r = allFrom wordC s 0 by rw [HB.out]; rfl)
          clear HB h2
          go_enter Tryd.func45, Tryd.ntmps45
          go_wp2_with fail
          refine (hc0 _).mono ?_
          rintro e w1 ⟨rfl, k1, rfl⟩
          go_wp2_with fail
          refine (hre _).mono ?_
          rintro e w1 ⟨rfl, k2, rfl⟩
          go_wp2_with fail
          clear b0 b1 hc0 hre
          go_loopw [3] (fun i wr => ∃ q k : Nat, q ≤ s.size ∧ i = .int .i64 (q : Int) ∧ wr = w.drewN k ∧ Hid (r = allFrom wordC s q)) (fun i _ => s.size - (intOf i).toNat)
          case atStart => exact ⟨0, k1 + k2, Nat.zero_le _, rfl, rfl, HR⟩
          case round =>
            obtain ⟨q, k, hq, rfl, rfl, HE⟩ := hrel
            by_cases hqn : q < s.size
            · have hc := fun W => hcl q W
              have hbe := byteAt_eq s q hqn
              have HS := hide (HE.out.trans (allFrom_step hqn))
              have HW := hide (show wordC (byteAt s q) = (decide (1 ≤ clsB (byteAt s q)) && decide (clsB (byteAt s q) ≤ 3)) from rfl)
              generalize wordC (byteAt s q) = ww at *
              generalize clsB (byteAt s q) = z at *
              rw [hbe] at hc
              by_cases hz1 : 1 ≤ z
              · have g1 : ¬ (z : Int) < 1 := by omega
                by_cases hz3 : z ≤ 3
                · have g3 : ¬ (3 : Int) < (z : Int) := by omega
                  have HF := hide (show r = allFrom wordC s (q + 1) by rw [HS.out, HW.out, decide_eq_true hz1, decide_eq_true hz3]; rfl)
                  clear hbe hz1 hz3
                  go_wp2_with fail
                  refine (hc _).mono ?_
                  rintro e w1 ⟨rfl, k3, rfl⟩
                  go_wp2_with fail
                  refine (hc _).mono ?_
                  rintro e w1 ⟨rfl, k4, rfl⟩
                  go_wp2_with fail
                  go_roundw
                  case rel => exact ⟨q + 1, k + k3 + k4, by omega, by go_num, rfl, HF⟩
                  case measure => simp [intOf]; omega
                · have g3 : (3 : Int) < (z : Int) := by omega
                  have hr : r = false := by rw [HS.out, HW.out, decide_eq_false hz3]; simp
                  subst hr
                  clear hbe hz1 hz3 HS HW HE HR
                  go_wp2_with fail
                  refine (hc _).mono ?_
                  rintro e w1 ⟨rfl, k3, rfl⟩
                  go_wp2_with fail
                  refine (hc _).mono ?_
                  rintro e w1 ⟨rfl, k4, rfl⟩
                  go_wp2_with fail
                  go_ret
                  exact ⟨rfl, k + k3 + k4, rfl⟩
              · have g1 : (z : Int) < 1 := by omega
                have hr : r = false := by rw [HS.out, HW.out, decide_eq_false hz1]; simp
                subst hr
                clear hbe hz1 HS HW HE HR
                go_wp2_with fail
                refine (hc _).mono ?_
                rintro e w1 ⟨rfl, k3, rfl⟩
                go_wp2_with fail
                go_ret
                exact ⟨rfl, k + k3, rfl⟩
            · obtain rfl : q = s.size := by omega
              have hr : r = true := by rw [HE.out, allFrom_end]
              subst hr
              go_wp2_with fail
              go_ret
              exact ⟨rfl, k, rfl⟩
      · have hr : r = false := by rw [HB.out, decide_eq_false h2]; rfl
        subst hr
        have g2 : ¬ (clsB (s[0]'hl1).toNat : Int) = 1 := by omega
        clear HB
        generalize clsB (s[0]'hl1).toNat = z at *
        have b2 : ((z : Int) != 1) = true := by simpa using g2
        clear h2 g2
        go_enter Tryd.func45, Tryd.ntmps45
        go_wp2_with fail
        refine (hc0 _).mono ?_
        rintro e w1 ⟨rfl, k1, rfl⟩
        go_wp2_with fail
        go_ret
        exact ⟨rfl, k1, rfl⟩
end Go.Proofs.YtneiajkcikcnnaaDoor
/- plumblineref11: Next, Is, On, IsName, Place, In, Sign. -/
namespace Go.Proofs.YtneiajkcikcnnaaDoor
open Go.RowKit
open Lx Ex

structure TGood (D : CD) : Prop where
  ends : EndsK D.ts
  nc : D.n ≤ D.c
  cm : D.c ≤ 9223372036854775807
  md : D.m ≤ D.d
  dm : D.d ≤ 9223372036854775807
  few : D.n ≤ 1000000
  small : ∀ t ∈ D.ts, t.text.size ≤ 4611686018427387904
  kinds : ∀ t ∈ D.ts, t.kind < 10
  wf : ∀ t ∈ D.ts, t.kind = 3 → rnumB t.text = true
/-- What a tape is over, in memory. -/
structure Tp (D : CD) (w : World) (i : Nat) : Prop where
  kin : KIn w D.A D.n D.ts
  sin : SIn w D.V D.m D.vars
  good : TGood D
  fits : i + (rd D.ts i).length ≤ 1099511627776
theorem Tp.below {D : CD} {w w' : World} {i : Nat} (h : Tp D w i) (hb : Below w.heap.size w w') : Tp D w' i := ⟨h.kin.below hb, h.sin.below hb, h.good, h.fits⟩
theorem Tp.at_ {D : CD} {w : World} {i i' : Nat} {r : List PT} (h : Tp D w i) (hs : Stands D i r i') : Tp D w i' := ⟨h.kin, h.sin, h.good, hs.fits h.fits⟩
theorem Tp.len {D : CD} {w : World} {i : Nat} (h : Tp D w i) : D.ts.length = D.n := h.kin.1
theorem TGood.hd_small {D : CD} (h : TGood D) (i : Nat) : (hd D.ts i).text.size ≤ 4611686018427387904 := by
  rcases hd_mem D.ts i with q | q
  · exact h.small _ q
  · rw [q]; exact Nat.zero_le _
theorem TGood.hd_wf {D : CD} (h : TGood D) (i : Nat) (h3 : (hd D.ts i).kind = 3) : rnumB (hd D.ts i).text = true := by
  rcases hd_mem D.ts i with q | q
  · exact h.wf _ q h3
  · rw [q] at h3; cases h3
theorem kin_hd2 {w : World} {A : Option Addr} {n : Nat} {ts : List TK} (h : KIn w A n ts) (i : Nat) (hn : 0 < n) : ∃ b o, A = some ⟨b, o, none⟩ ∧ b < w.heap.size ∧ w.cell? ⟨b, o + min i (n - 1) * 4, none⟩ = some (.int .i64 (hd ts i).kind) ∧ w.cell? ⟨b, o + min i (n - 1) * 4 + 1, none⟩ = some (.string (hd ts i).text) ∧ w.cell? ⟨b, o + min i (n - 1) * 4 + 2, none⟩ = some (.int .i64 (hd ts i).line) ∧ w.cell? ⟨b, o + min i (n - 1) * 4 + 3, none⟩ = some (.int .i64 (hd ts i).col) := kin_hd h i hn
theorem bodyPost_rtk {fn : Func} {R : Ending → World → Prop} {a : Act} {w : World} {g p : Nat} {cs : Array Value} (hres : fn.results = #[.cell p 58]) (hp : a.tmps.getD p undef = .pointer (some ⟨g, 0, none⟩)) (h4 : cs.size = 4)
    (hb : Box 58 w g cs) (hd : a.defers = []) (hR : R (.returned (.agg cs)) w) : bodyPost Tryd.prog fn R .ret a w :=
  bodyPost_ret (results_cell_row hres _ _ g _ cs _ _ hp hb Tryd.underlying58 rfl (by rw [h4]; kernel_rfl)) hd hR
set_option maxRecDepth 100000 in
set_option maxHeartbeats 8000000 in
theorem next_any (D : CD) (i : Nat) (w : World) (h : Tp D w i) : Calls Tryd.prog 15 #[.agg #[.slice D.A D.n D.c, .int .i64 (i : Int), .slice D.V D.m D.d, .bool D.known]] w (AtPost (hd D.ts i) w) := by
  have hf := h.fits
  have hfew := h.good.few
  have hcm := h.good.cm
  have hb1 := bl_alloc w (.cells #[.slice D.A D.n D.c, .int .i64 (i : Int), .slice D.V D.m D.d, .bool D.known] 37)
  have hs1 : (w.alloc (.cells #[.slice D.A D.n D.c, .int .i64 (i : Int), .slice D.V D.m D.d, .bool D.known] 37)).heap.size = w.heap.size + 1 := World.size_alloc _ _
  obtain ⟨x0, x1, x2, -⟩ := bstart2 37 58 w #[.slice D.A D.n D.c, .int .i64 (i : Int), .slice D.V D.m D.d, .bool D.known] #[.int .i64 0, .string ⟨#[]⟩, .int .i64 0, .int .i64 0]
  have HB := hide x2
  by_cases hn : D.n = 0
  · have hh : hd D.ts i = endK := hd_nil _ _ (by rw [h.len]; exact hn)
    rw [hh]
    clear hh hf hfew hcm hb1 hs1 h
    rw [hn] at x0 x1 HB ⊢
    go_enter Tryd.func15, Tryd.ntmps15
    go_wp2_with (with_reducible refine wpList_store_box rfl 58 _ _ rfl (w.heap.size + 1) #[.int .i64 5, .string ⟨#[]⟩, .int .i64 0, .int .i64 0] rfl rfl _ x1 (by kernel_rfl) rfl (by simp [Value.oneCell']) ?_; intro w3 k3 ho3)
    refine bodyPost_rtk rfl rfl rfl k3 rfl ?_
    exact ⟨rfl, HB.out.trans (ho3.below HB.out.size (by omega))⟩
  · have hpos : 0 < D.n := by omega
    have hcb := h.below HB.out
    obtain ⟨b, o, hA, hlb, d0, d1, d2, d3⟩ := kin_hd2 hcb.kin i hpos
    rw [hA] at x0 x1 HB d0 d1 d2 d3 ⊢
    generalize hd D.ts i = t at *
    clear hb1 hs1 h hcb
    by_cases hi : i < D.n
    · have hm : min i (D.n - 1) = i := by omega
      rw [hm] at d0 d1 d2 d3
      have g1 : ((i : Int) ≥ (D.n : Int)) = False := by simp; omega
      have g2 : decide ((i : Int) ≥ (D.n : Int)) = false := by simp; omega
      clear hm hA hn
      go_enter Tryd.func15, Tryd.ntmps15
      go_wp2_with (with_reducible refine wpList_store_box rfl 58 _ _ rfl (w.heap.size + 1) #[.int .i64 (t.kind : Int), .string t.text, .int .i64 (t.line : Int), .int .i64 (t.col : Int)] rfl rfl _ x1 (by kernel_rfl) rfl (by simp [Value.oneCell']) ?_; intro w3 k3 ho3)
      refine bodyPost_rtk rfl rfl rfl k3 rfl ?_
      exact ⟨rfl, HB.out.trans (ho3.below HB.out.size (by omega))⟩
    · have hm : min i (D.n - 1) = D.n - 1 := by omega
      rw [hm] at d0 d1 d2 d3
      obtain ⟨q, hq⟩ : ∃ q, D.n = q + 1 := ⟨D.n - 1, by omega⟩
      have hq1 : D.n - 1 = q := by omega
      rw [hq1] at d0 d1 d2 d3
      have g2 : decide ((i : Int) ≥ (D.n : Int)) = true := by simp; omega
      have g3 : (D.n : Int) - 1 = (q : Int) := by omega
      have g4 : IntKind.i64.wrap ((D.n : Int) - 1) = (q : Int) := by rw [g3]; exact IntWalk.i64_in _ (by omega)
      have hql : q < D.n := by omega
      clear hm hA hn hq hq1
      go_enter Tryd.func15, Tryd.ntmps15
      go_wp2_with (with_reducible refine wpList_store_box rfl 58 _ _ rfl (w.heap.size + 1) #[.int .i64 (t.kind : Int), .string t.text, .int .i64 (t.line : Int), .int .i64 (t.col : Int)] rfl rfl _ x1 (by kernel_rfl) rfl (by simp [Value.oneCell']) ?_; intro w3 k3 ho3)
      refine bodyPost_rtk rfl rfl rfl k3 rfl ?_
      exact ⟨rfl, HB.out.trans (ho3.below HB.out.size (by omega))⟩
end Go.Proofs.YtneiajkcikcnnaaDoor
/- plumblineref11: Is, On, IsName, Place, In, Sign. -/
namespace Go.Proofs.YtneiajkcikcnnaaDoor
open Go.RowKit
open Lx Ex

set_option maxRecDepth 100000 in
set_option maxHeartbeats 8000000 in
theorem is11_any (D : CD) (i : Nat) (s : ByteArray) (w : World) (h : Tp D w i) : Calls Tryd.prog 18 #[.agg #[.slice D.A D.n D.c, .int .i64 (i : Int), .slice D.V D.m D.d, .bool D.known], .string s] w (BoolW (isT s (rd D.ts i)) w) := by
  have hb0 := bl_alloc w (.cells #[.slice D.A D.n D.c, .int .i64 (i : Int), .slice D.V D.m D.d, .bool D.known] 37)
  have x0 := Box.new 37 w #[.slice D.A D.n D.c, .int .i64 (i : Int), .slice D.V D.m D.d, .bool D.known]
  have ha := next_any D i _ (h.below hb0)
  have u0 := x0.cell 0 _ rfl
  have u1 := x0.cell 1 _ rfl
  have u2 := x0.cell 2 _ rfl
  have u3 := x0.cell 3 _ rfl
  have HB := hide hb0
  have HI := hide (isT_hd s D.ts i)
  generalize isT s (rd D.ts i) = r at *
  generalize hd D.ts i = t at *
  obtain ⟨k, tx, l, c⟩ := t
  unfold AtPost at ha
  dsimp only at ha HI
  clear h hb0 x0
  by_cases ht : tx = s
  · subst ht
    by_cases h2 : k = 1
    · subst h2
      obtain rfl : r = true := by rw [HI.out]; simp
      clear HI
      go_enter Tryd.func18, Tryd.ntmps18
      go_wp2_with fail
      refine ha.mono ?_
      rintro e w1 ⟨rfl, b1⟩
      have HB1 := hide (HB.out.next b1)
      clear b1
      go_wp2_with fail
      go_ret
      exact ⟨rfl, HB1.out.next (bl_alloc _ _)⟩
    · have g2 : ((k : Int) == 1) = false := by simp; omega
      by_cases h1 : k = 2
      · subst h1
        obtain rfl : r = true := by rw [HI.out]; simp
        clear HI h2
        go_enter Tryd.func18, Tryd.ntmps18
        go_wp2_with fail
        refine ha.mono ?_
        rintro e w1 ⟨rfl, b1⟩
        have HB1 := hide (HB.out.next b1)
        clear b1
        go_wp2_with fail
        go_ret
        exact ⟨rfl, HB1.out.next (bl_alloc _ _)⟩
      · have g1 : ((k : Int) == 2) = false := by simp; omega
        by_cases h4 : k = 4
        · subst h4
          obtain rfl : r = true := by rw [HI.out]; simp
          clear HI h2 h1
          go_enter Tryd.func18, Tryd.ntmps18
          go_wp2_with fail
          refine ha.mono ?_
          rintro e w1 ⟨rfl, b1⟩
          have HB1 := hide (HB.out.next b1)
          clear b1
          go_wp2_with fail
          go_ret
          exact ⟨rfl, HB1.out.next (bl_alloc _ _)⟩
        · have g4 : ((k : Int) == 4) = false := by simp; omega
          obtain rfl : r = false := by rw [HI.out]; simp; omega
          clear HI h2 h1 h4
          go_enter Tryd.func18, Tryd.ntmps18
          go_wp2_with fail
          refine ha.mono ?_
          rintro e w1 ⟨rfl, b1⟩
          have HB1 := hide (HB.out.next b1)
          clear b1
          go_wp2_with fail
          go_ret
          exact ⟨rfl, HB1.out.next (bl_alloc _ _)⟩
  · have ht2 := toList_ne ht
    obtain rfl : r = false := by rw [HI.out, decide_eq_false ht]; rfl
    clear HI ht
    go_enter Tryd.func18, Tryd.ntmps18
    go_wp2_with fail
    refine ha.mono ?_
    rintro e w1 ⟨rfl, b1⟩
    have HB1 := hide (HB.out.next b1)
    clear b1
    go_wp2_with fail
    go_ret
    exact ⟨rfl, HB1.out.next (bl_alloc _ _)⟩
theorem bodyPost_tape {fn : Func} {R : Ending → World → Prop} {ac : Act} {w : World} {g p : Nat} {a b c d : Value} (hres : fn.results = #[.cell p 37]) (hp : ac.tmps.getD p undef = .pointer (some ⟨g, 0, none⟩))
    (hb : Box 37 w g #[a, b, c, d]) (hd : ac.defers = []) (hR : R (.returned (.agg #[a, b, c, d])) w) : bodyPost Tryd.prog fn R .ret ac w :=
  bodyPost_ret (results_cell_row hres _ _ g _ #[a, b, c, d] _ _ hp hb Tryd.underlying37 rfl (by kernel_rfl)) hd hR
def OnPost (D : CD) (i : Nat) (w : World) (e : Ending) (w' : World) : Prop := e = .returned (.agg #[.slice D.A D.n D.c, .int .i64 ((i : Int) + 1), .slice D.V D.m D.d, .bool D.known]) ∧ Below w.heap.size w w'
set_option maxRecDepth 100000 in
set_option maxHeartbeats 8000000 in
theorem on_any (D : CD) (i : Nat) (w : World) (hi : i ≤ 1099511627776) : Calls Tryd.prog 28 #[.agg #[.slice D.A D.n D.c, .int .i64 (i : Int), .slice D.V D.m D.d, .bool D.known]] w (OnPost D i w) := by
  obtain ⟨x0, x1, x2, -⟩ := bstart2 37 37 w #[.slice D.A D.n D.c, .int .i64 (i : Int), .slice D.V D.m D.d, .bool D.known] #[.slice none 0 0, .int .i64 0, .slice none 0 0, .bool false]
  have HB := hide x2
  have u0 := x0.cell 0 _ rfl
  have u1 := x0.cell 1 _ rfl
  have u2 := x0.cell 2 _ rfl
  have u3 := x0.cell 3 _ rfl
  have f1 := x0.fr 1
  have g1 : IntKind.i64.wrap ((i : Int) + 1) = (i : Int) + 1 := IntWalk.i64_in _ (by omega)
  clear x2
  go_enter Tryd.func28, Tryd.ntmps28
  go_wp2_with fail
  have y := bstart2 37 37 w #[.slice D.A D.n D.c, .int .i64 ((i : Int) + 1), .slice D.V D.m D.d, .bool D.known] #[.slice D.A D.n D.c, .int .i64 ((i : Int) + 1), .slice D.V D.m D.d, .bool D.known]
  refine bodyPost_tape rfl rfl y.2.1 rfl ?_
  exact ⟨rfl, y.2.2.1⟩
set_option maxRecDepth 100000 in
set_option maxHeartbeats 4000000 in
theorem isName11_any (D : CD) (i : Nat) (w : World) (h : Tp D w i) : Calls Tryd.prog 29 #[.agg #[.slice D.A D.n D.c, .int .i64 (i : Int), .slice D.V D.m D.d, .bool D.known]] w (BoolW (isName (pt (hd D.ts i))) w) := by
  have hb0 := bl_alloc w (.cells #[.slice D.A D.n D.c, .int .i64 (i : Int), .slice D.V D.m D.d, .bool D.known] 37)
  have x0 := Box.new 37 w #[.slice D.A D.n D.c, .int .i64 (i : Int), .slice D.V D.m D.d, .bool D.known]
  have ha := next_any D i _ (h.below hb0)
  have u0 := x0.cell 0 _ rfl
  have u1 := x0.cell 1 _ rfl
  have u2 := x0.cell 2 _ rfl
  have u3 := x0.cell 3 _ rfl
  have HB := hide hb0
  have hz := h.good.hd_small i
  have HI := hide (show isName (pt (hd D.ts i)) = ((hd D.ts i).kind == 1 && rnameB (hd D.ts i).text) from rfl)
  generalize isName (pt (hd D.ts i)) = r at *
  generalize hd D.ts i = t at *
  obtain ⟨k, tx, l, c⟩ := t
  unfold AtPost at ha
  dsimp only at ha HI hz
  clear h hb0 x0
  by_cases h1 : k = 1
  · subst h1
    have hn := fun W => rname_any tx W hz
    have hr : r = rnameB tx := by rw [HI.out]; simp
    rw [← hr] at hn
    have HN := hide hn
    clear HI hr hn
    go_enter Tryd.func29, Tryd.ntmps29
    go_wp2_with fail
    refine ha.mono ?_
    rintro e w1 ⟨rfl, b1⟩
    have HB1 := hide (HB.out.next b1)
    clear b1
    go_wp2_with fail
    refine (HN.out _).mono ?_
    rintro e w2 ⟨rfl, kk, rfl⟩
    go_wp2_with fail
    go_ret
    exact ⟨rfl, (HB1.out.next (bl_alloc _ _)).next (bl_drewN _ _)⟩
  · have g1 : ((k : Int) == 1) = false := by simp; omega
    obtain rfl : r = false := by rw [HI.out]; simp; omega
    clear HI h1
    go_enter Tryd.func29, Tryd.ntmps29
    go_wp2_with fail
    refine ha.mono ?_
    rintro e w1 ⟨rfl, b1⟩
    have HB1 := hide (HB.out.next b1)
    clear b1
    go_wp2_with fail
    go_ret
    exact ⟨rfl, HB1.out.next (bl_alloc _ _)⟩
set_option maxRecDepth 100000 in
set_option maxHeartbeats 4000000 in
theorem place_any (A : Option Addr) (n c : Nat) (xs : List ByteArray) (s : ByteArray) (w : World) (h : SIn w A n xs) (hn : n ≤ 9223372036854775807) : Calls Tryd.prog 46 #[.slice A n c, .string s] w (fun e w' => e = .returned (.int .i64 (idxS xs s 0)) ∧ w = w') := by
  have HS := hide h
  have H0 := hide (show idxS xs s 0 = idxS (xs.drop 0) s 0 from rfl)
  generalize idxS xs s 0 = r at *
  have hl := h.1
  clear h
  go_enter Tryd.func46, Tryd.ntmps46
  go_wp2_with fail
  go_loop [5] (fun i => ∃ k : Nat, k ≤ n ∧ i = .int .i64 k ∧ Hid (r = idxS (xs.drop k) s k)) (fun i => n - (intOf i).toNat)
  case atStart => exact ⟨0, Nat.zero_le _, rfl, H0⟩
  case round =>
    obtain ⟨k, hk, rfl, HK⟩ := hrel
    by_cases hlt : k < n
    · obtain ⟨b, o, x, rfl, hb, hx, hc⟩ := HS.out.at_ hlt
      have HX := hide (HK.out.trans (idxS_step xs s x k hx))
      clear hx
      by_cases he : x = s
      · subst he
        have hr := HX.out.trans (if_pos rfl)
        subst hr
        clear HK HX H0
        go_wp2_with fail
        go_ret
        exact ⟨rfl, rfl⟩
      · have h1 := toList_ne he
        have HY := hide (HX.out.trans (if_neg he))
        clear HX HK he
        go_wp2_with fail
        go_round
        case rel => exact ⟨k + 1, by omega, by go_num, HY⟩
        case measure => simp [intOf]; omega
    · have hr := HK.out.trans (idxS_end xs s k (by omega))
      subst hr
      clear HK H0
      go_wp2_with fail
      go_ret
      exact ⟨rfl, rfl⟩
set_option maxHeartbeats 2000000 in
theorem in_any (A : Option Addr) (n c : Nat) (xs : List ByteArray) (s : ByteArray) (w : World) (h : SIn w A n xs) (hn : n ≤ 9223372036854775807) : Calls Tryd.prog 30 #[.slice A n c, .string s] w (fun e w' => e = .returned (.bool (memS s xs)) ∧ w = w') := by
  have hi := place_any A n c xs s w h hn
  have h1 := idxS_in xs s 0
  generalize idxS xs s 0 = r at *
  clear h
  cases hc : memS s xs with
  | true =>
    have h2 := h1.1 hc
    have g : decide (r ≥ 0) = true := by simp; omega
    clear h1 hc
    go_enter Tryd.func30, Tryd.ntmps30
    go_wp2_with fail
    refine hi.mono ?_
    rintro e w1 ⟨rfl, rfl⟩
    go_wp2_with fail
    go_ret
    exact ⟨rfl, rfl⟩
  | false =>
    have h2 := h1.2.1 hc
    subst h2
    clear h1 hc
    go_enter Tryd.func30, Tryd.ntmps30
    go_wp2_with fail
    refine hi.mono ?_
    rintro e w1 ⟨rfl, rfl⟩
    go_wp2_with fail
    go_ret
    exact ⟨rfl, rfl⟩
set_option maxHeartbeats 1000000 in
theorem sign_0 (w : World) : Calls Tryd.prog 63 #[.int .i64 0] w (fun e w' => e = .returned (.string (opT 0)) ∧ w = w') := by
  simp only [opT]
  go_enter Tryd.func63, Tryd.ntmps63
  go_wp2_with fail
  go_ret
  exact ⟨rfl, rfl⟩
set_option maxHeartbeats 1000000 in
theorem sign_1 (w : World) : Calls Tryd.prog 63 #[.int .i64 1] w (fun e w' => e = .returned (.string (opT 1)) ∧ w = w') := by
  simp only [opT]
  go_enter Tryd.func63, Tryd.ntmps63
  go_wp2_with fail
  go_ret
  exact ⟨rfl, rfl⟩
set_option maxHeartbeats 1000000 in
theorem sign_2 (w : World) : Calls Tryd.prog 63 #[.int .i64 2] w (fun e w' => e = .returned (.string (opT 2)) ∧ w = w') := by
  simp only [opT]
  go_enter Tryd.func63, Tryd.ntmps63
  go_wp2_with fail
  go_ret
  exact ⟨rfl, rfl⟩
set_option maxHeartbeats 1000000 in
theorem sign_3 (w : World) : Calls Tryd.prog 63 #[.int .i64 3] w (fun e w' => e = .returned (.string (opT 3)) ∧ w = w') := by
  simp only [opT]
  go_enter Tryd.func63, Tryd.ntmps63
  go_wp2_with fail
  go_ret
  exact ⟨rfl, rfl⟩
set_option maxHeartbeats 1000000 in
theorem sign_4 (w : World) : Calls Tryd.prog 63 #[.int .i64 4] w (fun e w' => e = .returned (.string (opT 4)) ∧ w = w') := by
  simp only [opT]
  go_enter Tryd.func63, Tryd.ntmps63
  go_wp2_with fail
  go_ret
  exact ⟨rfl, rfl⟩
set_option maxHeartbeats 1000000 in
theorem sign_5 (w : World) : Calls Tryd.prog 63 #[.int .i64 5] w (fun e w' => e = .returned (.string (opT 5)) ∧ w = w') := by
  simp only [opT]
  go_enter Tryd.func63, Tryd.ntmps63
  go_wp2_with fail
  go_ret
  exact ⟨rfl, rfl⟩
end Go.Proofs.YtneiajkcikcnnaaDoor
/- plumblineref11.End. -/
namespace Go.Proofs.YtneiajkcikcnnaaDoor
open Go.RowKit
open Lx Ex

theorem results_pt {fn : Func} {p t : Tmp} (h : fn.results = #[.cell p 26, .tmp t]) (tmps : Array Value) (w : World) (g : Nat) (x y : Value)
    (hq : tmps.getD p undef = .pointer (some ⟨g, 0, none⟩)) (hg : Box 26 w g #[x, y]) : (results fn tmps).run Tryd.prog w = .ok (.tuple #[.agg #[x, y], tmps.getD t undef]) w := by
  have hq' : tmps[p]?.getD undef = .pointer (some ⟨g, 0, none⟩) := by simpa using hq
  simp [results, h, hq', asAddr, run_loadVar_row w g 26 26 #[x, y] (0, 0) _ hg Tryd.underlying26 rfl (by kernel_rfl)]
theorem bodyPost_pt {fn : Func} {R : Ending → World → Prop} {a : Act} {w : World} {g p t : Nat} {x y v : Value} (hres : fn.results = #[.cell p 26, .tmp t]) (hp : a.tmps.getD p undef = .pointer (some ⟨g, 0, none⟩))
    (hv : a.tmps.getD t undef = v) (hb : Box 26 w g #[x, y]) (hd : a.defers = []) (hR : R (.returned (.tuple #[.agg #[x, y], v])) w) : bodyPost Tryd.prog fn R .ret a w :=
  bodyPost_ret (by rw [results_pt hres _ _ g x y hp hb, hv]) hd hR
theorem field_rkind (a b c d : Value) (w : World) : (Instr.field 58 (.agg #[a, b, c, d]) 0).run Tryd.prog w = .ok a w := by kernel_rfl
theorem field_rat (a b c d : Value) (w : World) : (Instr.field 58 (.agg #[a, b, c, d]) 2).run Tryd.prog w = .ok (.agg #[c, d]) w := by kernel_rfl
/-- What is wrong behind what was taken: nothing but that something is left. -/
def endC (k : Nat) (e : Nat) : Nat := if e = 0 then (if k = 5 then 0 else 101) else e
def endL (k e l : Nat) : Nat := if endC k e = 0 then 0 else l
def EndPost (t : TK) (e0 : Nat) (w : World) (e : Ending) (w' : World) : Prop :=
  e = .returned (.tuple #[.agg #[.int .i64 (endL t.kind e0 t.line : Nat), .int .i64 (endL t.kind e0 t.col : Nat)], .int .i64 (endC t.kind e0 : Nat)]) ∧ Below w.heap.size w w'
set_option maxRecDepth 100000 in
set_option maxHeartbeats 8000000 in
theorem end_any (D : CD) (i e0 : Nat) (w : World) (h : Tp D w i) : Calls Tryd.prog 14 #[.agg #[.slice D.A D.n D.c, .int .i64 (i : Int), .slice D.V D.m D.d, .bool D.known], .int .i64 (e0 : Int)] w (EndPost (hd D.ts i) e0 w) := by
  obtain ⟨x0, x1, x2, x3⟩ := bstart2 37 26 w #[.slice D.A D.n D.c, .int .i64 (i : Int), .slice D.V D.m D.d, .bool D.known] #[.int .i64 0, .int .i64 0]
  have zW := Nat.lt_of_lt_of_eq (show w.heap.size + 1 < w.heap.size + 2 from by omega) x3.symm
  have HB := hide x2
  have X0 := hide x0
  have X1 := hide x1
  have HNX := hide (fun W (hW : Below w.heap.size w W) => next_any D i W (h.below hW))
  unfold AtPost at HNX
  have HP := hide (show ∀ (l c k : Nat) w', endL (hd D.ts i).kind e0 (hd D.ts i).line = l → endL (hd D.ts i).kind e0 (hd D.ts i).col = c → endC (hd D.ts i).kind e0 = k → Below w.heap.size w w' → EndPost (hd D.ts i) e0 w (.returned (.tuple #[.agg #[.int .i64 (l : Nat), .int .i64 (c : Nat)], .int .i64 (k : Nat)])) w' from fun l c k w' h1 h2 h3 h4 => by
    subst h1 h2 h3; exact ⟨rfl, h4⟩)
  have u0 := x0.cell 0 _ rfl
  have u1 := x0.cell 1 _ rfl
  have u2 := x0.cell 2 _ rfl
  have u3 := x0.cell 3 _ rfl
  generalize hd D.ts i = t at *
  obtain ⟨k, tx, l, c⟩ := t
  dsimp only at HP HNX ⊢
  have HFK := fun a b c d W => field_rkind a b c d W
  have HFA := fun a b c d W => field_rat a b c d W
  clear h x0 x1 x2 x3
  by_cases he : e0 = 0
  · subst he
    by_cases hk : k = 5
    · subst hk
      have HP := hide (HP.out 0 0 0 · rfl rfl rfl)
      go_enter Tryd.func14, Tryd.ntmps14
      go_wp2_with fail
      refine (HNX.out _ HB.out).mono ?_
      rintro e w1 ⟨rfl, bq⟩
      have HB1 := hide (HB.out.next bq)
      have x1 := X1.out.next bq
      clear bq u0 u1 u2 u3
      go_wp2_with (with_reducible refine wpList_store_box rfl 26 _ _ rfl (w.heap.size + 1) #[.int .i64 0, .int .i64 0] rfl rfl _ x1 (by kernel_rfl) rfl (by simp [Value.oneCell']) ?_; intro w9 k9 ho9)
      refine bodyPost_pt rfl rfl rfl k9 rfl ?_
      exact HP.out _ (HB1.out.trans (ho9.below HB1.out.size (by omega)))
    · have gk : ((k : Int) != 5) = true := by simp; omega
      have ec : endC k 0 = 101 := by unfold endC; rw [if_pos rfl, if_neg hk]
      have HP := hide (HP.out l c 101 · (by unfold endL; rw [ec]; rfl) (by unfold endL; rw [ec]; rfl) ec)
      clear hk ec
      go_enter Tryd.func14, Tryd.ntmps14
      go_wp2_with fail
      refine (HNX.out _ HB.out).mono ?_
      rintro e w1 ⟨rfl, bq⟩
      have HB1 := hide (HB.out.next bq)
      have X0' := hide (X0.out.next bq)
      have X1' := hide (X1.out.next bq)
      clear bq u0 u1 u2 u3
      have u0 := X0'.out.cell 0 _ rfl
      have u1 := X0'.out.cell 1 _ rfl
      have u2 := X0'.out.cell 2 _ rfl
      have u3 := X0'.out.cell 3 _ rfl
      go_wp2_with fail
      refine (HNX.out _ HB1.out).mono ?_
      rintro e w2 ⟨rfl, bq⟩
      have HB2 := hide (HB1.out.next bq)
      have x1 := X1'.out.next bq
      clear bq u0 u1 u2 u3
      go_wp2_with (with_reducible refine wpList_store_box rfl 26 _ _ rfl (w.heap.size + 1) #[.int .i64 (l : Int), .int .i64 (c : Int)] rfl rfl _ x1 (by kernel_rfl) rfl (by simp [Value.oneCell']) ?_; intro w9 k9 ho9)
      refine bodyPost_pt rfl rfl rfl k9 rfl ?_
      exact HP.out _ (HB2.out.trans (ho9.below HB2.out.size (by omega)))
  · have g1 := err_ne he
    have g2 := err_ne2 he
    have ec : endC k e0 = e0 := by unfold endC; rw [if_neg he]
    have HP := hide (HP.out l c e0 · (by unfold endL; rw [ec, if_neg he]) (by unfold endL; rw [ec, if_neg he]) ec)
    clear he ec
    go_enter Tryd.func14, Tryd.ntmps14
    go_wp2_with fail
    refine (HNX.out _ HB.out).mono ?_
    rintro e w1 ⟨rfl, bq⟩
    have HB1 := hide (HB.out.next bq)
    have x1 := X1.out.next bq
    clear bq u0 u1 u2 u3
    go_wp2_with (with_reducible refine wpList_store_box rfl 26 _ _ rfl (w.heap.size + 1) #[.int .i64 (l : Int), .int .i64 (c : Int)] rfl rfl _ x1 (by kernel_rfl) rfl (by simp [Value.oneCell']) ?_; intro w9 k9 ho9)
    refine bodyPost_pt rfl rfl rfl k9 rfl ?_
    exact HP.out _ (HB1.out.trans (ho9.below HB1.out.size (by omega)))
end Go.Proofs.YtneiajkcikcnnaaDoor
/- slices.Clone of texts. -/
namespace Go.Proofs.YtneiajkcikcnnaaDoor
open Go.RowKit
open Lx Ex

theorem txt_info : (Tryd.prog.info? 9).map (fun i => (i.zero, i.size, i.bytes)) = some (some (.string ⟨#[]⟩), 1, 16) := by kernel_rfl
theorem txt_zero_nls : NLs (Value.string ⟨#[]⟩).cells.toList := by
  show NLs [.string ⟨#[]⟩]
  intro u hu z e
  simp at hu; subst hu; cases e
def txtV (xs : List ByteArray) : List Value := xs.map (.string ·)
theorem txtV_nls (xs : List ByteArray) : NLs (txtV xs) := by
  intro u hu z e
  obtain ⟨s, _, rfl⟩ := List.mem_map.1 hu
  cases e
theorem txtV_one (xs : List ByteArray) : ∀ u ∈ txtV xs, u.oneCell' = true := by
  intro u hu
  obtain ⟨s, _, rfl⟩ := List.mem_map.1 hu
  rfl
theorem txtV_get {xs : List ByteArray} {j : Nat} {s : ByteArray} (h : xs[j]? = some s) : (txtV xs)[j]? = some (.string s) := by
  unfold txtV; rw [List.getElem?_map, h]; rfl
def ClonePost (n : Nat) (xs : List ByteArray) (w : World) (e : Ending) (w' : World) : Prop :=
  ∃ B d, e = .returned (.slice B n d) ∧ SIn w' B n xs ∧ n ≤ d ∧ d ≤ 9223372036854775807 ∧ Below w.heap.size w w' ∧ (0 < n → ∀ a, B = some a → w.heap.size ≤ a.block)
set_option maxRecDepth 100000 in
set_option maxHeartbeats 4000000 in
theorem clone_any (A : Option Addr) (n c : Nat) (xs : List ByteArray) (w : World) (h : SIn w A n xs) (hA : A = none → n = 0 ∧ c = 0) (hn : n ≤ 1000000) : Calls Tryd.prog 33 #[.slice A n c] w (ClonePost n xs w) := by
  have hl := h.1
  cases A with
  | none =>
    obtain ⟨rfl, rfl⟩ := hA rfl
    have HP := hide (show ClonePost 0 xs w (.returned (.slice none 0 0)) w from ⟨none, 0, rfl, ⟨hl, fun hh => absurd hh (by omega)⟩, by omega, by omega, Below.refl _ _, fun h0 => absurd h0 (by omega)⟩)
    clear h hA hl
    have hcmp := fun W => Lib.run_eql_slice_nil (P := Tryd.prog) W 22 9 none 0 0 0 0 Tryd.underlying22
    go_enter Tryd.func33, Tryd.ntmps33
    go_wp2_with fail
    go_ret
    exact HP.out
  | some ad =>
    obtain ⟨i0, hi0, hz0, hz1, hz2⟩ := info_parts txt_info
    have hb := bl_alloc w (.cells #[] 9)
    have hrow := LRow.lit (T := 9) (sz := 1) (w := w) (base := w.heap.size) #[] 0 (Nat.le_refl _) (by decide) rfl (fun u hu => by cases hu)
    have HROW := hide hrow
    have hnews : ∀ j u, (txtV xs)[j]? = some u → (w.alloc (.cells #[] 9)).cell? (ad.add j) = some u := by
      intro j u hu
      have hj : j < xs.length := by
        rcases Nat.lt_or_ge j xs.length with q | q
        · exact q
        · rw [List.getElem?_eq_none (by simpa [txtV] using q)] at hu; cases hu
      obtain ⟨b, o, e, hlt, hc⟩ := (h.below hb).2 (by omega)
      injection e with e; subst e
      rw [addr_add]
      have h2 := txtV_get (List.getElem?_eq_getElem hj)
      rw [hu] at h2; injection h2 with h2; subst h2
      exact hc j _ (List.getElem?_eq_getElem hj)
    have HNW := hide hnews
    have HP := hide (show ∀ v' w', LRow 9 1 w' w.heap.size v' (0 + n) ([] ++ txtV xs) → Below w.heap.size w w' → ClonePost n xs w (.returned v') w' from by
      intro v' w' hv hw
      rw [Nat.zero_add, List.nil_append] at hv
      obtain ⟨B, d, rfl, h1, h2, -⟩ := hv.len
      refine ⟨B, d, rfl, ⟨hl, fun hn0 => ?_⟩, h1, h2, hw, fun hn0 a ha => ?_⟩
      · obtain ⟨g, rfl, hb, hlt, hc⟩ := hv.cell hn0
        exact ⟨g, 0, rfl, hlt, fun j s hs => by rw [Nat.zero_add]; exact (hc j _ (txtV_get hs)).1⟩
      · obtain ⟨g, rfl, hb, hlt, hc⟩ := hv.cell hn0
        injection ha with ha; subst ha; exact hb)
    have HB := hide hb
    have hlen : (txtV xs).length = n * 1 := by simp [txtV, hl]
    have HLN := hide hlen
    clear h hA hrow hnews hlen hl
    have hcmp := fun W => Lib.run_eql_slice_nil (P := Tryd.prog) W 22 9 (some ad) n c 0 0 Tryd.underlying22
    go_enter Tryd.func33, Tryd.ntmps33
    go_wp2_with (at_builtin; refine wpList_append_lrow rfl _ _ 22 rfl w.heap.size 9 i0 _ 1 16 Tryd.underlying22 hi0 hz0 hz1 hz2 rfl (by decide) txt_zero_nls _ 0 [] rfl HROW.out ad n c (txtV xs) rfl HLN.out HNW.out (txtV_one _) (txtV_nls _) (by unfold maxLen; omega) (by omega) (by rw [World.size_alloc]; omega) ?_; intro v' w' h1 h2; have HQ := hide (HP.out v' w' h1 (HB.out.trans (LRow.back HROW.out h2 (Nat.le_refl _) HB.out.size))))
    go_ret
    exact HQ.out
end Go.Proofs.YtneiajkcikcnnaaDoor
