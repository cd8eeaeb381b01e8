/- Texts of one seat, put together: TightMath RelTight TCoef. -/
import Derived.Test.YtdeakieenppmiaaGreatDoorC26
import Derived.Test.YtdeakieenppmiaaGreatDoorC30
import Derived.Test.YtdeakieenppmiaaGreatDoorC22
set_option linter.unusedVariables false
set_option linter.unusedSimpArgs false
set_option maxRecDepth 100000
set_option maxHeartbeats 16000000
/- What Tight answers, on plain numbers. -/
namespace Go.Proofs.YtdeakieenppmiaaGreatDoor
open Go.RowKit
open Tm

theorem val_nil (ps : List (Int × Int)) : val [] ps = 0 := by
 have h := val_sumv [] ps
 simpa [sumv] using h
/-- The first coefficient. -/
def lead : List (Int × Int) → Int
 | [] => 0
 | p :: _ => p.2
theorem lead_of {L : List (Int × Int)} {v c : Int} (h : L[0]? = some (v, c)) : lead L = c := by
 cases L with
 | nil => simp at h
 | cons p ps => simp at h; simp [lead, h]
/-- What is known: 1 always, -1 never, 0 neither. -/
def tgKnown (L : List (Int × Int)) (K : Int) (e : Bool) : Int :=
 if norm L = [] then (if holdsZ e K = true then 1 else -1) else if e = true ∧ K.fmod (content L) ≠ 0 then -1 else 0
def tgFlip (L : List (Int × Int)) (e : Bool) : Bool := e && decide (lead (quot (content L) (norm L)) < 0)
def tgL (L : List (Int × Int)) (K : Int) (e : Bool) : List (Int × Int) :=
 if tgKnown L K e ≠ 0 then [] else if tgFlip L e = true then (quot (content L) (norm L)).map fun p => (p.1, -1 * p.2) else quot (content L) (norm L)
def tgK (L : List (Int × Int)) (K : Int) (e : Bool) : Int :=
 if tgKnown L K e ≠ 0 then 0 else if tgFlip L e = true then -(K.fdiv (content L)) else K.fdiv (content L)
def tgE (L : List (Int × Int)) (K : Int) (e : Bool) : Bool := if tgKnown L K e ≠ 0 then false else e
theorem tgKnown_nil {L : List (Int × Int)} {K : Int} {e : Bool} (h : norm L = []) : tgKnown L K e = if holdsZ e K = true then 1 else -1 := by unfold tgKnown; rw [if_pos h]
theorem tgKnown_never {L : List (Int × Int)} {K : Int} (h : norm L ≠ []) (hr : K.fmod (content L) ≠ 0) : tgKnown L K true = -1 := by unfold tgKnown; rw [if_neg h, if_pos ⟨rfl, hr⟩]
theorem tgKnown_least {L : List (Int × Int)} {K : Int} (h : norm L ≠ []) : tgKnown L K false = 0 := by unfold tgKnown; rw [if_neg h, if_neg (fun hh => by cases hh.1)]
theorem tgKnown_zero {L : List (Int × Int)} {K : Int} (h : norm L ≠ []) (hr : K.fmod (content L) = 0) : tgKnown L K true = 0 := by unfold tgKnown; rw [if_neg h, if_neg (fun hh => hh.2 hr)]
theorem tg_known {L : List (Int × Int)} {K : Int} {e : Bool} (h : tgKnown L K e ≠ 0) : tgL L K e = [] ∧ tgK L K e = 0 ∧ tgE L K e = false := by
 unfold tgL tgK tgE
 exact ⟨if_pos h, if_pos h, if_pos h⟩
theorem tg_plain {L : List (Int × Int)} {K : Int} {e : Bool} (h : tgKnown L K e = 0) (hf : tgFlip L e = false) : tgL L K e = quot (content L) (norm L) ∧ tgK L K e = K.fdiv (content L) ∧ tgE L K e = e := by
 unfold tgL tgK tgE
 rw [if_neg (by simp [h]), if_neg (by simp [hf]), if_neg (by simp [h]), if_neg (by simp [hf]), if_neg (by simp [h])]
 exact ⟨rfl, rfl, rfl⟩
theorem tg_flip {L : List (Int × Int)} {K : Int} {e : Bool} (h : tgKnown L K e = 0) (hf : tgFlip L e = true) : tgL L K e = (quot (content L) (norm L)).map (fun p => (p.1, -1 * p.2)) ∧ tgK L K e = -(K.fdiv (content L)) ∧ tgE L K e = e := by
 unfold tgL tgK tgE
 rw [if_neg (by simp [h]), if_pos hf, if_neg (by simp [h]), if_pos hf, if_neg (by simp [h])]
 exact ⟨rfl, rfl, rfl⟩
theorem quot_len (L : List (Int × Int)) : (quot (content L) (norm L)).length = (norm L).length := by unfold quot; rw [List.length_map]
theorem quot_normed (L : List (Int × Int)) : norm (quot (content L) (norm L)) = quot (content L) (norm L) := by
 by_cases h : content L = 0
 · rw [content_zero.1 h]; rfl
 · exact quot_plain L h
theorem flip_normed (L : List (Int × Int)) : norm ((quot (content L) (norm L)).map fun p => (p.1, -1 * p.2)) = (quot (content L) (norm L)).map fun p => (p.1, -1 * p.2) := by
 rw [norm_scale (by decide), quot_normed]
theorem shrK_at {L : List (Int × Int)} {K : Int} (h : norm L ≠ []) : shrK L K = K.fdiv (content L) := by
 unfold shrK
 rw [if_neg (fun hh => h (content_zero.1 hh))]
theorem results_rs {fn : Func} {p t : Tmp} (h : fn.results = #[.cell p 30, .tmp t]) (tmps : Array Value) (w : World) (g : Nat) (x y z u : Value)
  (hp : tmps.getD p undef = .pointer (some ⟨g, 0, none⟩)) (hg : Box 30 w g #[x, y, z, u]) :
  (results fn tmps).run Tryz.prog w = .ok (.tuple #[.agg #[x, y, z, u], tmps.getD t undef]) w := by
 have hp' : tmps[p]?.getD undef = .pointer (some ⟨g, 0, none⟩) := by simpa using hp
 simp [results, h, hp', asAddr, run_loadVar_row w g 30 30 #[x, y, z, u] (0, 0) _ hg Tryz.underlying30 rfl (by kernel_rfl)]
theorem bodyPost_rs {fn : Func} {R : Ending → World → Prop} {a : Act} {w : World} {g p t : Nat} {x y z u v : Value} (hres : fn.results = #[.cell p 30, .tmp t]) (hp : a.tmps.getD p undef = .pointer (some ⟨g, 0, none⟩))
  (hv : a.tmps.getD t undef = v) (hb : Box 30 w g #[x, y, z, u]) (hd : a.defers = []) (hR : R (.returned (.tuple #[.agg #[x, y, z, u], v])) w) : bodyPost Tryz.prog fn R .ret a w :=
 bodyPost_ret (by rw [results_rs hres _ _ g x y z u hp hb, hv]) hd hR
def TightPost (L : List (Int × Int)) (K : Int) (e : Bool) (k : Nat) (w : World) (en : Ending) (w' : World) : Prop :=
 ∃ v, en = .returned (.tuple #[v, .int .i64 (tgKnown L K e)]) ∧ RRes w' v (tgL L K e) (tgK L K e) (tgE L K e) k ∧ Below w.heap.size w w'
theorem RRes.zero (w : World) (k : Nat) : RRes w (.agg #[.slice none 0 0, .bool false, .slice none 0 0, .bool false]) [] 0 false k :=
 ⟨none, 0, 0, false, none, 0, 0, rfl, none, 0, 0, false, none, 0, 0, rfl, PRes.nil _ _ _, Nat.le_refl _, by omega, ZRes.zero w k⟩
end Go.Proofs.YtdeakieenppmiaaGreatDoor
/- rel.Tight. -/
namespace Go.Proofs.YtdeakieenppmiaaGreatDoor
open Go.RowKit
open Tm

theorem relTight_any (v : Value) (L : List (Int × Int)) (K : Int) (e : Bool) (k : Nat) (w0 : World) (hv : RIn w0 v L K e k) (hl : L.length ≤ 100000) (hk : k ≤ 100000) : Calls Tryz.prog 10 #[v] w0 (TightPost L K e (k + L.length + L.length) w0) := by
 have hv0 := hv
 obtain ⟨A, n, c, s, B, m, d, rfl, ht⟩ := hv
 obtain ⟨z0, z1, z2, -⟩ := bstart2 30 30 w0 #[.slice A n c, .bool s, .slice B m d, .bool e] #[.slice none 0 0, .bool false, .slice none 0 0, .bool false]
 have hsh := tshrink_any _ L K k _ (ht.below z2) (by omega) (by omega)
 have HTK := hide ht.opn.2.2.2
 have x0 := z0.r0
 have x1 := z0.r1
 have x2 := z0.r2
 go_enter Tryz.func10, Tryz.ntmps10
 go_wp2_with fail
 refine hsh.mono ?_
 rintro en w1 ⟨v1, u1, rfl, r1, g1, b1⟩
 obtain ⟨As, ns, cs, ss, Bs, ms, ds, rfl⟩ := r1.form
 obtain ⟨sg, Ag, ng, cg, rfl⟩ := g1.form
 have y1 := bl_alloc w1 (.cells #[.slice As ns cs, .bool ss, .slice Bs ms ds] 28)
 have y2 := bl_alloc (w1.alloc (.cells #[.slice As ns cs, .bool ss, .slice Bs ms ds] 28)) (.cells #[.bool sg, .slice Ag ng cg] 26)
 have t0 := (Box.new 28 w1 #[.slice As ns cs, .bool ss, .slice Bs ms ds]).next y2
 have k0 := Blk.new (w1.alloc (.cells #[.slice As ns cs, .bool ss, .slice Bs ms ds] 28)) #[.bool sg, .slice Ag ng cg]
 rw [size_alloc] at k0
 have T2 := hide (((z2.next b1).next y1).next y2)
 have XR := hide (((z0.next b1).next y1).next y2)
 have XO := hide (((z1.next b1).next y1).next y2)
 have XT := hide t0
 have XG := hide k0
 have R1 := hide ((r1.below y1).below y2)
 have G1 := hide ((g1.below y1).below y2)
 have hs1 := hide (show w0.heap.size + 1 + 1 ≤ w1.heap.size by have := b1.size; simp only [size_alloc] at this; omega)
 have HNS := hide (show (norm L).length = ns by rw [← quot_len]; exact (R1.out.opn.1).len)
 have HV0 := hide hv0
 clear x0 x1 x2 z0 z1 z2 hsh ht r1 g1 b1 y1 y2 t0 k0 hv0
 generalize hW : ((w1.alloc (.cells #[.slice As ns cs, .bool ss, .slice Bs ms ds] 28)).alloc (.cells #[.bool sg, .slice Ag ng cg] 26)) = W at *
 by_cases hns : ns = 0
 · subst hns
   have HNN := hide (List.length_eq_zero_iff.1 HNS.out)
   have hho := relHolds_any _ L K e k 0 none 0 0 [] W (HV0.out.below T2.out) ⟨rfl, fun h => absurd h (by omega), fun p hp => by cases hp⟩ (by omega) (by omega) (by omega) (by omega)
   rw [show K + val (nums []) L = K by rw [show nums [] = [] from rfl, val_nil]; omega] at hho
   have HKN := hide (tgKnown_nil (K := K) (e := e) HNN.out)
   have x0 := XR.out.r0
   have x1 := XR.out.r1
   have x2 := XR.out.r2
   have x3 := XR.out.r3
   have y0 := XT.out.c0
   subst hW
   go_wp2_with fail
   refine hho.mono ?_
   rintro en w2 ⟨rfl, b2⟩
   have HB2 := hide b2
   have xo := XO.out.next b2
   have y0' := (XT.out.next b2).c0
   clear x0 x1 x2 x3 y0 hho b2
   cases hb : holdsZ e K with
   | true =>
    have hkn : tgKnown L K e = 1 := by rw [HKN.out, if_pos hb]
    clear hb
    go_wp2_with (with_reducible refine wpList_store_r rfl _ _ rfl (w0.heap.size + 1) _ _ _ _ _ _ _ _ rfl rfl _ _ _ _ xo ?_; intro w3 k3 ho3)
    refine bodyPost_rs rfl rfl rfl k3 rfl ?_
    obtain ⟨e1, e2, e3⟩ := tg_known (L := L) (K := K) (e := e) (by rw [hkn]; decide)
    exact ⟨_, by rw [hkn] <;> rfl, by rw [e1, e2, e3]; exact RRes.zero _ _, zback (T2.out.next HB2.out) (by omega) ho3⟩
   | false =>
    have hkn : tgKnown L K e = -1 := by rw [HKN.out, if_neg (by simp [hb])]
    clear hb
    go_wp2_with (with_reducible refine wpList_store_r rfl _ _ rfl (w0.heap.size + 1) _ _ _ _ _ _ _ _ rfl rfl _ _ _ _ xo ?_; intro w3 k3 ho3)
    refine bodyPost_rs rfl rfl rfl k3 rfl ?_
    obtain ⟨e1, e2, e3⟩ := tg_known (L := L) (K := K) (e := e) (by rw [hkn]; decide)
    exact ⟨_, by rw [hkn] <;> rfl, by rw [e1, e2, e3]; exact RRes.zero _ _, zback (T2.out.next HB2.out) (by omega) ho3⟩
 · have HNN := hide (show norm L ≠ [] from fun h => hns (by rw [← HNS.out, h]; rfl))
   have hnz : ¬ (ns : Int) = 0 := by omega
   have HC0 := hide (show content L ≠ 0 from fun h => HNN.out (content_zero.1 h))
   have x0 := XR.out.r0
   have x1 := XR.out.r1
   have x2 := XR.out.r2
   have x3 := XR.out.r3
   have y0 := XT.out.c0
   have y1 := XT.out.c1
   have y2 := XT.out.c2
   have g0 := Blk.c0 XG.out
   have g1 := Blk.c1 XG.out
   have xo := XO.out
   cases e with
   | false =>
    have hkn := tgKnown_least (L := L) (K := K) HNN.out
    subst hW
    go_wp2_with (with_reducible refine wpList_store_r rfl _ _ rfl (w0.heap.size + 1) _ _ _ _ _ _ _ _ rfl rfl _ _ _ _ xo ?_; intro w3 k3 ho3)
    refine bodyPost_rs rfl rfl rfl k3 rfl ?_
    obtain ⟨e1, e2, e3⟩ := tg_plain (L := L) (K := K) (e := false) hkn rfl
    refine ⟨_, by rw [hkn] <;> rfl, ?_, zback T2.out (by omega) ho3⟩
    rw [e1, e2, e3, ← shrK_at HNN.out]
    exact ⟨_, _, _, _, _, _, _, rfl, (R1.out.mono (by omega)).onlyR XO.out ho3⟩
   | true =>
    have hdv := zdiv_yes _ _ K (content L) k (k + L.length) W (HTK.out.below T2.out) G1.out.in_ HC0.out (by omega) (by omega)
    subst hW
    go_wp2_with fail
    refine hdv.mono ?_
    rintro en w2 ⟨q2, v2, rfl, zq, zr, b2⟩
    obtain ⟨s3, A3, n3, c3, rfl⟩ := zq.form
    obtain ⟨s4, A4, n4, c4, rfl⟩ := zr.form
    have y3 := bl_alloc w2 (.cells #[.bool s3, .slice A3 n3 c3] 26)
    have y4 := bl_alloc (w2.alloc (.cells #[.bool s3, .slice A3 n3 c3] 26)) (.cells #[.bool s4, .slice A4 n4 c4] 26)
    have hB2 := (b2.next y3).next y4
    have k4 := Blk.new (w2.alloc (.cells #[.bool s3, .slice A3 n3 c3] 26)) #[.bool s4, .slice A4 n4 c4]
    have zr4 := (zr.below y3).below y4
    have hsg := sign_z _ (K.fmod (content L)) _ _ zr4.in_ (by omega)
    unfold SignPost at hsg
    have HB2 := hide hB2
    have c40 := Blk.c0 k4
    have c41 := Blk.c1 k4
    have hs2 := hide (show w1.heap.size + 1 + 1 ≤ w2.heap.size by have := b2.size; simp only [size_alloc] at this; omega)
    clear x0 x1 x2 x3 y0 y1 y2 g0 g1 xo hdv zq zr b2 y3 y4 hB2 k4 zr4
    go_wp2_with fail
    refine hsg.mono ?_
    rintro en w3 ⟨rfl, b3⟩
    have T3 := hide ((T2.out.next HB2.out).next b3)
    have XO3 := hide ((XO.out.next HB2.out).next b3)
    have XT3 := hide ((XT.out.next HB2.out).next b3)
    have R3 := hide ((R1.out.below HB2.out).below b3)
    have HB3 := hide b3
    clear hsg b3 c40 c41
    by_cases hr : K.fmod (content L) = 0
    · have hkn := tgKnown_zero HNN.out hr
      have hsz : (K.fmod (content L)).sign = 0 := by rw [hr]; rfl
      rw [hsz]
      clear hsz hr
      obtain ⟨bb, o, p, rfl, hlt, hLp, c0, c1, c2, hz⟩ := (R3.out.opn.1.in_).at_ (i := 0) (by omega)
      simp only [Nat.zero_mul, Nat.add_zero] at c0 c1 c2
      have HLD := hide (lead_of hLp)
      have hsg := sign_z p.num p.Z _ w3 hz (by omega)
      unfold SignPost at hsg
      have y0 := XT3.out.c0
      have y1 := XT3.out.c1
      have y2 := XT3.out.c2
      have hlp : L.length ≤ 100000 := hl
      clear hLp hz
      go_wp2_with fail
      refine hsg.mono ?_
      rintro en w4 ⟨rfl, b4⟩
      have T4 := hide (T3.out.next b4)
      have XO4 := hide (XO3.out.next b4)
      have XT4 := hide (XT3.out.next b4)
      have R4 := hide (R3.out.below b4)
      clear hsg b4 y0 y1 y2 c0 c1 c2
      have y0 := XT4.out.c0
      have y1 := XT4.out.c1
      have y2 := XT4.out.c2
      by_cases hn : p.Z < 0
      · have hf : tgFlip L true = true := by unfold tgFlip; rw [HLD.out]; simp [hn]
        have hsn : p.Z.sign < 0 := Int.sign_neg_iff.2 hn
        have HNL := hide (norm_length L)
        have hng := tneg_any _ (quot (content L) (norm L)) (shrK L K) (k + L.length) w4 R4.out.in_ (by rw [quot_len]; have := HNL.out; omega) (by omega)
        have xt4 := XT4.out
        go_wp2_with fail
        refine hng.mono ?_
        rintro en w5 ⟨v5, rfl, r5, b5⟩
        obtain ⟨A5, n5, c5, s5, B5, m5, d5, rfl⟩ := r5.form
        have xt5 := XT4.out.next b5
        have XO5 := hide (XO4.out.next b5)
        have R5 := hide r5
        have HB5 := hide b5
        have hne : w0.heap.size + 1 ≠ w1.heap.size := by have := hs1.out; omega
        clear hng y0 y1 y2 xt4 r5 b5
        go_wp2_with (first | (with_reducible refine wpList_store_t rfl _ _ rfl w1.heap.size _ _ _ _ _ _ _ rfl rfl _ _ _ xt5 ?_; intro w6 k6 ho6; have y0 := k6.c0; have y1 := k6.c1; have y2 := k6.c2; have xo6 := Box.other XO5.out ho6 hne; clear xt5) | (with_reducible refine wpList_store_r rfl _ _ rfl (w0.heap.size + 1) _ _ _ _ _ _ _ _ rfl rfl _ _ _ _ xo6 ?_; intro w7 k7 ho7))
        refine bodyPost_rs rfl rfl rfl k7 rfl ?_
        obtain ⟨e1, e2, e3⟩ := tg_flip (L := L) (K := K) (e := true) hkn hf
        refine ⟨_, by rw [hkn] <;> rfl, ?_, zback (zback (T4.out.next HB5.out) (by have := hs1.out; omega) ho6) (by omega) ho7⟩
        rw [e1, e2, e3, ← flip_normed, ← shrK_at HNN.out]
        exact ⟨_, _, _, _, _, _, _, rfl, ((R5.out.mono (by rw [quot_len]; have := HNL.out; omega)).only (XT4.out.next HB5.out) ho6).onlyR xo6 ho7⟩
      · have hf : tgFlip L true = false := by unfold tgFlip; rw [HLD.out]; simp; omega
        have hsn : ¬ p.Z.sign < 0 := by rw [Int.sign_neg_iff]; exact hn
        have xo4 := XO4.out
        go_wp2_with (with_reducible refine wpList_store_r rfl _ _ rfl (w0.heap.size + 1) _ _ _ _ _ _ _ _ rfl rfl _ _ _ _ xo4 ?_; intro w7 k7 ho7)
        refine bodyPost_rs rfl rfl rfl k7 rfl ?_
        obtain ⟨e1, e2, e3⟩ := tg_plain (L := L) (K := K) (e := true) hkn hf
        refine ⟨_, by rw [hkn] <;> rfl, ?_, zback T4.out (by omega) ho7⟩
        rw [e1, e2, e3, ← shrK_at HNN.out]
        exact ⟨_, _, _, _, _, _, _, rfl, (R4.out.mono (by omega)).onlyR XO4.out ho7⟩
    · have hkn := tgKnown_never HNN.out hr
      have hsz : ¬ (K.fmod (content L)).sign = 0 := by rw [Int.sign_eq_zero_iff_zero]; exact hr
      have xo3 := XO3.out
      go_wp2_with (with_reducible refine wpList_store_r rfl _ _ rfl (w0.heap.size + 1) _ _ _ _ _ _ _ _ rfl rfl _ _ _ _ xo3 ?_; intro w7 k7 ho7)
      refine bodyPost_rs rfl rfl rfl k7 rfl ?_
      obtain ⟨e1, e2, e3⟩ := tg_known (L := L) (K := K) (e := true) (by rw [hkn]; decide)
      exact ⟨_, by rw [hkn] <;> rfl, by rw [e1, e2, e3]; exact RRes.zero _ _, zback T3.out (by omega) ho7⟩
end Go.Proofs.YtdeakieenppmiaaGreatDoor
/- term.Coef, Has. -/
namespace Go.Proofs.YtdeakieenppmiaaGreatDoor
open Go.RowKit
open Tm

/-- A call that answers a bool. -/
def BoolIs (b : Bool) (w : World) (e : Ending) (w' : World) : Prop := e = .returned (.bool b) ∧ Below w.heap.size w w'
end Go.Proofs.YtdeakieenppmiaaGreatDoor
