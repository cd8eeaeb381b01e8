/- plumblinelaw02.ZintDivs: the walk. -/
import Derived.Test.YtheljeioibpooaaRCeilZ
import Derived.Test.YtheljeioibpooaaRExactZ
import Derived.Test.YtheljeioibpooaaZDividing
namespace Go.Proofs.Ytheljeioibpooaa
open Go.RowKit

/-- What the four answer, errors' numbers too. -/
def dvE (Y : Int) : Int := if Y = 0 then 10 else 0
def dvQ (Z Y : Int) : Int := if Y = 0 then 0 else Z.fdiv Y
def dvR (Z Y : Int) : Int := if Y = 0 then 0 else Z.fmod Y
def ceV (Z Y : Int) : Int := if Y = 0 then 0 else cdiv Z Y
def exE (Z Y : Int) : Int := if Y = 0 then 10 else if Z.fmod Y = 0 then 0 else 1
def exV (Z Y : Int) : Int := if Y = 0 then 0 else if Z.fmod Y = 0 then Z.fdiv Y else 0
def haE (Y : Int) : Int := if Y ≤ 0 then 1 else 0
def haV (Z Y : Int) : Int := if Y ≤ 0 then 0 else hatN Z Y
def DvPost (E Q R : Int) (k : Nat) (w : World) (e : Ending) (w' : World) : Prop := ∃ u v, e = .returned (.tuple #[u, v, .int .i64 E]) ∧ ZRes w' u Q k ∧ ZRes w' v R k ∧ Below w.heap.size w w'
theorem ans_err {k0 : Int} {k : Nat} {w : World} {f : FuncId} {args : Array Value} (h : Calls Try.prog f args w (ZErr k0 w)) : Calls Try.prog f args w (ZAns k0 0 k w) :=
  h.mono fun e w' ⟨h1, h2⟩ => ⟨_, h1, ZRes.zero _ _, h2⟩
theorem ans_ok {Z : Int} {k j : Nat} {w : World} {f : FuncId} {args : Array Value} (h : Calls Try.prog f args w (ZOk Z j w)) (hj : j ≤ k) : Calls Try.prog f args w (ZAns 0 Z k w) :=
  h.mono fun e w' ⟨v, h1, ⟨A, n, c, h2, h3, h4, h5, h6⟩, h7⟩ => ⟨v, h1, ⟨A, n, c, h2, h3, h4, h5, by omega⟩, h7⟩
theorem ans_mono {k0 Z : Int} {k j : Nat} {w : World} {f : FuncId} {args : Array Value} (h : Calls Try.prog f args w (ZAns k0 Z j w)) (hj : j ≤ k) : Calls Try.prog f args w (ZAns k0 Z k w) :=
  h.mono fun e w' ⟨v, h1, ⟨A, n, c, h2, h3, h4, h5, h6⟩, h7⟩ => ⟨v, h1, ⟨A, n, c, h2, h3, h4, h5, by omega⟩, h7⟩
section
variable {v u : Value} {Z Y : Int} {w : World} (hv : ZIn w v Z 12) (hu : ZIn w u Y 12)
include hv hu
theorem div_all : Calls Try.prog 45 #[v, u] w (DvPost (dvE Y) (dvQ Z Y) (dvR Z Y) 12 w) := by
  by_cases h : Y = 0
  · subst h
    exact (zdiv_no v u Z 12 12 w hv hu).mono fun e w' ⟨h1, h2⟩ => ⟨_, _, h1, ZRes.zero _ _, ZRes.zero _ _, h2⟩
  · unfold dvE dvQ dvR
    rw [if_neg h, if_neg h, if_neg h]
    exact (zdiv_yes v u Z Y 12 12 w hv hu h (by omega) (by omega)).mono fun e w' ⟨a, b, h1, h2, h3, h4⟩ => ⟨a, b, h1, h2, h3, h4⟩
theorem rdiv_all : Calls Try.prog 46 #[v, u] w (DvPost (dvE Y) (dvQ Z Y) (dvR Z Y) 12 w) := by
  by_cases h : Y = 0
  · subst h
    exact (rzdiv_no v u Z 12 12 w hv hu (by omega)).mono fun e w' ⟨h1, h2⟩ => ⟨_, _, h1, ZRes.zero _ _, ZRes.zero _ _, h2⟩
  · unfold dvE dvQ dvR
    rw [if_neg h, if_neg h, if_neg h]
    exact (rzdiv_yes v u Z Y 12 12 w hv hu h (by omega) (by omega)).mono fun e w' ⟨a, b, h1, h2, h3, h4⟩ => ⟨a, b, h1, h2, h3, h4⟩
theorem ceil_all : Calls Try.prog 47 #[v, u] w (ZAns (dvE Y) (ceV Z Y) 15 w) := by
  by_cases h : Y = 0
  · subst h
    exact ans_err (ceil_no v u Z 12 12 w hv hu)
  · unfold dvE ceV
    rw [if_neg h, if_neg h]
    exact ans_ok (ceil_yes v u Z Y 12 12 w hv hu h (by omega) (by omega)) (by omega)
theorem rceil_all : Calls Try.prog 48 #[v, u] w (ZAns (dvE Y) (ceV Z Y) 15 w) := by
  by_cases h : Y = 0
  · subst h
    exact ans_mono (rceil_no v u Z 12 12 w hv hu (by omega) (by omega)) (by omega)
  · unfold dvE ceV
    rw [if_neg h, if_neg h]
    exact ans_ok (rceil_yes v u Z Y 12 12 w hv hu h (by omega) (by omega)) (by omega)
theorem exact_all : Calls Try.prog 49 #[v, u] w (ZAns (exE Z Y) (exV Z Y) 12 w) := by
  by_cases h : Y = 0
  · subst h
    exact ans_err (exact_no v u Z 12 12 w hv hu)
  · unfold exE exV
    rw [if_neg h, if_neg h]
    by_cases h0 : Z.fmod Y = 0
    · rw [if_pos h0, if_pos h0]
      exact ans_ok (exact_even v u Z Y 12 12 w hv hu h (by omega) (by omega) h0) (by omega)
    · rw [if_neg h0, if_neg h0]
      exact ans_err (exact_odd v u Z Y 12 12 w hv hu h (by omega) (by omega) h0)
theorem rexact_all : Calls Try.prog 50 #[v, u] w (ZAns (exE Z Y) (exV Z Y) 12 w) := by
  by_cases h : Y = 0
  · subst h
    exact ans_err (rexact_no v u Z 12 12 w hv hu (by omega))
  · unfold exE exV
    rw [if_neg h, if_neg h]
    by_cases h0 : Z.fmod Y = 0
    · rw [if_pos h0, if_pos h0]
      exact ans_ok (rexact_even v u Z Y 12 12 w hv hu h (by omega) (by omega) h0) (by omega)
    · rw [if_neg h0, if_neg h0]
      exact ans_err (rexact_odd v u Z Y 12 12 w hv hu h (by omega) (by omega) h0)
theorem hat_all : Calls Try.prog 51 #[v, u] w (ZAns (haE Y) (haV Z Y) 12 w) := by
  unfold haE haV
  by_cases h : Y ≤ 0
  · rw [if_pos h, if_pos h]
    exact ans_err (hat_no v u Z Y 12 12 w hv hu (by omega) h)
  · rw [if_neg h, if_neg h]
    exact ans_ok (hat_yes v u Z Y 12 12 w hv hu (by omega) (by omega) (by omega)) (by omega)
theorem rhat_all : Calls Try.prog 52 #[v, u] w (ZAns (haE Y) (haV Z Y) 12 w) := by
  unfold haE haV
  by_cases h : Y ≤ 0
  · rw [if_pos h, if_pos h]
    exact ans_err (rhat_no v u Z Y 12 12 w hv hu (by omega) h)
  · rw [if_neg h, if_neg h]
    exact ans_ok (rhat_yes v u Z Y 12 12 w hv hu (by omega) (by omega) (by omega)) (by omega)
end
theorem err_small (Z Y : Int) : (0 ≤ dvE Y ∧ dvE Y ≤ 10) ∧ (0 ≤ exE Z Y ∧ exE Z Y ≤ 10) ∧ (0 ≤ haE Y ∧ haE Y ≤ 10) := by
  unfold dvE exE haE
  refine ⟨?_, ?_, ?_⟩
  · split <;> omega
  · split
    · omega
    · split <;> omega
  · split <;> omega
set_option maxRecDepth 100000 in
set_option maxHeartbeats 8000000 in
theorem zintDivs_walk (s : Bool) (A : Option Addr) (n c : Nat) (xs : List Nat) (t : Bool) (B : Option Addr) (m d : Nat) (ys : List Nat) (w : World) (hx : Nums w A n xs) (hc : n ≤ c) (hm : c ≤ 9223372036854775807) (hy : Nums w B m ys) (hd : m ≤ d) (hmd : d ≤ 9223372036854775807) :
    Calls Try.prog 6 #[.agg #[.bool s, .slice A n c], .agg #[.bool t, .slice B m d]] w (YesPost w) := by
  obtain ⟨x, y, z2, -⟩ := zstart2 w #[.bool s, .slice A n c] #[.bool t, .slice B m d]
  have K := ((Keeps.nil z2).add y (by omega)).add x (by omega)
  clear x y z2
  by_cases hs : n ≤ 12 ∧ m ≤ 12
  · obtain ⟨hn, hmk⟩ := hs
    have hv : ZIn w (.agg #[.bool s, .slice A n c]) (sg s (Limb.val xs)) 12 := ⟨s, A, n, c, xs, rfl, hx, hc, hm, hn, rfl⟩
    have hu : ZIn w (.agg #[.bool t, .slice B m d]) (sg t (Limb.val ys)) 12 := ⟨t, B, m, d, ys, rfl, hy, hd, hmd, hmk, rfl⟩
    generalize sg s (Limb.val xs) = Z at *
    generalize sg t (Limb.val ys) = Y at *
    have hes := err_small Z Y
    have HD := hide (fun W (h1 : ZIn W (.agg #[.bool s, .slice A n c]) Z 12) (h2 : ZIn W (.agg #[.bool t, .slice B m d]) Y 12) => div_all (w := W) h1 h2)
    have HRD := hide (fun W (h1 : ZIn W (.agg #[.bool s, .slice A n c]) Z 12) (h2 : ZIn W (.agg #[.bool t, .slice B m d]) Y 12) => rdiv_all (w := W) h1 h2)
    have HC := hide (fun W (h1 : ZIn W (.agg #[.bool s, .slice A n c]) Z 12) (h2 : ZIn W (.agg #[.bool t, .slice B m d]) Y 12) => ceil_all (w := W) h1 h2)
    have HRC := hide (fun W (h1 : ZIn W (.agg #[.bool s, .slice A n c]) Z 12) (h2 : ZIn W (.agg #[.bool t, .slice B m d]) Y 12) => rceil_all (w := W) h1 h2)
    have HX := hide (fun W (h1 : ZIn W (.agg #[.bool s, .slice A n c]) Z 12) (h2 : ZIn W (.agg #[.bool t, .slice B m d]) Y 12) => exact_all (w := W) h1 h2)
    have HRX := hide (fun W (h1 : ZIn W (.agg #[.bool s, .slice A n c]) Z 12) (h2 : ZIn W (.agg #[.bool t, .slice B m d]) Y 12) => rexact_all (w := W) h1 h2)
    have HH := hide (fun W (h1 : ZIn W (.agg #[.bool s, .slice A n c]) Z 12) (h2 : ZIn W (.agg #[.bool t, .slice B m d]) Y 12) => hat_all (w := W) h1 h2)
    have HRH := hide (fun W (h1 : ZIn W (.agg #[.bool s, .slice A n c]) Z 12) (h2 : ZIn W (.agg #[.bool t, .slice B m d]) Y 12) => rhat_all (w := W) h1 h2)
    generalize dvE Y = e1 at *
    generalize exE Z Y = e2 at *
    generalize haE Y = e3 at *
    generalize dvQ Z Y = Q1 at *
    generalize dvR Z Y = R1 at *
    generalize ceV Z Y = C1 at *
    generalize exV Z Y = X1 at *
    generalize haV Z Y = H1 at *
    have he1 : (e1 == e1) = true := by simp
    have he2 : (e2 == e2) = true := by simp
    have he3 : (e3 == e3) = true := by simp
    have hwe1 : IntKind.i64.wrap e1 = e1 := IntWalk.i64_in _ ⟨by have := hes.1; omega, by have := hes.1; omega⟩
    have hwe2 : IntKind.i64.wrap e2 = e2 := IntWalk.i64_in _ ⟨by have := hes.2.1; omega, by have := hes.2.1; omega⟩
    have hwe3 : IntKind.i64.wrap e3 = e3 := IntWalk.i64_in _ ⟨by have := hes.2.2; omega, by have := hes.2.2; omega⟩
    clear hes
    go_enter Try.func6, Try.ntmps6
    go_wp2_with fail
    refine (zdividing_any _).mono ?_
    rintro e w1 ⟨rfl, b1⟩
    replace K := K.call b1
    clear b1
    have cxa := (K.blk (List.Mem.head _)).c0
    have cxb := (K.blk (List.Mem.head _)).c1
    have cya := (K.blk (List.Mem.tail _ (List.Mem.head _))).c0
    have cyb := (K.blk (List.Mem.tail _ (List.Mem.head _))).c1
    go_wp2_with fail
    refine (z2short_yes _ _ Z Y 12 12 w1 (hv.below K.old) (hu.below K.old) (by omega) (by omega)).mono ?_
    rintro e w2 ⟨rfl, b2⟩
    clear cxa cxb cya cyb
    replace K := K.call b2
    clear b2
    have cxa := (K.blk (List.Mem.head _)).c0
    have cxb := (K.blk (List.Mem.head _)).c1
    have cya := (K.blk (List.Mem.tail _ (List.Mem.head _))).c0
    have cyb := (K.blk (List.Mem.tail _ (List.Mem.head _))).c1
    go_wp2_with fail
    refine (HD.out w2 (hv.below K.old) (hu.below K.old)).mono ?_
    rintro e w3 ⟨v3, u3, rfl, rq, rr, b3⟩
    clear cxa cxb cya cyb
    replace K := K.call b3
    clear b3
    obtain ⟨sq, Aq, nq, cq, rfl⟩ := rq.form
    obtain ⟨sr, Ar, nr, cr, rfl⟩ := rr.form
    have tt := (bl_alloc w3 (.cells #[.bool sq, .slice Aq nq cq] 37)).next (bl_alloc _ (.cells #[.bool sr, .slice Ar nr cr] 37))
    replace K := K.made2 (a := .bool sq) (b := .slice Aq nq cq) (c := .bool sr) (d := .slice Ar nr cr)
    replace rq := rq.below tt
    replace rr := rr.below tt
    clear tt
    have cxa := (K.blk (List.Mem.tail _ (List.Mem.tail _ (List.Mem.head _)))).c0
    have cxb := (K.blk (List.Mem.tail _ (List.Mem.tail _ (List.Mem.head _)))).c1
    have cya := (K.blk (List.Mem.tail _ (List.Mem.tail _ (List.Mem.tail _ (List.Mem.head _))))).c0
    have cyb := (K.blk (List.Mem.tail _ (List.Mem.tail _ (List.Mem.tail _ (List.Mem.head _))))).c1
    go_wp2_with fail
    refine (HRD.out ((w3.alloc (.cells #[.bool sq, .slice Aq nq cq] 37)).alloc (.cells #[.bool sr, .slice Ar nr cr] 37)) (hv.below K.old) (hu.below K.old)).mono ?_
    rintro e w4 ⟨v4, u4, rfl, rk, rl, b4⟩
    clear cxa cxb cya cyb
    replace K := K.call b4
    replace rq := rq.below b4
    replace rr := rr.below b4
    clear b4
    obtain ⟨sk, Ak, nk, ck, rfl⟩ := rk.form
    obtain ⟨sl, Al, nl, cl, rfl⟩ := rl.form
    have tt := (bl_alloc w4 (.cells #[.bool sk, .slice Ak nk ck] 37)).next (bl_alloc _ (.cells #[.bool sl, .slice Al nl cl] 37))
    replace K := K.made2 (a := .bool sk) (b := .slice Ak nk ck) (c := .bool sl) (d := .slice Al nl cl)
    replace rq := rq.below tt
    replace rr := rr.below tt
    replace rk := rk.below tt
    replace rl := rl.below tt
    clear tt
    have cxa := (K.blk (List.Mem.tail _ (List.Mem.tail _ (List.Mem.tail _ (List.Mem.tail _ (List.Mem.head _)))))).c0
    have cxb := (K.blk (List.Mem.tail _ (List.Mem.tail _ (List.Mem.tail _ (List.Mem.tail _ (List.Mem.head _)))))).c1
    have cya := (K.blk (List.Mem.tail _ (List.Mem.tail _ (List.Mem.tail _ (List.Mem.tail _ (List.Mem.tail _ (List.Mem.head _))))))).c0
    have cyb := (K.blk (List.Mem.tail _ (List.Mem.tail _ (List.Mem.tail _ (List.Mem.tail _ (List.Mem.tail _ (List.Mem.head _))))))).c1
    go_wp2_with fail
    refine (HC.out ((w4.alloc (.cells #[.bool sk, .slice Ak nk ck] 37)).alloc (.cells #[.bool sl, .slice Al nl cl] 37)) (hv.below K.old) (hu.below K.old)).mono ?_
    rintro e w5 ⟨v5, rfl, re, b5⟩
    clear cxa cxb cya cyb
    replace K := K.call b5
    replace rq := rq.below b5
    replace rr := rr.below b5
    replace rk := rk.below b5
    replace rl := rl.below b5
    clear b5
    obtain ⟨se, Ae, ne, ce, rfl⟩ := re.form
    have tt := bl_alloc w5 (.cells #[.bool se, .slice Ae ne ce] 37)
    replace K := K.made1 (a := .bool se) (b := .slice Ae ne ce)
    replace rq := rq.below tt
    replace rr := rr.below tt
    replace rk := rk.below tt
    replace rl := rl.below tt
    replace re := re.below tt
    clear tt
    have cxa := (K.blk (List.Mem.tail _ (List.Mem.tail _ (List.Mem.tail _ (List.Mem.tail _ (List.Mem.tail _ (List.Mem.head _))))))).c0
    have cxb := (K.blk (List.Mem.tail _ (List.Mem.tail _ (List.Mem.tail _ (List.Mem.tail _ (List.Mem.tail _ (List.Mem.head _))))))).c1
    have cya := (K.blk (List.Mem.tail _ (List.Mem.tail _ (List.Mem.tail _ (List.Mem.tail _ (List.Mem.tail _ (List.Mem.tail _ (List.Mem.head _)))))))).c0
    have cyb := (K.blk (List.Mem.tail _ (List.Mem.tail _ (List.Mem.tail _ (List.Mem.tail _ (List.Mem.tail _ (List.Mem.tail _ (List.Mem.head _)))))))).c1
    go_wp2_with fail
    refine (HRC.out (w5.alloc (.cells #[.bool se, .slice Ae ne ce] 37)) (hv.below K.old) (hu.below K.old)).mono ?_
    rintro e w6 ⟨v6, rfl, rf, b6⟩
    clear cxa cxb cya cyb
    replace K := K.call b6
    replace rq := rq.below b6
    replace rr := rr.below b6
    replace rk := rk.below b6
    replace rl := rl.below b6
    replace re := re.below b6
    clear b6
    obtain ⟨sf, Af, nf, cf, rfl⟩ := rf.form
    have tt := bl_alloc w6 (.cells #[.bool sf, .slice Af nf cf] 37)
    replace K := K.made1 (a := .bool sf) (b := .slice Af nf cf)
    replace rq := rq.below tt
    replace rr := rr.below tt
    replace rk := rk.below tt
    replace rl := rl.below tt
    replace re := re.below tt
    replace rf := rf.below tt
    clear tt
    have cxa := (K.blk (List.Mem.tail _ (List.Mem.tail _ (List.Mem.tail _ (List.Mem.tail _ (List.Mem.tail _ (List.Mem.tail _ (List.Mem.head _)))))))).c0
    have cxb := (K.blk (List.Mem.tail _ (List.Mem.tail _ (List.Mem.tail _ (List.Mem.tail _ (List.Mem.tail _ (List.Mem.tail _ (List.Mem.head _)))))))).c1
    have cya := (K.blk (List.Mem.tail _ (List.Mem.tail _ (List.Mem.tail _ (List.Mem.tail _ (List.Mem.tail _ (List.Mem.tail _ (List.Mem.tail _ (List.Mem.head _))))))))).c0
    have cyb := (K.blk (List.Mem.tail _ (List.Mem.tail _ (List.Mem.tail _ (List.Mem.tail _ (List.Mem.tail _ (List.Mem.tail _ (List.Mem.tail _ (List.Mem.head _))))))))).c1
    go_wp2_with fail
    refine (HX.out (w6.alloc (.cells #[.bool sf, .slice Af nf cf] 37)) (hv.below K.old) (hu.below K.old)).mono ?_
    rintro e w7 ⟨v7, rfl, rg, b7⟩
    clear cxa cxb cya cyb
    replace K := K.call b7
    replace rq := rq.below b7
    replace rr := rr.below b7
    replace rk := rk.below b7
    replace rl := rl.below b7
    replace re := re.below b7
    replace rf := rf.below b7
    clear b7
    obtain ⟨sg, Ag, ng, cg, rfl⟩ := rg.form
    have tt := bl_alloc w7 (.cells #[.bool sg, .slice Ag ng cg] 37)
    replace K := K.made1 (a := .bool sg) (b := .slice Ag ng cg)
    replace rq := rq.below tt
    replace rr := rr.below tt
    replace rk := rk.below tt
    replace rl := rl.below tt
    replace re := re.below tt
    replace rf := rf.below tt
    replace rg := rg.below tt
    clear tt
    have cxa := (K.blk (List.Mem.tail _ (List.Mem.tail _ (List.Mem.tail _ (List.Mem.tail _ (List.Mem.tail _ (List.Mem.tail _ (List.Mem.tail _ (List.Mem.head _))))))))).c0
    have cxb := (K.blk (List.Mem.tail _ (List.Mem.tail _ (List.Mem.tail _ (List.Mem.tail _ (List.Mem.tail _ (List.Mem.tail _ (List.Mem.tail _ (List.Mem.head _))))))))).c1
    have cya := (K.blk (List.Mem.tail _ (List.Mem.tail _ (List.Mem.tail _ (List.Mem.tail _ (List.Mem.tail _ (List.Mem.tail _ (List.Mem.tail _ (List.Mem.tail _ (List.Mem.head _)))))))))).c0
    have cyb := (K.blk (List.Mem.tail _ (List.Mem.tail _ (List.Mem.tail _ (List.Mem.tail _ (List.Mem.tail _ (List.Mem.tail _ (List.Mem.tail _ (List.Mem.tail _ (List.Mem.head _)))))))))).c1
    go_wp2_with fail
    refine (HRX.out (w7.alloc (.cells #[.bool sg, .slice Ag ng cg] 37)) (hv.below K.old) (hu.below K.old)).mono ?_
    rintro e w8 ⟨v8, rfl, rh, b8⟩
    clear cxa cxb cya cyb
    replace K := K.call b8
    replace rq := rq.below b8
    replace rr := rr.below b8
    replace rk := rk.below b8
    replace rl := rl.below b8
    replace re := re.below b8
    replace rf := rf.below b8
    replace rg := rg.below b8
    clear b8
    obtain ⟨sh, Ah, nh, ch, rfl⟩ := rh.form
    have tt := bl_alloc w8 (.cells #[.bool sh, .slice Ah nh ch] 37)
    replace K := K.made1 (a := .bool sh) (b := .slice Ah nh ch)
    replace rq := rq.below tt
    replace rr := rr.below tt
    replace rk := rk.below tt
    replace rl := rl.below tt
    replace re := re.below tt
    replace rf := rf.below tt
    replace rg := rg.below tt
    replace rh := rh.below tt
    clear tt
    have cxa := (K.blk (List.Mem.tail _ (List.Mem.tail _ (List.Mem.tail _ (List.Mem.tail _ (List.Mem.tail _ (List.Mem.tail _ (List.Mem.tail _ (List.Mem.tail _ (List.Mem.head _)))))))))).c0
    have cxb := (K.blk (List.Mem.tail _ (List.Mem.tail _ (List.Mem.tail _ (List.Mem.tail _ (List.Mem.tail _ (List.Mem.tail _ (List.Mem.tail _ (List.Mem.tail _ (List.Mem.head _)))))))))).c1
    have cya := (K.blk (List.Mem.tail _ (List.Mem.tail _ (List.Mem.tail _ (List.Mem.tail _ (List.Mem.tail _ (List.Mem.tail _ (List.Mem.tail _ (List.Mem.tail _ (List.Mem.tail _ (List.Mem.head _))))))))))).c0
    have cyb := (K.blk (List.Mem.tail _ (List.Mem.tail _ (List.Mem.tail _ (List.Mem.tail _ (List.Mem.tail _ (List.Mem.tail _ (List.Mem.tail _ (List.Mem.tail _ (List.Mem.tail _ (List.Mem.head _))))))))))).c1
    go_wp2_with fail
    refine (HH.out (w8.alloc (.cells #[.bool sh, .slice Ah nh ch] 37)) (hv.below K.old) (hu.below K.old)).mono ?_
    rintro e w9 ⟨v9, rfl, ri, b9⟩
    clear cxa cxb cya cyb
    replace K := K.call b9
    replace rq := rq.below b9
    replace rr := rr.below b9
    replace rk := rk.below b9
    replace rl := rl.below b9
    replace re := re.below b9
    replace rf := rf.below b9
    replace rg := rg.below b9
    replace rh := rh.below b9
    clear b9
    obtain ⟨si, Ai, ni, ci, rfl⟩ := ri.form
    have tt := bl_alloc w9 (.cells #[.bool si, .slice Ai ni ci] 37)
    replace K := K.made1 (a := .bool si) (b := .slice Ai ni ci)
    replace rq := rq.below tt
    replace rr := rr.below tt
    replace rk := rk.below tt
    replace rl := rl.below tt
    replace re := re.below tt
    replace rf := rf.below tt
    replace rg := rg.below tt
    replace rh := rh.below tt
    replace ri := ri.below tt
    clear tt
    have cxa := (K.blk (List.Mem.tail _ (List.Mem.tail _ (List.Mem.tail _ (List.Mem.tail _ (List.Mem.tail _ (List.Mem.tail _ (List.Mem.tail _ (List.Mem.tail _ (List.Mem.tail _ (List.Mem.head _))))))))))).c0
    have cxb := (K.blk (List.Mem.tail _ (List.Mem.tail _ (List.Mem.tail _ (List.Mem.tail _ (List.Mem.tail _ (List.Mem.tail _ (List.Mem.tail _ (List.Mem.tail _ (List.Mem.tail _ (List.Mem.head _))))))))))).c1
    have cya := (K.blk (List.Mem.tail _ (List.Mem.tail _ (List.Mem.tail _ (List.Mem.tail _ (List.Mem.tail _ (List.Mem.tail _ (List.Mem.tail _ (List.Mem.tail _ (List.Mem.tail _ (List.Mem.tail _ (List.Mem.head _)))))))))))).c0
    have cyb := (K.blk (List.Mem.tail _ (List.Mem.tail _ (List.Mem.tail _ (List.Mem.tail _ (List.Mem.tail _ (List.Mem.tail _ (List.Mem.tail _ (List.Mem.tail _ (List.Mem.tail _ (List.Mem.tail _ (List.Mem.head _)))))))))))).c1
    go_wp2_with fail
    refine (HRH.out (w9.alloc (.cells #[.bool si, .slice Ai ni ci] 37)) (hv.below K.old) (hu.below K.old)).mono ?_
    rintro e w10 ⟨v10, rfl, rj, b10⟩
    clear cxa cxb cya cyb
    replace K := K.call b10
    replace rq := rq.below b10
    replace rr := rr.below b10
    replace rk := rk.below b10
    replace rl := rl.below b10
    replace re := re.below b10
    replace rf := rf.below b10
    replace rg := rg.below b10
    replace rh := rh.below b10
    replace ri := ri.below b10
    clear b10
    obtain ⟨sj, Aj, nj, cj, rfl⟩ := rj.form
    have tt := bl_alloc w10 (.cells #[.bool sj, .slice Aj nj cj] 37)
    replace K := K.made1 (a := .bool sj) (b := .slice Aj nj cj)
    replace rq := rq.below tt
    replace rr := rr.below tt
    replace rk := rk.below tt
    replace rl := rl.below tt
    replace re := re.below tt
    replace rf := rf.below tt
    replace rg := rg.below tt
    replace rh := rh.below tt
    replace ri := ri.below tt
    replace rj := rj.below tt
    clear tt
    have cqa := (K.blk (List.Mem.tail _ (List.Mem.tail _ (List.Mem.tail _ (List.Mem.tail _ (List.Mem.tail _ (List.Mem.tail _ (List.Mem.tail _ (List.Mem.tail _ (List.Mem.tail _ (List.Mem.head _))))))))))).c0
    have cqb := (K.blk (List.Mem.tail _ (List.Mem.tail _ (List.Mem.tail _ (List.Mem.tail _ (List.Mem.tail _ (List.Mem.tail _ (List.Mem.tail _ (List.Mem.tail _ (List.Mem.tail _ (List.Mem.head _))))))))))).c1
    have cka := (K.blk (List.Mem.tail _ (List.Mem.tail _ (List.Mem.tail _ (List.Mem.tail _ (List.Mem.tail _ (List.Mem.tail _ (List.Mem.tail _ (List.Mem.head _))))))))).c0
    have ckb := (K.blk (List.Mem.tail _ (List.Mem.tail _ (List.Mem.tail _ (List.Mem.tail _ (List.Mem.tail _ (List.Mem.tail _ (List.Mem.tail _ (List.Mem.head _))))))))).c1
    go_wp2_with fail
    refine (z2same_yes _ _ Q1 12 12 (w10.alloc (.cells #[.bool sj, .slice Aj nj cj] 37)) rq rk (by omega)).mono ?_
    rintro e w11 ⟨rfl, b11⟩
    clear cqa cqb cka ckb
    replace K := K.call b11
    replace rq := rq.below b11
    replace rr := rr.below b11
    replace rk := rk.below b11
    replace rl := rl.below b11
    replace re := re.below b11
    replace rf := rf.below b11
    replace rg := rg.below b11
    replace rh := rh.below b11
    replace ri := ri.below b11
    replace rj := rj.below b11
    clear b11
    clear rq
    clear rk
    have cra := (K.blk (List.Mem.tail _ (List.Mem.tail _ (List.Mem.tail _ (List.Mem.tail _ (List.Mem.tail _ (List.Mem.tail _ (List.Mem.tail _ (List.Mem.tail _ (List.Mem.head _)))))))))).c0
    have crb := (K.blk (List.Mem.tail _ (List.Mem.tail _ (List.Mem.tail _ (List.Mem.tail _ (List.Mem.tail _ (List.Mem.tail _ (List.Mem.tail _ (List.Mem.tail _ (List.Mem.head _)))))))))).c1
    have cla := (K.blk (List.Mem.tail _ (List.Mem.tail _ (List.Mem.tail _ (List.Mem.tail _ (List.Mem.tail _ (List.Mem.tail _ (List.Mem.head _)))))))).c0
    have clb := (K.blk (List.Mem.tail _ (List.Mem.tail _ (List.Mem.tail _ (List.Mem.tail _ (List.Mem.tail _ (List.Mem.tail _ (List.Mem.head _)))))))).c1
    go_wp2_with fail
    refine (z2same_yes _ _ R1 12 12 w11 rr rl (by omega)).mono ?_
    rintro e w12 ⟨rfl, b12⟩
    clear cra crb cla clb
    replace K := K.call b12
    replace rr := rr.below b12
    replace rl := rl.below b12
    replace re := re.below b12
    replace rf := rf.below b12
    replace rg := rg.below b12
    replace rh := rh.below b12
    replace ri := ri.below b12
    replace rj := rj.below b12
    clear b12
    clear rr
    clear rl
    have cea := (K.blk (List.Mem.tail _ (List.Mem.tail _ (List.Mem.tail _ (List.Mem.tail _ (List.Mem.tail _ (List.Mem.head _))))))).c0
    have ceb := (K.blk (List.Mem.tail _ (List.Mem.tail _ (List.Mem.tail _ (List.Mem.tail _ (List.Mem.tail _ (List.Mem.head _))))))).c1
    have cfa := (K.blk (List.Mem.tail _ (List.Mem.tail _ (List.Mem.tail _ (List.Mem.tail _ (List.Mem.head _)))))).c0
    have cfb := (K.blk (List.Mem.tail _ (List.Mem.tail _ (List.Mem.tail _ (List.Mem.tail _ (List.Mem.head _)))))).c1
    go_wp2_with fail
    refine (z2same_yes _ _ C1 15 15 w12 re rf (by omega)).mono ?_
    rintro e w13 ⟨rfl, b13⟩
    clear cea ceb cfa cfb
    replace K := K.call b13
    replace re := re.below b13
    replace rf := rf.below b13
    replace rg := rg.below b13
    replace rh := rh.below b13
    replace ri := ri.below b13
    replace rj := rj.below b13
    clear b13
    clear re
    clear rf
    have cga := (K.blk (List.Mem.tail _ (List.Mem.tail _ (List.Mem.tail _ (List.Mem.head _))))).c0
    have cgb := (K.blk (List.Mem.tail _ (List.Mem.tail _ (List.Mem.tail _ (List.Mem.head _))))).c1
    have cha := (K.blk (List.Mem.tail _ (List.Mem.tail _ (List.Mem.head _)))).c0
    have chb := (K.blk (List.Mem.tail _ (List.Mem.tail _ (List.Mem.head _)))).c1
    go_wp2_with fail
    refine (z2same_yes _ _ X1 12 12 w13 rg rh (by omega)).mono ?_
    rintro e w14 ⟨rfl, b14⟩
    clear cga cgb cha chb
    replace K := K.call b14
    replace rg := rg.below b14
    replace rh := rh.below b14
    replace ri := ri.below b14
    replace rj := rj.below b14
    clear b14
    clear rg
    clear rh
    have cia := (K.blk (List.Mem.tail _ (List.Mem.head _))).c0
    have cib := (K.blk (List.Mem.tail _ (List.Mem.head _))).c1
    have cja := (K.blk (List.Mem.head _)).c0
    have cjb := (K.blk (List.Mem.head _)).c1
    go_wp2_with fail
    refine (z2same_yes _ _ H1 12 12 w14 ri rj (by omega)).mono ?_
    rintro e w15 ⟨rfl, b15⟩
    clear cia cib cja cjb
    replace K := K.call b15
    replace ri := ri.below b15
    replace rj := rj.below b15
    clear b15
    clear ri
    clear rj
    go_wp2_with fail
    go_ret
    exact ⟨rfl, K.old⟩
  · go_enter Try.func6, Try.ntmps6
    go_wp2_with fail
    refine (zdividing_any _).mono ?_
    rintro e w1 ⟨rfl, b1⟩
    replace K := K.call b1
    clear b1
    have cxa := (K.blk (List.Mem.head _)).c0
    have cxb := (K.blk (List.Mem.head _)).c1
    have cya := (K.blk (List.Mem.tail _ (List.Mem.head _))).c0
    have cyb := (K.blk (List.Mem.tail _ (List.Mem.head _))).c1
    go_wp2_with fail
    refine (z2short_no s t A B n c m d 12 w1 (by omega) (by omega) (by omega) (by omega)).mono ?_
    rintro e w2 ⟨rfl, b2⟩
    clear cxa cxb cya cyb
    replace K := K.call b2
    clear b2
    go_wp2_with fail
    go_ret
    exact ⟨rfl, K.old⟩
end Go.Proofs.Ytheljeioibpooaa
