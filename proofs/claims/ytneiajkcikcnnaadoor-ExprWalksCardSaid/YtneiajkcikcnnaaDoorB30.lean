/- Texts of one seat, put together: ExprR9 ExprW3 ExprW4 ExprW5. -/
import Derived.Test.YtneiajkcikcnnaaDoorB27
import Derived.Test.YtneiajkcikcnnaaDoorB28
import Derived.Test.YtneiajkcikcnnaaDoorB29
import Derived.Test.YtneiajkcikcnnaaDoorB24
import Derived.Test.YtneiajkcikcnnaaDoorB13
import Derived.Test.YtneiajkcikcnnaaDoorB18
set_option linter.unusedVariables false
/- plumblineref11's parsers of trees, at every tape. -/
namespace Go.Proofs.YtneiajkcikcnnaaDoor
open Go.RowKit
open Lx Ex

theorem rparsers (D : CD) (m : Nat) : ∀ (i dp : Nat), dp ≤ 60 →
    (3 * (rd D.ts i).length ≤ m → ∀ W, Tp D W i → Calls Tryd.prog 49 #[.agg #[.slice D.A D.n D.c, .int .i64 (i : Int), .slice D.V D.m D.d, .bool D.known], .int .i64 (dp : Int)] W (RPPost D (parsF D.kn .one (60 - dp) (rd D.ts i)) i W)) ∧
    (3 * (rd D.ts i).length + 1 ≤ m → ∀ W, Tp D W i → Calls Tryd.prog 32 #[.agg #[.slice D.A D.n D.c, .int .i64 (i : Int), .slice D.V D.m D.d, .bool D.known], .int .i64 (dp : Int)] W (RPPost D (parsF D.kn .both (60 - dp) (rd D.ts i)) i W)) ∧
    (3 * (rd D.ts i).length + 2 ≤ m → ∀ W, Tp D W i → Calls Tryd.prog 10 #[.agg #[.slice D.A D.n D.c, .int .i64 (i : Int), .slice D.V D.m D.d, .bool D.known], .int .i64 (dp : Int)] W (RPPost D (parsF D.kn .cond (60 - dp) (rd D.ts i)) i W)) := by
  induction m with
  | zero => intro i dp _; have := rd_pos D.ts i; exact ⟨fun h => by omega, fun h => by omega, fun h => by omega⟩
  | succ m ih =>
    intro i dp hdp
    refine ⟨fun hl W hc => ?_, fun hl W hc => ?_, fun hl W hc => ?_⟩
    · refine rone_any D i dp W hc hdp (fun W2 h1 c2 hl2 => ?_) (fun W2 h1 c2 hl2 => ?_)
      · have := (ih (i + 1) (dp + 1) (by omega)).1 (by omega) W2 c2
        rw [show ((i + 1 : Nat) : Int) = (i : Int) + 1 from by omega, show ((dp + 1 : Nat) : Int) = (dp : Int) + 1 from by omega] at this
        exact this
      · have := (ih (i + 1) (dp + 1) (by omega)).2.2 (by omega) W2 c2
        rw [show ((i + 1 : Nat) : Int) = (i : Int) + 1 from by omega, show ((dp + 1 : Nat) : Int) = (dp : Int) + 1 from by omega] at this
        exact this
    · rw [parsF_both]
      exact rboth_any D i dp W hc hdp (fun W2 j c2 hl2 => (ih j dp hdp).1 (by omega) W2 c2)
    · rw [parsF_cond]
      exact rCond_any D i dp W hc hdp (fun W2 j c2 hl2 => (ih j dp hdp).2.1 (by omega) W2 c2)
theorem rcond_any (D : CD) (i : Nat) (w : World) (h : Tp D w i) : Calls Tryd.prog 10 #[.agg #[.slice D.A D.n D.c, .int .i64 (i : Int), .slice D.V D.m D.d, .bool D.known], .int .i64 0] w (RPPost D (parsF D.kn .cond 60 (rd D.ts i)) i w) :=
  ((rparsers D _ i 0 (Nat.zero_le _)).2.2 (Nat.le_refl _) w h)
end Go.Proofs.YtneiajkcikcnnaaDoor
/- What both sides answer, in one form. -/
namespace Go.Proofs.YtneiajkcikcnnaaDoor
open Go.RowKit
open Lx Ex

def ocd {α : Type} : Out α → Nat
  | .ok _ _ => 0
  | .err c _ => c
  | .fuel => 0
def ost {α : Type} : Out α → List PT
  | .ok _ r => r
  | .err _ r => r
  | .fuel => []
def olist : Out (List Mn) → List Mn
  | .ok l _ => l
  | _ => []
def otree : Out Tr → GT
  | .ok t _ => gt t
  | _ => .mk 0 [] [] 0 ⟨#[]⟩ ⟨#[]⟩ []
def opos {α : Type} (ts : List TK) (i : Nat) (o : Out α) : Nat := i + (rd ts i).length - (ost o).length
theorem Stands.pos {D : CD} {i i' : Nat} {r : List PT} (h : Stands D i r i') : i' = i + (rd D.ts i).length - r.length := by
  have := h.2; omega
theorem opos_fits {α : Type} {D : CD} {i i' : Nat} {o : Out α} (h : Stands D i (ost o) i') : opos D.ts i o = i' := h.pos.symm
theorem otree_small {s : ByteArray} {kn : ByteArray → Bool} {i : Nat} : Small (otree (parsF kn .cond 60 (rd (toksK s) i))) := by
  cases h : parsF kn .cond 60 (rd (toksK s) i) with
  | ok t r => exact parsed_small h
  | err c r => exact small_kids (by decide) (fun t h => by cases h)
  | fuel => exact small_kids (by decide) (fun t h => by cases h)
theorem olist_few {s : ByteArray} {kn : ByteArray → Bool} {i : Nat} : (olist (sumP kn (rd (toksK s) i))).length ≤ 64 := by
  cases h : sumP kn (rd (toksK s) i) with
  | ok t r => exact summed_small h
  | err c r => exact Nat.zero_le _
  | fuel => exact Nat.zero_le _
theorem sum_norm (D : CD) (g i : Nat) (w : World) (ts : List TK) (kn : ByteArray → Bool) (h1 : D.ts = ts) (h2 : D.kn = kn) (h : Cur D g w i) :
    Calls Tryd.prog 7 #[.pointer (some ⟨g, 0, none⟩)] w (fun e w' => ∃ A c, e = .returned (.tuple #[.slice A (olist (sumP kn (rd ts i))).length c, .int .i64 (ocd (sumP kn (rd ts i)) : Nat)]) ∧
      MIn (From w.heap.size) w' A (olist (sumP kn (rd ts i))).length (olist (sumP kn (rd ts i))) ∧ Went D g (opos ts i (sumP kn (rd ts i))) w w') := by
  subst h1 h2
  refine (sum_any D g i w h).mono ?_
  intro e w' hp
  unfold SumPost at hp
  cases ho : sumP D.kn (rd D.ts i) with
  | ok l r1 =>
    rw [ho] at hp
    obtain ⟨i', A, c, he, -, -, hm, hs, hw⟩ := hp
    exact ⟨A, c, he, hm, by rw [show opos D.ts i (Out.ok l r1) = i' from hs.pos.symm]; exact hw⟩
  | err c r1 =>
    rw [ho] at hp
    obtain ⟨i', he, -, hs, hw⟩ := hp
    exact ⟨none, 0, he, MIn.nil _ _ _, by rw [show opos D.ts i (Out.err c r1 : Out (List Mn)) = i' from hs.pos.symm]; exact hw⟩
  | fuel => rw [ho] at hp; exact hp.elim
theorem rsum_norm (D : CD) (i : Nat) (w : World) (ts : List TK) (kn : ByteArray → Bool) (h1 : D.ts = ts) (h2 : D.kn = kn) (h : Tp D w i) :
    Calls Tryd.prog 8 #[.agg #[.slice D.A D.n D.c, .int .i64 (i : Int), .slice D.V D.m D.d, .bool D.known]] w (fun e w' => ∃ A c, e = .returned (.tuple #[.agg #[.slice D.A D.n D.c, .int .i64 (opos ts i (sumP kn (rd ts i)) : Int), .slice D.V D.m D.d, .bool D.known], .slice A (olist (sumP kn (rd ts i))).length c, .int .i64 (ocd (sumP kn (rd ts i)) : Nat)]) ∧
      MIn (From w.heap.size) w' A (olist (sumP kn (rd ts i))).length (olist (sumP kn (rd ts i))) ∧ opos ts i (sumP kn (rd ts i)) + (rd ts (opos ts i (sumP kn (rd ts i)))).length ≤ 1099511627776 ∧ Below w.heap.size w w') := by
  subst h1 h2
  refine (rsum_any D i w h).mono ?_
  intro e w' hp
  unfold RSumPost at hp
  cases ho : sumP D.kn (rd D.ts i) with
  | ok l r1 =>
    rw [ho] at hp
    obtain ⟨i', A, c, he, -, -, hm, hs, hw⟩ := hp
    have e1 : opos D.ts i (Out.ok l r1) = i' := hs.pos.symm
    exact ⟨A, c, by rw [e1]; exact he, hm, by rw [e1]; exact (h.at_ hs).fits, hw⟩
  | err c r1 =>
    rw [ho] at hp
    obtain ⟨i', he, -, hs, hw⟩ := hp
    have e1 : opos D.ts i (Out.err c r1 : Out (List Mn)) = i' := hs.pos.symm
    exact ⟨none, 0, by rw [e1]; exact he, MIn.nil _ _ _, by rw [e1]; exact (h.at_ hs).fits, hw⟩
  | fuel => rw [ho] at hp; exact hp.elim
theorem cond_norm (D : CD) (g i : Nat) (w : World) (ts : List TK) (kn : ByteArray → Bool) (h1 : D.ts = ts) (h2 : D.kn = kn) (h : Cur D g w i) (htab : OpTab w) :
    Calls Tryd.prog 9 #[.pointer (some ⟨g, 0, none⟩)] w (fun e w' => ∃ (kd : Int) (Al : Option Addr) (nl cl : Nat) (Ar : Option Addr) (nr cr : Nat) (op : Int) (p q : ByteArray) (A : Option Addr) (n c : Nat), e = .returned (.tuple #[.agg #[.int .i64 kd, .slice Al nl cl, .slice Ar nr cr, .int .i64 op, .string p, .string q, .slice A n c], .int .i64 (ocd (parsF kn .cond 60 (rd ts i)) : Nat)]) ∧
      TIn (From w.heap.size) w' (otree (parsF kn .cond 60 (rd ts i))) [.int .i64 kd, .slice Al nl cl, .slice Ar nr cr, .int .i64 op, .string p, .string q, .slice A n c] ∧ Went D g (opos ts i (parsF kn .cond 60 (rd ts i))) w w') := by
  subst h1 h2
  refine (Cond_any D g i w h htab).mono ?_
  intro e w' hp
  cases ho : parsF D.kn .cond 60 (rd D.ts i) with
  | ok t r1 =>
    rw [ho] at hp
    obtain ⟨i', kd, Al, nl, cl, Ar, nr, cr, op, p, q, A, n, c, he, hT, hs, hw⟩ := hp
    exact ⟨kd, Al, nl, cl, Ar, nr, cr, op, p, q, A, n, c, he, hT, by rw [show opos D.ts i (Out.ok t r1) = i' from hs.pos.symm]; exact hw⟩
  | err c r1 =>
    rw [ho] at hp
    obtain ⟨i', he, -, hs, hw⟩ := hp
    exact ⟨0, none, 0, 0, none, 0, 0, 0, ⟨#[]⟩, ⟨#[]⟩, none, 0, 0, he, TIn.leaf _ _ 0, by rw [show opos D.ts i (Out.err c r1 : Out Tr) = i' from hs.pos.symm]; exact hw⟩
  | fuel => rw [ho] at hp; exact hp.elim
theorem rcond_norm (D : CD) (i : Nat) (w : World) (ts : List TK) (kn : ByteArray → Bool) (h1 : D.ts = ts) (h2 : D.kn = kn) (h : Tp D w i) :
    Calls Tryd.prog 10 #[.agg #[.slice D.A D.n D.c, .int .i64 (i : Int), .slice D.V D.m D.d, .bool D.known], .int .i64 0] w (fun e w' => ∃ (kd : Int) (Al : Option Addr) (nl cl : Nat) (Ar : Option Addr) (nr cr : Nat) (op : Int) (p q : ByteArray) (A : Option Addr) (n c : Nat), e = .returned (.tuple #[.agg #[.slice D.A D.n D.c, .int .i64 (opos ts i (parsF kn .cond 60 (rd ts i)) : Int), .slice D.V D.m D.d, .bool D.known], .agg #[.int .i64 kd, .slice Al nl cl, .slice Ar nr cr, .int .i64 op, .string p, .string q, .slice A n c], .int .i64 (ocd (parsF kn .cond 60 (rd ts i)) : Nat)]) ∧
      TIn (From w.heap.size) w' (otree (parsF kn .cond 60 (rd ts i))) [.int .i64 kd, .slice Al nl cl, .slice Ar nr cr, .int .i64 op, .string p, .string q, .slice A n c] ∧ opos ts i (parsF kn .cond 60 (rd ts i)) + (rd ts (opos ts i (parsF kn .cond 60 (rd ts i)))).length ≤ 1099511627776 ∧ Below w.heap.size w w') := by
  subst h1 h2
  refine (rcond_any D i w h).mono ?_
  rintro e w' ⟨i', code, kd, Al, nl, cl, Ar, nr, cr, op, p, q, A, n, c, he, hb, hor⟩
  rcases hor with ⟨hc, t, r1, ho, hT, hs⟩ | ⟨cd, r1, hc, -, ho, hz, hs⟩
  · rw [ho]
    have e1 : opos D.ts i (Out.ok t r1) = i' := hs.pos.symm
    subst hc
    exact ⟨kd, Al, nl, cl, Ar, nr, cr, op, p, q, A, n, c, by rw [e1]; exact he, hT, by rw [e1]; exact (h.at_ hs).fits, hb⟩
  · rw [ho]
    have e1 : opos D.ts i (Out.err cd r1 : Out Tr) = i' := hs.pos.symm
    subst hc
    rw [hz] at he
    exact ⟨0, none, 0, 0, none, 0, 0, 0, ⟨#[]⟩, ⟨#[]⟩, none, 0, 0, by rw [e1]; exact he, TIn.leaf _ _ 0, by rw [e1]; exact (h.at_ hs).fits, hb⟩
theorem whole_norm (s : ByteArray) (known : Bool) (A0 : Option Addr) (n0 c0 : Nat) (xs : List ByteArray) (w : World) (hs : s.size ≤ 2000) (hx : SIn w A0 n0 xs) (hA : A0 = none → n0 = 0 ∧ c0 = 0) (hn : n0 ≤ 1000) (htab : OpTab w) (ts : List TK) (kn : ByteArray → Bool) (h1 : toksK s = ts) (h2 : (fun x => !known || memS x xs) = kn) (hc : (lexAll (byteAt s) s.size).code = 0) :
    Calls Tryd.prog 13 #[.string s, .slice A0 n0 c0, .bool known, .func (.func 9) #[] #[]] w (fun e w' => ∃ (kd : Int) (Al : Option Addr) (nl cl : Nat) (Ar : Option Addr) (nr cr : Nat) (op : Int) (p q : ByteArray) (A : Option Addr) (n c : Nat), e = .returned (.tuple #[.agg #[.int .i64 kd, .slice Al nl cl, .slice Ar nr cr, .int .i64 op, .string p, .string q, .slice A n c], .agg #[.int .i64 (endL (hd ts (opos ts 0 (parsF kn .cond 60 (rd ts 0)))).kind (ocd (parsF kn .cond 60 (rd ts 0))) (hd ts (opos ts 0 (parsF kn .cond 60 (rd ts 0)))).line : Nat), .int .i64 (endL (hd ts (opos ts 0 (parsF kn .cond 60 (rd ts 0)))).kind (ocd (parsF kn .cond 60 (rd ts 0))) (hd ts (opos ts 0 (parsF kn .cond 60 (rd ts 0)))).col : Nat)], .int .i64 (endC (hd ts (opos ts 0 (parsF kn .cond 60 (rd ts 0)))).kind (ocd (parsF kn .cond 60 (rd ts 0))) : Nat)]) ∧
      (endC (hd ts (opos ts 0 (parsF kn .cond 60 (rd ts 0)))).kind (ocd (parsF kn .cond 60 (rd ts 0))) = 0 → TIn (From w.heap.size) w' (otree (parsF kn .cond 60 (rd ts 0))) [.int .i64 kd, .slice Al nl cl, .slice Ar nr cr, .int .i64 op, .string p, .string q, .slice A n c]) ∧ Below w.heap.size w w') := by
  subst h1 h2
  refine (whole_any s known A0 n0 c0 xs w hs hx hA hn htab).mono ?_
  intro e w' hp
  unfold WPost at hp
  rw [if_pos hc] at hp
  obtain ⟨i', e0, kd, Al, nl, cl, Ar, nr, cr, op, p, q, A, n, c, he, hb, hor⟩ := hp
  rcases hor with ⟨hc0, t, r1, ho, hr, hs, hT⟩ | ⟨hc0, r1, ho, hr, hs⟩
  · rw [ho]
    have e1 : opos (toksK s) 0 (Out.ok t r1) = i' := by show 0 + _ - r1.length = i'; omega
    subst hc0
    rw [e1]
    exact ⟨kd, Al, nl, cl, Ar, nr, cr, op, p, q, A, n, c, he, hT, hb⟩
  · rw [ho]
    have e1 : opos (toksK s) 0 (Out.err e0 r1 : Out Tr) = i' := by show 0 + _ - r1.length = i'; omega
    rw [e1]
    exact ⟨kd, Al, nl, cl, Ar, nr, cr, op, p, q, A, n, c, he, fun h => absurd h (by show ¬ endC _ e0 = 0; unfold endC; rw [if_neg hc0]; exact hc0), hb⟩
theorem whole_bad (s : ByteArray) (known : Bool) (A0 : Option Addr) (n0 c0 : Nat) (xs : List ByteArray) (w : World) (hs : s.size ≤ 2000) (hx : SIn w A0 n0 xs) (hA : A0 = none → n0 = 0 ∧ c0 = 0) (hn : n0 ≤ 1000) (htab : OpTab w) (hc : (lexAll (byteAt s) s.size).code ≠ 0) :
    Calls Tryd.prog 13 #[.string s, .slice A0 n0 c0, .bool known, .func (.func 9) #[] #[]] w (fun e w' => ∃ (kd : Int) (Al : Option Addr) (nl cl : Nat) (Ar : Option Addr) (nr cr : Nat) (op : Int) (p q : ByteArray) (A : Option Addr) (n c : Nat) (x y z : Nat), e = .returned (.tuple #[.agg #[.int .i64 kd, .slice Al nl cl, .slice Ar nr cr, .int .i64 op, .string p, .string q, .slice A n c], .agg #[.int .i64 x, .int .i64 y], .int .i64 z]) ∧ Below w.heap.size w w') := by
  refine (whole_any s known A0 n0 c0 xs w hs hx hA hn htab).mono ?_
  intro e w' hp
  unfold WPost at hp
  rw [if_neg hc] at hp
  obtain ⟨⟨x, y, z, he⟩, hb⟩ := hp
  exact ⟨0, none, 0, 0, none, 0, 0, 0, ⟨#[]⟩, ⟨#[]⟩, none, 0, 0, x, y, z, he, hb⟩
end Go.Proofs.YtneiajkcikcnnaaDoor
/- What lies behind a walk over ExprWalks: the tokens, the names, the operators' table. -/
namespace Go.Proofs.YtneiajkcikcnnaaDoor
open Go.RowKit
open Lx Ex

theorem i64_low4095 (n : Int) : bits .and .i64 n 4095 = n % 4096 := by
  have key : (BitVec.ofInt 64 n &&& BitVec.ofInt 64 4095).toNat = (n % ((2 ^ 64 : Nat) : Int)).toNat % 4096 := by
    rw [BitVec.toNat_and, BitVec.toNat_ofInt, show (BitVec.ofInt 64 4095).toNat = 2 ^ 12 - 1 by decide, Nat.and_two_pow_sub_one_eq_mod]
  show IntKind.i64.wrap ((BitVec.ofInt 64 n &&& BitVec.ofInt 64 4095).toNat : Nat) = _
  rw [key, IntKind.wrap_i64]
  omega
structure Bs (s : ByteArray) (w0 : World) (B : Nat) (A1 : Option Addr) (c1 : Nat) (A2 : Option Addr) (c2 nn : Nat) (A : Option Addr) (n c : Nat) (xs : List ByteArray) (W : World) : Prop where
  bel : Below w0.heap.size w0 W
  lo : w0.heap.size ≤ B
  hi : B ≤ W.heap.size
  len : (toksK s).length = nn
  k1 : KIn W A1 nn (toksK s)
  k2 : KIn W A2 nn (toksK s)
  sn : SIn W A n xs
  tab : OpTab W
  a1 : 0 < nn → ∀ a, A1 = some a → a.block < B
  a2 : 0 < nn → ∀ a, A2 = some a → a.block < B
  av : 0 < n → ∀ a, A = some a → a.block < B
  tb : 1 < B
  n1 : nn ≤ c1
  n2 : c1 ≤ 9223372036854775807
  n3 : nn ≤ c2
  n4 : c2 ≤ 9223372036854775807
  n5 : n ≤ c
  n6 : c ≤ 9223372036854775807
  n7 : s.size ≤ 2000
section
variable {s : ByteArray} {w0 : World} {B : Nat} {A1 : Option Addr} {c1 : Nat} {A2 : Option Addr} {c2 nn : Nat} {A : Option Addr} {n c : Nat} {xs : List ByteArray} {W W' : World}
theorem Bs.below (h : Bs s w0 B A1 c1 A2 c2 nn A n c xs W) (hb : Below W.heap.size W W') : Bs s w0 B A1 c1 A2 c2 nn A n c xs W' :=
  { h with bel := h.bel.next hb, hi := Nat.le_trans h.hi hb.size, k1 := h.k1.below hb, k2 := h.k2.below hb, sn := h.sn.below hb, tab := h.tab.below hb }
theorem Bs.only {g : Nat} (h : Bs s w0 B A1 c1 A2 c2 nn A n c xs W) (ho : Only g W W') (hg : B ≤ g) : Bs s w0 B A1 c1 A2 c2 nn A n c xs W' :=
  { h with
    bel := h.bel.trans ((K2.fst (q := g) ho).below (Nat.le_trans h.lo h.hi) (Nat.le_trans h.lo hg) (Nat.le_trans h.lo hg))
    hi := Nat.le_trans h.hi ho.size
    k1 := h.k1.only ho (fun h0 a e => by have := h.a1 h0 a e; omega)
    k2 := h.k2.only ho (fun h0 a e => by have := h.a2 h0 a e; omega)
    sn := h.sn.only ho (fun h0 a e => by have := h.av h0 a e; omega)
    tab := h.tab.only ho (by have := h.tb; omega) }
theorem Bs.few (h : Bs s w0 B A1 c1 A2 c2 nn A n c xs W) : nn ≤ 2001 := by
  have := toksK_len s
  have := h.len
  have := h.n7
  omega
theorem Bs.fits (h : Bs s w0 B A1 c1 A2 c2 nn A n c xs W) {i : Nat} (hi : i ≤ 4096) : i + (rd (toksK s) i).length ≤ 1099511627776 := by
  have h1 := h.few
  have h2 := h.len
  rw [rd_len]
  unfold view
  split
  · simp; omega
  · rw [List.length_drop]; omega
theorem Bs.cur (h : Bs s w0 B A1 c1 A2 c2 nn A n c xs W) {g i : Nat} {known : Bool} (hbox : Box 35 W g #[.slice A1 nn c1, .int .i64 (i : Int), .slice A n c, .bool known]) (hg : B ≤ g) (hf : i + (rd (toksK s) i).length ≤ 1099511627776) : Cur ⟨A1, nn, c1, toksK s, A, n, c, xs, known⟩ g W i :=
  ⟨hbox, h.k1, h.sn, ⟨toksK_ends s, fun h0 a e => by have := h.a1 h0 a e; omega, fun h0 a e => by have := h.av h0 a e; omega, h.n1, h.n2, h.n5, h.n6, by have := h.few; show nn ≤ 1000000; omega, fun t ht => by have := (toksK_mem ht).2.2; have := h.n7; omega, fun t ht => (toksK_mem ht).2.1, fun t ht => (toksK_mem ht).1⟩, hf⟩
theorem Bs.tp (h : Bs s w0 B A1 c1 A2 c2 nn A n c xs W) {i : Nat} {known : Bool} (hf : i + (rd (toksK s) i).length ≤ 1099511627776) : Tp ⟨A2, nn, c2, toksK s, A, n, c, xs, known⟩ W i :=
  ⟨h.k2, h.sn, ⟨toksK_ends s, h.n3, h.n4, h.n5, h.n6, by have := h.few; show nn ≤ 1000000; omega, fun t ht => by have := (toksK_mem ht).2.2; have := h.n7; omega, fun t ht => (toksK_mem ht).2.1, fun t ht => (toksK_mem ht).1⟩, hf⟩
end
theorem lex_norm (s : ByteArray) (W : World) (hs : s.size ≤ 2000) : Calls Tryd.prog 5 #[.string s] W (fun e w' => ∃ A c, e = .returned (.tuple #[.slice A (toksK s).length c, .agg #[.int .i64 ((resPos s (lexAll (byteAt s) s.size)).1 : Nat), .int .i64 ((resPos s (lexAll (byteAt s) s.size)).2 : Nat)], .int .i64 ((lexAll (byteAt s) s.size).code : Nat)]) ∧ Below W.heap.size W w' ∧ (toksK s).length ≤ c ∧ c ≤ 9223372036854775807 ∧ KIn w' A (toksK s).length (toksK s)) := by
  refine (all_any s W (by omega)).mono ?_
  rintro e w' ⟨v, rfl, hb, hl⟩
  have hl2 : LRow 60 4 w' W.heap.size v (toksK s).length (flatK (toksK s)) := by unfold toksK; rw [List.length_map]; exact hl
  obtain ⟨A, c, rfl, h1, h2, h3⟩ := hl2.kin
  exact ⟨A, c, rfl, hb, h1, h2, h3⟩
theorem rlex_norm (s : ByteArray) (W : World) (hs : s.size ≤ 2000) : Calls Tryd.prog 6 #[.string s] W (fun e w' => ∃ A c, e = .returned (.tuple #[.slice A (toksK s).length c, .agg #[.int .i64 ((resPos s (lexAll (byteAt s) s.size)).1 : Nat), .int .i64 ((resPos s (lexAll (byteAt s) s.size)).2 : Nat)], .int .i64 ((lexAll (byteAt s) s.size).code : Nat)]) ∧ Below W.heap.size W w' ∧ (toksK s).length ≤ c ∧ c ≤ 9223372036854775807 ∧ KIn w' A (toksK s).length (toksK s)) := by
  refine (rall_any s W (by omega)).mono ?_
  rintro e w' ⟨v, rfl, hb, hl⟩
  have hl2 : LRow 58 4 w' W.heap.size v (toksK s).length (flatK (toksK s)) := by unfold toksK; rw [List.length_map]; exact hl
  obtain ⟨A, c, rfl, h1, h2, h3⟩ := hl2.kin
  exact ⟨A, c, rfl, hb, h1, h2, h3⟩
end Go.Proofs.YtneiajkcikcnnaaDoor
/- A region in which one call alone writes one block; what End's walk wants besides. -/
namespace Go.Proofs.YtneiajkcikcnnaaDoor
open Go.RowKit
open Lx Ex

/-- Operation app alone writes block g; until then C holds. -/
structure GO (app g : Nat) (V0 : World) (C : World → Prop) (listed : Array Bool) (_σ : Nat → Value) (w : World) : Prop where
  o : Only g V0 w
  c : listed.getD app false = false → C w
  big : app < listed.size
section
variable {app g i n : Nat} {V0 w w' : World} {C : World → Prop} {listed : Array Bool} {σ τ : Nat → Value}
theorem GO.start (h : Only g V0 w) (hc : C w) (hn : app < n) : GO app g V0 C (Array.replicate n false) σ w := ⟨h, fun _ => hc, by simpa using hn⟩
theorem GO.same (h : GO app g V0 C listed σ w) (hi : i ≠ app) : GO app g V0 C (listed.setIfInBounds i true) τ w :=
  ⟨h.o, fun hl => h.c (by rw [getD_set_ne false hi] at hl; exact hl), by simpa using h.big⟩
theorem GO.call (h : GO app g V0 C listed σ w) (hi : i ≠ app) (hb : Below w.heap.size w w') (hC : C w → C w') : GO app g V0 C (listed.setIfInBounds i true) τ w' :=
  ⟨h.o.next hb, fun hl => hC (h.c (by rw [getD_set_ne false hi] at hl; exact hl)), by simpa using h.big⟩
theorem GO.want (h : GO app g V0 C listed σ w) (ho : Only g w w') : GO app g V0 C (listed.setIfInBounds app true) τ w' :=
  ⟨h.o.trans ho, fun hl => by have := h.big; simp [Array.getD, this] at hl, by simpa using h.big⟩
end
def wantC (b : Bool) : Int := if b = true then 0 else 101
theorem wantC_eq (b : Bool) : (wantC b == 0) = b := by cases b <;> rfl
theorem field_ktext (a b c d : Value) (w : World) : (Instr.field 60 (.agg #[a, b, c, d]) 1).run Tryd.prog w = .ok b w := by kernel_rfl
theorem field_kkind (a b c d : Value) (w : World) : (Instr.field 60 (.agg #[a, b, c, d]) 0).run Tryd.prog w = .ok a w := by kernel_rfl
theorem want_norm (D : CD) (g i : Nat) (s : ByteArray) (r : List PT) (hr : rd D.ts i = r) (W : World) (h : Cur D g W i) : Calls Tryd.prog 17 #[.pointer (some ⟨g, 0, none⟩), .string s] W (fun e w' => e = .returned (.int .i64 (wantC (isT s r))) ∧ Only g W w') := by
  have := want_any D g i s W h
  unfold WantPost at this
  rw [hr] at this
  refine this.mono ?_
  rintro e w' ⟨he, hw⟩
  exact ⟨he, hw.1⟩
theorem is_norm (D : CD) (i : Nat) (s : ByteArray) (r : List PT) (hr : rd D.ts i = r) (W : World) (h : Tp D W i) : Calls Tryd.prog 18 #[.agg #[.slice D.A D.n D.c, .int .i64 (i : Int), .slice D.V D.m D.d, .bool D.known], .string s] W (fun e w' => e = .returned (.bool (isT s r)) ∧ Below W.heap.size W w') := by
  have := is11_any D i s W h
  rw [hr] at this
  exact this
end Go.Proofs.YtneiajkcikcnnaaDoor
