/- Texts of one seat, put together: RefGcd GcdZ TContent TwoRes TShrink. -/
import Derived.Test.YtdeakieenppmiaaGreatDoorC28
import Derived.Test.YtdeakieenppmiaaGreatDoorC10
import Derived.Test.YtdeakieenppmiaaGreatDoorC29
import Derived.Test.YtdeakieenppmiaaGreatDoorC25
import Derived.Test.YtdeakieenppmiaaGreatDoorC26
import Derived.Test.YtdeakieenppmiaaGreatDoorC24
import Derived.Test.YtdeakieenppmiaaGreatDoorC21
import Derived.Test.YtdeakieenppmiaaGreatDoorC27
set_option linter.unusedVariables false
set_option linter.unusedSimpArgs false
set_option maxRecDepth 100000
set_option maxHeartbeats 16000000
/- plumblineref01.Gcd. -/
namespace Go.Proofs.YtdeakieenppmiaaGreatDoor
open Go.RowKit

theorem rgcd_any (A B : Option Addr) (n c m d : Nat) (xs ys : List Nat) (w : World) (hx : Nums w A n xs) (hn : n ≤ 1099511626) (hy : Nums w B m ys) (hm : m ≤ 1099511626) :
  Calls Tryz.prog 122 #[.slice A n c, .slice B m d] w (RefPost (Nat.gcd (Limb.val xs) (Limb.val ys)) w) := by
 have hxl := hide hx.lt
 have hyl := hide hy.lt
 generalize hN : Limb.val xs = N at *
 generalize hM : Limb.val ys = M at *
 have HN := hide hN
 have HM := hide hM
 clear hN hM
 go_enter Tryz.func122, Tryz.ntmps122
 go_wp2_with fail
 refine (rtrim_any A n c xs w hx (by omega)).mono ?_
 rintro e w1 ⟨A1, n1, c1, rfl, o1, l1, m1, b1⟩
 rw [HN.out] at o1
 have ln1 : n1 ≤ n := short_canon o1 hxl.out
 go_wp2_with fail
 refine (rtrim_any B m d ys w1 (hy.below b1) (by omega)).mono ?_
 rintro e w2 ⟨A2, n2, c2, rfl, o2, l2, m2, b2⟩
 rw [HM.out] at o2
 have ln2 : n2 ≤ m := short_canon o2 hyl.out
 have t2 := b1.next b2
 have o1a := o1.below b2
 clear o1 b1 b2 hxl hyl HN HM hx hy
 go_wp2_with fail
 generalize M = k0 at *
 go_loopg [5, 6] k0 (fun k va vb wr => ∃ X P p pc Q q qc, va = .slice P p pc ∧ vb = .slice Q q qc ∧ Nums wr P p (Limb.canon X) ∧ Nums wr Q q (Limb.canon k) ∧ p ≤ pc ∧ pc ≤ 9223372036854775807 ∧ q ≤ qc ∧ qc ≤ 9223372036854775807 ∧ p ≤ 1099511626 ∧ q ≤ 1099511626 ∧ Below w.heap.size w wr ∧ Hid (Nat.gcd X k = Nat.gcd N k0))
 case atStart => exact ⟨N, A1, n1, c1, A2, n2, c2, rfl, rfl, o1a, o2, l1, m1, l2, m2, by omega, by omega, t2, rfl⟩
 case round =>
  clear o1a o2 t2 l1 m1 l2 m2 ln1 ln2
  obtain ⟨X, P, p, pc, Q, q, qc, rfl, rfl, oP, oQ, lp, mp, lq, mq, hp, hq, tr, HG⟩ := hrel
  have hql := hide oQ.len
  rcases Nat.eq_zero_or_pos q with hq0 | hq0
  · subst hq0
    have hk0 : gk = 0 := (Limb.canon_len_zero _).1 hql.out
    subst hk0
    have hgx : Hid (X = Nat.gcd N k0) := by show _ = _; rw [← HG.out, Nat.gcd_zero_right]
    go_wp2_with fail
    go_ret
    rw [hgx.out] at oP
    exact ⟨P, p, pc, rfl, oP, lp, mp, tr⟩
  · have hk : gk ≠ 0 := fun h0 => by
     have := hql.out
     rw [h0, Limb.canon_zero] at this
     simp at this
     omega
    have hml := Nat.mod_lt X (Nat.pos_of_ne_zero hk)
    have HK := hide hk
    clear hk
    go_wp2_with fail
    refine (rdiv_yes P Q p pc q qc _ _ wr oP (by omega) oQ (by omega) (by rw [Limb.val_canon]; exact HK.out)).mono ?_
    rintro e w3 ⟨A3, n3, c3, A4, n4, c4, rfl, o3, l3, m3, o4, l4, m4, b3⟩
    rw [Limb.val_canon, Limb.val_canon] at o4
    have ln4 : n4 ≤ q := by rw [← o4.len, ← hql.out]; exact Limb.canon_len_mono (Nat.le_of_lt hml)
    go_wp2_with fail
    go_roundg (X % gk)
    case rel => exact ⟨gk, Q, q, qc, A4, n4, c4, rfl, rfl, oQ.below b3, o4, lq, mq, l4, m4, by omega, by omega, tr.next b3, by show _ = _; rw [← HG.out, Nat.gcd_comm gk, ← Nat.gcd_rec, Nat.gcd_comm]⟩
    case measure => exact hml

end Go.Proofs.YtdeakieenppmiaaGreatDoor
/- zint.Gcd, plumblineref02.Gcd. -/
namespace Go.Proofs.YtdeakieenppmiaaGreatDoor
open Go.RowKit

def gcdZ (Z Y : Int) : Int := (Nat.gcd Z.natAbs Y.natAbs : Nat)
theorem gcdN_lt {a b K : Nat} (ha : a < K) (hb : b < K) : Nat.gcd a b < K := by
 rcases Nat.eq_zero_or_pos a with h | h
 · subst h; rw [Nat.gcd_zero_left]; exact hb
 · exact Nat.lt_of_le_of_lt (Nat.le_of_dvd h (Nat.gcd_dvd_left a b)) ha
theorem gcd_z (v u : Value) (Z Y : Int) (k : Nat) (w : World) (hv : ZIn w v Z k) (hu : ZIn w u Y k) (hk : k ≤ 68719476736) : Calls Tryz.prog 114 #[v, u] w (ZPost (gcdZ Z Y) k w) := by
 have hlt := hide (gcdN_lt hv.lt hu.lt)
 obtain ⟨s, A, n, c, xs, rfl, hx, hc, hm, hn, hZ⟩ := hv
 obtain ⟨t, B, m, d, ys, rfl, hy, hd, hmd, hmk, hY⟩ := hu
 obtain ⟨x0, y0, r0, z2, -⟩ := zstart3 w #[.bool s, .slice A n c] #[.bool t, .slice B m d] #[.bool false, .slice none 0 0]
 have hg := gcd_any A B n c m d xs ys _ (hx.below z2) hc hm (by omega) (hy.below z2) hd hmd (by omega)
 rw [ZIn.abs hZ, ZIn.abs hY] at hg
 have HG := hide (show gcdZ Z Y = sg false (Nat.gcd Z.natAbs Y.natAbs) from rfl)
 clear hx hy hZ hY
 generalize Nat.gcd Z.natAbs Y.natAbs = G at *
 go_enter Tryz.func114, Tryz.ntmps114
 go_wp2_with fail
 refine hg.mono ?_
 rintro e w1 ⟨A1, n1, rfl, o1, b1⟩
 have l1 := own_c o1
 have k1 := r0.next b1
 have t1 := z2.next b1
 clear hg
 go_wp2_with fail
 refine (signed_any false A1 n1 n1 G w1 o1.len (by omega)).mono ?_
 rintro e w2 ⟨rfl, b2⟩
 have k2 := k1.next b2
 have r2 := (zres_own (s := false) o1 hlt.out).below b2
 go_wp2_with (with_reducible refine wpList_store_z rfl _ _ rfl (w.heap.size + 1 + 1) _ _ _ _ rfl rfl _ _ k2 ?_; intro w3 k3 ho3)
 refine bodyPost_z rfl rfl k3 rfl ?_
 exact ⟨_, rfl, (r2.only k2 ho3).ofEq HG.out.symm, zback (t1.next b2) (by omega) ho3⟩
theorem rgcd_z (v u : Value) (Z Y : Int) (k : Nat) (w : World) (hv : ZIn w v Z k) (hu : ZIn w u Y k) (hk : k ≤ 1099511626) : Calls Tryz.prog 80 #[v, u] w (ZPost (gcdZ Z Y) k w) := by
 have hlt := hide (gcdN_lt hv.lt hu.lt)
 obtain ⟨s, A, n, c, xs, rfl, hx, hc, hm, hn, hZ⟩ := hv
 obtain ⟨t, B, m, d, ys, rfl, hy, hd, hmd, hmk, hY⟩ := hu
 obtain ⟨x0, y0, r0, z2, -⟩ := zstart3 w #[.bool s, .slice A n c] #[.bool t, .slice B m d] #[.bool false, .slice none 0 0]
 have hg := rgcd_any A B n c m d xs ys _ (hx.below z2) (by omega) (hy.below z2) (by omega)
 rw [ZIn.abs hZ, ZIn.abs hY] at hg
 have HG := hide (show gcdZ Z Y = sg false (Nat.gcd Z.natAbs Y.natAbs) from rfl)
 clear hx hy hZ hY
 generalize Nat.gcd Z.natAbs Y.natAbs = G at *
 go_enter Tryz.func80, Tryz.ntmps80
 go_wp2_with fail
 refine hg.mono ?_
 rintro e w1 ⟨A1, n1, c1, rfl, o1, l1, m1, b1⟩
 have k1 := r0.next b1
 have t1 := z2.next b1
 clear hg
 go_wp2_with fail
 refine (rfrom_any false A1 n1 c1 k _ w1 o1 (short_canon o1 hlt.out) (by omega)).mono ?_
 rintro e w2 ⟨v2, rfl, r2, b2⟩
 rw [Limb.val_canon] at r2
 obtain ⟨s2, A2, n2, c2, rfl⟩ := r2.form
 have k2 := k1.next b2
 go_wp2_with (with_reducible refine wpList_store_z rfl _ _ rfl (w.heap.size + 1 + 1) _ _ _ _ rfl rfl _ _ k2 ?_; intro w3 k3 ho3)
 refine bodyPost_z rfl rfl k3 rfl ?_
 exact ⟨_, rfl, (r2.only k2 ho3).ofEq HG.out.symm, zback (t1.next b2) (by omega) ho3⟩

def lcmZ (Z Y : Int) : Int := if Z = 0 ∨ Y = 0 then 0 else ((Z.natAbs / Nat.gcd Z.natAbs Y.natAbs * Y.natAbs : Nat) : Int)
end Go.Proofs.YtdeakieenppmiaaGreatDoor
/- term.Content. -/
namespace Go.Proofs.YtdeakieenppmiaaGreatDoor
open Go.RowKit
open Tm

def ContRel (g : Nat) (W1 : World) (L : List (Int × Int)) (k q : Nat) (wr : World) : Prop :=
 ∃ s A n c, Blk wr g #[.bool s, .slice A n c] ∧ ZRes wr (.agg #[.bool s, .slice A n c]) (gcdL 0 (L.take q) : Nat) k ∧ Only g W1 wr
theorem tcontent_any (v : Value) (L : List (Int × Int)) (K : Int) (k : Nat) (w0 : World) (hv : TIn w0 v L K k) (hl : L.length ≤ 1099511) (hk : k ≤ 1099511627) : Calls Tryz.prog 70 #[v] w0 (ZPost (content L) (k + L.length) w0) := by
 obtain ⟨A, n, c, s, B, m, d, rfl, hp, hc1, hc2, -⟩ := hv
 have hn := hp.len
 obtain ⟨z0, z1, z2, z3, z4⟩ := bstart3 28 26 26 w0 #[.slice A n c, .bool s, .slice B m d] #[.bool false, .slice none 0 0] #[.bool false, .slice none 0 0]
 have hpl := plain_any A n c L k _ (hp.below z3) hc1 hc2 (by omega) hk
 have x0 := z0.c0
 have HNL := hide (norm_length L)
 rw [hn] at hl
 have HN := hide hn
 clear hn
 go_enter Tryz.func70, Tryz.ntmps70
 go_wp2_with fail
 refine hpl.mono ?_
 rintro e W1 ⟨A1, n1, c1, rfl, p1, h11, h12, b1⟩
 have HT1 := hide (z3.next b1)
 have hW1 : w0.heap.size + 1 + 1 + 1 ≤ W1.heap.size := by have := b1.size; omega
 have hn1 : n1 ≤ 1099511 := by have := p1.len; have := HNL.out; have := HN.out; omega
 have HP1 := hide p1
 have HR1 := hide (z1.next b1)
 have HG := hide (z2.next b1)
 have HS := hide (show ContRel (w0.heap.size + 1 + 1) W1 (norm L) (k + n) 0 W1 from ⟨false, none, 0, 0, z2.next b1, ZRes.zero _ _, Only.refl _ _⟩)
 clear x0 hpl z0 z1 z2 z3 z4 b1 p1 hp
 go_wp2_with fail
 go_loopw [10] (fun i wr => ∃ q : Nat, q ≤ n1 ∧ i = .int .i64 q ∧ Hid (ContRel (w0.heap.size + 1 + 1) W1 (norm L) (k + n) q wr)) (fun i _ => n1 - (intOf i).toNat)
 case atStart => exact ⟨0, Nat.zero_le _, rfl, HS⟩
 case round =>
  obtain ⟨q, hq, rfl, HR⟩ := hrel
  obtain ⟨s5, A5, n5, c5, b5, zz5, hB⟩ := HR.out
  by_cases hqn : q < n1
  · obtain ⟨bb, o, p, rfl, hlt, hLp, c0, c1x, c2, hz⟩ := (HP1.out.onlyInt HG.out hB).at_ hqn
    obtain ⟨y0, y1, -⟩ := bstart1 60 wr #[.int .i64 p.v, .bool p.s, .slice p.B p.m p.d]
    have k1 := b5.next y1
    have hA := gcd_z (.agg #[.bool s5, .slice A5 n5 c5]) (.agg #[.bool p.s, .slice p.B p.m p.d]) (gcdL 0 ((norm L).take q) : Nat) p.Z (k + n) _ (zz5.in_.below y1) (hz.below y1) (by omega)
    have HC := hide (show gcdZ (gcdL 0 ((norm L).take q) : Nat) p.Z = (gcdL 0 ((norm L).take (q + 1)) : Nat) by unfold gcdZ; rw [gcdL_take_succ 0 _ q _ _ hLp, Int.natAbs_natCast])
    have b50 := k1.c0
    have b51 := k1.c1
    have HB1 := hide (hB.next y1)
    have HK1 := hide k1
    clear zz5 hLp HR hz b5 hB y0 y1 k1
    generalize gcdL 0 ((norm L).take q) = Y at *
    go_wp2_with fail
    refine hA.mono ?_
    rintro e w2 ⟨v2, rfl, r2, b2⟩
    obtain ⟨s2, A2, n2, c2', rfl⟩ := r2.form
    have k2 := HK1.out.next b2
    go_wp2_with (with_reducible refine wpList_store_z rfl _ _ rfl (w0.heap.size + 1 + 1) _ _ _ _ rfl rfl _ _ k2 ?_; intro w3 k3 ho3)
    have HE := hide (show ContRel (w0.heap.size + 1 + 1) W1 (norm L) (k + n) (q + 1) w3 from ⟨s2, A2, n2, c2', k3, by rw [← HC.out]; exact r2.only k2 ho3, (HB1.out.next b2).trans ho3⟩)
    go_roundw
    case rel => exact ⟨q + 1, by omega, by go_num, HE⟩
    case measure => simp [intOf] <;> omega
  · obtain rfl : q = n1 := by omega
    have HL := hide (show ((gcdL 0 ((norm L).take q) : Nat) : Int) = content L by unfold content; rw [List.take_of_length_le (by rw [HP1.out.len]; exact Nat.le_refl _)])
    have b50 := b5.c0
    have b51 := b5.c1
    have k1 : Blk wr (w0.heap.size + 1) #[.bool false, .slice none 0 0] := Box.other HR1.out hB (by omega)
    have HZ5 := hide zz5
    have HT := hide (show Below w0.heap.size w0 wr from HT1.out.trans (hB.below (by omega) (by omega)))
    clear zz5 b5 HR hB
    go_wp2_with (with_reducible refine wpList_store_z rfl _ _ rfl (w0.heap.size + 1) _ _ _ _ rfl rfl _ _ k1 ?_; intro w3 k3 ho3)
    refine bodyPost_z rfl rfl k3 rfl ?_
    refine ⟨_, rfl, ?_, zback HT.out (by omega) ho3⟩
    rw [HN.out, ← HL.out]
    exact HZ5.out.only k1 ho3
end Go.Proofs.YtdeakieenppmiaaGreatDoor
/- Regions by facts (4): two results that are structs, stored into their own boxes (a term and a number) in whatever order. -/
namespace Go.Proofs.YtdeakieenppmiaaGreatDoor
open Go.RowKit

/-- Numbers and parts are what they were; all blocks but two are. -/
structure KT (r q : Nat) (w w' : World) : Prop where
 kp : Kp w w'
 parts : ∀ A n ps k, PartsIn w A n ps k → PartsIn w' A n ps k
 os : w'.os = w.os
 tape : w'.tape = w.tape
 output : w'.output = w.output
 size : w.heap.size ≤ w'.heap.size
 block : ∀ b, b < w.heap.size → b ≠ r → b ≠ q → w'.heap[b]? = w.heap[b]?
theorem KT.refl (r q : Nat) (w : World) : KT r q w w := ⟨Kp.refl w, fun _ _ _ _ h => h, rfl, rfl, rfl, Nat.le_refl _, fun _ _ _ _ => rfl⟩
theorem KT.trans {r q : Nat} {a b c : World} (h : KT r q a b) (k : KT r q b c) : KT r q a c :=
 ⟨h.kp.trans k.kp, fun _ _ _ _ x => k.parts _ _ _ _ (h.parts _ _ _ _ x), k.os.trans h.os, k.tape.trans h.tape, k.output.trans h.output, Nat.le_trans h.size k.size, fun i hi h1 h2 => (k.block i (Nat.lt_of_lt_of_le hi h.size) h1 h2).trans (h.block i hi h1 h2)⟩
theorem KT.of_below {r q : Nat} {w w' : World} (h : Below w.heap.size w w') : KT r q w w' :=
 ⟨Kp.of_below h, fun _ _ _ _ x => x.below h, h.os, h.tape, h.output, h.size, fun i hi _ _ => h.block i hi⟩
theorem KT.term {r q m c d : Nat} {B C : Option Addr} {s : Bool} {n : Nat} {w w' : World} (hb : Box 28 w r #[.slice B m c, .bool s, .slice C n d]) (ho : Only r w w') : KT r q w w' :=
 ⟨hb.kp (nlT _ _ _ _ _ _ _) ho, fun _ _ _ _ x => x.keep ho (hb.kp (nlT _ _ _ _ _ _ _) ho) (x.offTerm hb (fun i h => by cases h) (fun i h => by cases h) (fun i h => by cases h)), ho.gb.os, ho.gb.tape, ho.gb.output, ho.gb.size, fun i hi h1 _ => ho.gb.block i hi (fun e => h1 (by injection e))⟩
theorem KT.num {r q m d : Nat} {B : Option Addr} {s : Bool} {w w' : World} (hb : Blk w q #[.bool s, .slice B m d]) (ho : Only q w w') : KT r q w w' :=
 ⟨hb.kpI ho, fun A n ps k x => x.keep ho (hb.kpI ho) (PIn.offInt (L := lin ps) ⟨ps, x, rfl⟩ hb), ho.gb.os, ho.gb.tape, ho.gb.output, ho.gb.size, fun i hi _ h2 => ho.gb.block i hi (fun e => h2 (by injection e))⟩
theorem KT.below {r q B : Nat} {w w' : World} (h : KT r q w w') (hB : B ≤ w.heap.size) (hr : B ≤ r) (hq : B ≤ q) : Below B w w' :=
 ⟨h.os, h.tape, h.output, h.size, fun b hb => h.block b (by omega) (by omega) (by omega)⟩
theorem KT.box {r q g : Nat} {T : TypeId} {cs : Array Value} {w w' : World} (h : KT r q w w') (hb : Box T w g cs) (hr : g ≠ r) (hq : g ≠ q) : Box T w' g cs := (h.block g hb.lt hr hq).trans hb
theorem TRes.kt {r q : Nat} {w w' : World} {v : Value} {L : List (Int × Int)} {K : Int} {k : Nat} (h : TRes w v L K k) (t : KT r q w w') : TRes w' v L K k := by
 obtain ⟨A, n, c, s, B, m, d, e, ⟨ps, h1, h2, h3⟩, h4, h5, h6⟩ := h
 exact ⟨A, n, c, s, B, m, d, e, ⟨ps, t.parts _ _ _ _ h1, h2, fun p hp => (h3 p hp).kp t.kp⟩, h4, h5, h6.kp t.kp⟩
theorem TIn.kt {r q : Nat} {w w' : World} {v : Value} {L : List (Int × Int)} {K : Int} {k : Nat} (h : TIn w v L K k) (t : KT r q w w') : TIn w' v L K k := by
 obtain ⟨A, n, c, s, B, m, d, e, ⟨ps, h1, h2⟩, h4, h5, h6⟩ := h
 exact ⟨A, n, c, s, B, m, d, e, ⟨ps, t.parts _ _ _ _ h1, h2⟩, h4, h5, h6.kp t.kp⟩
/-- What has come up of the two stores: operation s1 into r, s2 into q. -/
def G2 (W0 : World) (r s1 : Nat) (F1 : Value → World → Prop) (q s2 : Nat) (F2 : Value → World → Prop) (listed : Array Bool) (_σ : Nat → Value) (w : World) : Prop :=
 KT r q W0 w ∧ (∃ A n c s B m d, Box 28 w r #[.slice A n c, .bool s, .slice B m d] ∧ (listed.getD s1 false = true → F1 (.agg #[.slice A n c, .bool s, .slice B m d]) w)) ∧
  (∃ s B m d, Blk w q #[.bool s, .slice B m d] ∧ (listed.getD s2 false = true → F2 (.agg #[.bool s, .slice B m d]) w))
section
variable {W0 w w' : World} {r s1 q s2 : Nat} {F1 F2 : Value → World → Prop} {listed : Array Bool} {σ τ : Nat → Value}
theorem G2.start {n : Nat} {A B C : Option Addr} {l c m d m' d' : Nat} {s s' : Bool} (h1 : Box 28 w r #[.slice A l c, .bool s, .slice B m d]) (h2 : Blk w q #[.bool s', .slice C m' d']) (hb : Below W0.heap.size W0 w) : G2 W0 r s1 F1 q s2 F2 (Array.replicate n false) σ w :=
 ⟨KT.of_below hb, ⟨_, _, _, _, _, _, _, h1, fun h => by rw [rep_false] at h; cases h⟩, ⟨_, _, _, _, h2, fun h => by rw [rep_false] at h; cases h⟩⟩
theorem G2.next {i : Nat} (h : G2 W0 r s1 F1 q s2 F2 listed σ w) (hb : Below w.heap.size w w') (h1 : i ≠ s1) (h2 : i ≠ s2) (m1 : ∀ v w w', KT r q w w' → F1 v w → F1 v w') (m2 : ∀ v w w', KT r q w w' → F2 v w → F2 v w') : G2 W0 r s1 F1 q s2 F2 (listed.setIfInBounds i true) τ w' := by
 obtain ⟨h0, ⟨A, n, c, s, B, m, d, a1, a2⟩, ⟨s', B', m', d', b1, b2⟩⟩ := h
 refine ⟨h0.trans (KT.of_below hb), ⟨A, n, c, s, B, m, d, a1.next hb, fun hl => ?_⟩, ⟨s', B', m', d', b1.next hb, fun hl => ?_⟩⟩
 · rw [getD_set_ne false h1] at hl; exact m1 _ _ _ (KT.of_below hb) (a2 hl)
 · rw [getD_set_ne false h2] at hl; exact m2 _ _ _ (KT.of_below hb) (b2 hl)
theorem G2.st1 {A B : Option Addr} {n c m d : Nat} {s : Bool} (h : G2 W0 r s1 F1 q s2 F2 listed σ w) (hrq : r ≠ q) (h12 : s1 ≠ s2) (x : Box 28 w' r #[.slice A n c, .bool s, .slice B m d]) (ho : Only r w w') (hf : F1 (.agg #[.slice A n c, .bool s, .slice B m d]) w) (m1 : ∀ v w w', KT r q w w' → F1 v w → F1 v w') (m2 : ∀ v w w', KT r q w w' → F2 v w → F2 v w') :
  KT r q w w' ∧ G2 W0 r s1 F1 q s2 F2 (listed.setIfInBounds s1 true) τ w' := by
 obtain ⟨h0, ⟨A0, n0, c0, s0, B0, m0, d0, a1, -⟩, ⟨s', B', m', d', b1, b2⟩⟩ := h
 have t : KT r q w w' := KT.term a1 ho
 refine ⟨t, h0.trans t, ⟨_, _, _, _, _, _, _, x, fun _ => m1 _ _ _ t hf⟩, ⟨s', B', m', d', Box.other b1 ho (Ne.symm hrq), fun hl => ?_⟩⟩
 rw [getD_set_ne false h12] at hl; exact m2 _ _ _ t (b2 hl)
theorem G2.st2 {B : Option Addr} {m d : Nat} {s : Bool} (h : G2 W0 r s1 F1 q s2 F2 listed σ w) (hrq : r ≠ q) (h12 : s1 ≠ s2) (x : Blk w' q #[.bool s, .slice B m d]) (ho : Only q w w') (hf : F2 (.agg #[.bool s, .slice B m d]) w) (m1 : ∀ v w w', KT r q w w' → F1 v w → F1 v w') (m2 : ∀ v w w', KT r q w w' → F2 v w → F2 v w') :
  KT r q w w' ∧ G2 W0 r s1 F1 q s2 F2 (listed.setIfInBounds s2 true) τ w' := by
 obtain ⟨h0, ⟨A0, n0, c0, s0, B0, m0, d0, a1, a2⟩, ⟨s', B', m', d', b1, -⟩⟩ := h
 have t : KT r q w w' := KT.num b1 ho
 refine ⟨t, h0.trans t, ⟨_, _, _, _, _, _, _, Box.other a1 ho hrq, fun hl => ?_⟩, ⟨_, _, _, _, x, fun _ => m2 _ _ _ t hf⟩⟩
 rw [getD_set_ne false (Ne.symm h12)] at hl; exact m1 _ _ _ t (a2 hl)
end
end Go.Proofs.YtdeakieenppmiaaGreatDoor
/- term.Shrink. -/
namespace Go.Proofs.YtdeakieenppmiaaGreatDoor
open Go.RowKit
open Tm

theorem shrink1_any (v u : Value) (G Z : Int) (g j k : Nat) (w : World) (hb : ∃ s A n c, v = .agg #[.bool s, .slice A n c] ∧ Blk w g #[.bool s, .slice A n c]) (hv : ZIn w v G j) (hG : G ≠ 0) (hu : ZIn w u Z k) (hk : k ≤ 68719476736) (hj : j ≤ 68719476736) :
  Calls Tryz.prog 72 #[u, .pointer (some ⟨g, 0, none⟩)] w (ZPost (Z.fdiv G) k w) := by
 obtain ⟨s, A, n, c, rfl, hb⟩ := hb
 have hu0 := hu
 obtain ⟨t, B, m, d, ys, rfl, -⟩ := hu
 obtain ⟨z0, z1, z2, -⟩ := zstart2 w #[.bool t, .slice B m d] #[.bool false, .slice none 0 0]
 have hf := zdiv_yes _ _ Z G k j _ (hu0.below z2) (hv.below z2) hG hk hj
 have q := hb.next z2
 have c0 := z0.c0
 have c1 := z0.c1
 have d0 := q.c0
 have d1 := q.c1
 clear hG
 go_enter Tryz.func72, Tryz.ntmps72
 go_wp2_with fail
 refine hf.mono ?_
 rintro e w1 ⟨u1, v1, rfl, r1, r2, b1⟩
 obtain ⟨s1, A1, n1, c1', rfl⟩ := r1.form
 obtain ⟨s2, A2, n2, c2', rfl⟩ := r2.form
 have k1 := z1.next b1
 have y1 := bl_alloc w1 (.cells #[.bool s1, .slice A1 n1 c1'] 26)
 have y2 := bl_alloc (w1.alloc (.cells #[.bool s1, .slice A1 n1 c1'] 26)) (.cells #[.bool s2, .slice A2 n2 c2'] 26)
 have k2 := (k1.next y1).next y2
 have r3 := (r1.below y1).below y2
 have HT := hide (((z2.next b1).next y1).next y2)
 clear y1 y2 c0 c1 d0 d1 k1 r1 r2
 go_wp2_with (with_reducible refine wpList_store_z rfl _ _ rfl (w.heap.size + 1) _ _ _ _ rfl rfl _ _ k2 ?_; intro w3 k3 ho3)
 refine bodyPost_z rfl rfl k3 rfl ?_
 exact ⟨_, rfl, r3.only k2 ho3, zback HT.out (by omega) ho3⟩
theorem enters_shrink1 : ∀ args w, (callFunc 72 args).run Tryz.prog w = .ok (.enter 72 args) w := enters_of Tryz.func72 (by kernel_rfl) rfl
def shrK (L : List (Int × Int)) (K : Int) : Int := if content L = 0 then K else K.fdiv (content L)
def ShrPost (L : List (Int × Int)) (K : Int) (k : Nat) (w : World) (e : Ending) (w' : World) : Prop := ∃ v u, e = .returned (.tuple #[v, u]) ∧ TRes w' v (quot (content L) (norm L)) (shrK L K) k ∧ ZRes w' u (content L) k ∧ Below w.heap.size w w'
theorem results_tz {fn : Func} {p q : Tmp} (h : fn.results = #[.cell p 28, .cell q 26]) (tmps : Array Value) (w : World) (g k : Nat) (x y z x' y' : Value)
  (hp : tmps.getD p undef = .pointer (some ⟨g, 0, none⟩)) (hq : tmps.getD q undef = .pointer (some ⟨k, 0, none⟩)) (hg : Box 28 w g #[x, y, z]) (hk : Blk w k #[x', y']) :
  (results fn tmps).run Tryz.prog w = .ok (.tuple #[.agg #[x, y, z], .agg #[x', y']]) w := by
 have hp' : tmps[p]?.getD undef = .pointer (some ⟨g, 0, none⟩) := by simpa using hp
 have hq' : tmps[q]?.getD undef = .pointer (some ⟨k, 0, none⟩) := by simpa using hq
 simp [results, h, hp', hq', asAddr, run_loadVar_row w g 28 28 #[x, y, z] (0, 0) _ hg Tryz.underlying28 rfl (by kernel_rfl), run_loadVar_row w k 26 26 #[x', y'] (0, 0) _ hk Tryz.underlying26 rfl (by kernel_rfl)]
theorem bodyPost_tz {fn : Func} {R : Ending → World → Prop} {a : Act} {w : World} {g k p q : Nat} {x y z x' y' : Value} (hres : fn.results = #[.cell p 28, .cell q 26]) (hp : a.tmps.getD p undef = .pointer (some ⟨g, 0, none⟩)) (hq : a.tmps.getD q undef = .pointer (some ⟨k, 0, none⟩))
  (hb : Box 28 w g #[x, y, z]) (hk : Blk w k #[x', y']) (hd : a.defers = []) (hR : R (.returned (.tuple #[.agg #[x, y, z], .agg #[x', y']])) w) : bodyPost Tryz.prog fn R .ret a w :=
 bodyPost_ret (by rw [results_tz hres _ _ g k x y z x' y' hp hq hb hk]) hd hR
theorem tshrink_any (v : Value) (L : List (Int × Int)) (K : Int) (k : Nat) (w0 : World) (hv : TIn w0 v L K k) (hl : L.length ≤ 1099511) (hk : k ≤ 1099511627) : Calls Tryz.prog 34 #[v] w0 (ShrPost L K (k + L.length) w0) := by
 have hv0 := hv
 obtain ⟨A, n, c, s, B, m, d, rfl, -⟩ := hv
 obtain ⟨z0, z1, z2, z3, z4⟩ := bstart3 28 28 26 w0 #[.slice A n c, .bool s, .slice B m d] #[.slice none 0 0, .bool false, .slice none 0 0] #[.bool false, .slice none 0 0]
 have hct := tcontent_any _ L K k _ (hv0.below z3) hl hk
 have x0 := z0.c0
 have x1 := z0.c1
 have x2 := z0.c2
 go_enter Tryz.func34, Tryz.ntmps34
 go_wp2_with fail
 refine hct.mono ?_
 rintro e w1 ⟨v1, rfl, r1, b1⟩
 obtain ⟨s1, A1, n1, c1, rfl⟩ := r1.form
 obtain ⟨y0, y1, y2⟩ := bstart1 26 w1 #[.bool s1, .slice A1 n1 c1]
 have HT := hide ((z3.next b1).next y1)
 have q0 := (z0.next b1).next y1
 have q1 := (z1.next b1).next y1
 have q2 := (z2.next b1).next y1
 have r2 := r1.below y1
 have hs := sign_z _ (content L) _ _ r2.in_ (by omega)
 unfold SignPost at hs
 have hw1 : w0.heap.size + 1 + 1 + 1 ≤ w1.heap.size := by have := b1.size; omega
 have a0 := q0.c0
 have a1 := q0.c1
 have a2 := q0.c2
 have e0 := Blk.c0 y0
 have e1 := Blk.c1 y0
 clear x0 x1 x2 hct z0 z1 z2 z3 z4 b1 r1 y1 y2
 by_cases h0 : content L = 0
 · have HN := content_zero.1 h0
   have HK := hide (show shrK L K = K by unfold shrK; rw [if_pos h0])
   have HQ := hide (show quot (content L) (norm L) = norm L by rw [HN]; rfl)
   rw [h0] at hs
   rw [show Int.sign 0 = 0 from rfl] at hs
   clear h0 HN
   go_wp2_with fail
   refine hs.mono ?_
   rintro e W2 ⟨rfl, b2⟩
   have HT2 := hide (HT.out.next b2)
   have g0 := q0.next b2
   have g1 := q1.next b2
   have g2 := q2.next b2
   have g4 := Blk.next y0 b2
   have HZ := hide (r2.below b2)
   have HV0 := hide (hv0.below HT2.out)
   clear a0 a1 a2 e0 e1 q0 q1 q2 y0 r2 hs b2 hv0
   go_wp2_with fail
   have HPL := hide (fun W (h : KT (w0.heap.size + 1) (w0.heap.size + 1 + 1) W2 W) => (show Calls Tryz.prog 56 #[.agg #[.slice A n c, .bool s, .slice B m d]] W (TPost (quot (content L) (norm L)) (shrK L K) (k + L.length) W) from by rw [HQ.out, HK.out]; exact tplain_any _ L K k W (HV0.out.kt h) hl hk))
   unfold TPost at HPL
   have SOF := hide (show ∀ W, KT (w0.heap.size + 1) (w0.heap.size + 1 + 1) W2 W → (W.cell? ⟨w0.heap.size, 0, none⟩ = some (.slice A n c) ∧ W.cell? ⟨w0.heap.size, 1, none⟩ = some (.bool s) ∧ W.cell? ⟨w0.heap.size, 2, none⟩ = some (.slice B m d) ∧ W.cell? ⟨w1.heap.size, 0, none⟩ = some (.bool s1) ∧ W.cell? ⟨w1.heap.size, 1, none⟩ = some (.slice A1 n1 c1)) from fun W h => by
     have h1 := h.box g0 (by omega) (by omega)
     have h2 : Blk W w1.heap.size #[.bool s1, .slice A1 n1 c1] := h.box g4 (by omega) (by omega)
     exact ⟨h1.c0, h1.c1, h1.c2, Blk.c0 h2, Blk.c1 h2⟩)
   have HW2 := hide HT2.out.size
   have HM1 := hide (show ∀ v w w', KT (w0.heap.size + 1) (w0.heap.size + 1 + 1) w w' → (fun v w => TRes w v (quot (content L) (norm L)) (shrK L K) (k + L.length)) v w → (fun v w => TRes w v (quot (content L) (norm L)) (shrK L K) (k + L.length)) v w' from fun v w w' t h => TRes.kt h t)
   have HM2 := hide (show ∀ v w w', KT (w0.heap.size + 1) (w0.heap.size + 1 + 1) w w' → (fun v w => ZRes w v (content L) (k + L.length)) v w → (fun v w => ZRes w v (content L) (k + L.length)) v w' from fun v w w' t h => ZRes.kp h t.kp)
   refine wp_drawn (by kernel_rfl) (by kernel_rfl) (by kernel_rfl) (KT (w0.heap.size + 1) (w0.heap.size + 1 + 1)) (fun j v w => match j with | 0 => v = .agg #[.slice A n c, .bool s, .slice B m d] | 1 => TRes w v (quot (content L) (norm L)) (shrK L K) (k + L.length) | 2 => v = .agg #[.bool s1, .slice A1 n1 c1] | 3 => True | 4 => True | _ => True) (G2 W2 (w0.heap.size + 1) 3 (fun v w => TRes w v (quot (content L) (norm L)) (shrK L K) (k + L.length)) (w0.heap.size + 1 + 1) 4 (fun v w => ZRes w v (content L) (k + L.length))) ?_ (fun _ => G2.start ((g1).drew) ((g2).drew) (bl_drewN W2 1)) ?_ ?_
   · intro j v w w' hT h
     match j, h with
     | 0, h => exact h
     | 1, h => exact h.kt hT
     | 2, h => exact h
     | 3, h => trivial
     | 4, h => trivial
     | j + 5, h => trivial
   · refine ⟨?_, ?_, ?_, ?_, ?_, trivial⟩
     · intro listed σ w a hin hout hl hc hp hG hF
       refine Guarded.none rfl ?_
       have e1 : a.tmps.getD 1 undef = .pointer (some ⟨w0.heap.size, 0, none⟩) := hout 1 (outB_spec (by kernel_rfl))
       have CC := SOF.out w hG.1; obtain ⟨C0, C1, C2, D0, D1⟩ := CC
       refine Does.val (.agg #[.slice A n c, .bool s, .slice B m d]) (w' := w) ?_ ⟨KT.refl _ _ _, rfl, G2.next hG (Below.refl _ _) (by decide) (by decide) HM1.out HM2.out⟩
       go_simp
     · intro listed σ w a hin hout hl hc hp hG hF
       refine Guarded.none rfl ?_
       have e11 : a.tmps.getD 11 undef = .agg #[.slice A n c, .bool s, .slice B m d] := (hin 0 11 rfl (hp ⟨0, .data⟩ (by simp) rfl)).trans (hF 0 (hp ⟨0, .data⟩ (by simp) rfl))
       refine Does.call ?_ (HPL.out w hG.1) ?_
       · go_simp
       · rintro e w' ⟨v, rfl, z, hb⟩
         exact ⟨_, rfl, KT.of_below hb, z, G2.next hG (hb) (by decide) (by decide) HM1.out HM2.out⟩
     · intro listed σ w a hin hout hl hc hp hG hF
       refine Guarded.none rfl ?_
       have e4 : a.tmps.getD 4 undef = .pointer (some ⟨w1.heap.size, 0, none⟩) := hout 4 (outB_spec (by kernel_rfl))
       have CC := SOF.out w hG.1; obtain ⟨C0, C1, C2, D0, D1⟩ := CC
       refine Does.val (.agg #[.bool s1, .slice A1 n1 c1]) (w' := w) ?_ ⟨KT.refl _ _ _, rfl, G2.next hG (Below.refl _ _) (by decide) (by decide) HM1.out HM2.out⟩
       go_simp
     · intro listed σ w a hin hout hl hc hp hG hF
       refine Guarded.none rfl ?_
       have e2 : a.tmps.getD 2 undef = .pointer (some ⟨w0.heap.size + 1, 0, none⟩) := hout 2 (outB_spec (by kernel_rfl))
       have e12 := hin 1 12 rfl (hp ⟨1, .data⟩ (by simp) rfl)
       have z1 := hF 1 (hp ⟨1, .data⟩ (by simp) rfl)
       obtain ⟨A8, n8, c8, s8, B8, m8, d8, ev8⟩ := TRes.form z1
       rw [ev8] at e12 z1
       have hf := z1
       obtain ⟨h0, ⟨Ax, nx, cx, sx, Bx, mx, dx, xb, -⟩, -⟩ := id hG
       refine Does.store_box (T := 28) (cells := #[.slice A8 n8 c8, .bool s8, .slice B8 m8 d8]) rfl e2 e12 xb (by kernel_rfl) rfl (by simp [Value.oneCell']) (fun w2 x9 o9 => ?_)
       have q9 := G2.st1 (τ := upd σ 3 undef) hG (by omega) (by decide) x9 o9 hf HM1.out HM2.out
       exact ⟨q9.1, trivial, q9.2⟩
     · intro listed σ w a hin hout hl hc hp hG hF
       refine Guarded.none rfl ?_
       have e3 : a.tmps.getD 3 undef = .pointer (some ⟨w0.heap.size + 1 + 1, 0, none⟩) := hout 3 (outB_spec (by kernel_rfl))
       have e13 := hin 2 13 rfl (hp ⟨2, .data⟩ (by simp) rfl)
       have z2 := hF 2 (hp ⟨2, .data⟩ (by simp) rfl)
       rw [z2] at e13
       have hf := HZ.out.kp hG.1.kp
       obtain ⟨h0, -, ⟨sx, Bx, mx, dx, xb, -⟩⟩ := id hG
       refine Does.store_box (T := 26) (cells := #[.bool s1, .slice A1 n1 c1]) rfl e3 e13 (Blk.box xb) (by kernel_rfl) rfl (by simp [Value.oneCell']) (fun w2 x9 o9 => ?_)
       have q9 := G2.st2 (τ := upd σ 4 undef) hG (by omega) (by decide) x9 o9 hf HM1.out HM2.out
       exact ⟨q9.1, trivial, q9.2⟩
   · intro listed σ W9 hall hG hF
     rw [show mid _ σ listed _ = (Act.put (Act.put (Act.put (Act.put (Act.put _ (some 11) (σ 0)) (some 12) (σ 1)) (some 13) (σ 2)) none (σ 3)) none (σ 4)) from (mid_all hall).trans rfl]
     generalize σ 0 = tt0
     generalize σ 1 = tt1
     generalize σ 2 = tt2
     simp only [Act.put, List.setIfInBounds_toArray, List.set_cons_zero, List.set_cons_succ]
     obtain ⟨TK, ⟨A9, n9, c9, s9, B9, m9, d9, X9, Z9⟩, ⟨t9, C9, p9, q9, Y9, V9⟩⟩ := hG
     have Z9 := Z9 (hall 3 (by decide))
     have V9 := V9 (hall 4 (by decide))
     clear hF hall
     clear σ
     have TB := hide (HT2.out.trans (KT.below TK HW2.out (by omega) (by omega)))
     clear SOF HPL TK
     go_wp2_with fail
     exact bodyPost_tz rfl rfl rfl X9 Y9 rfl ⟨_, _, rfl, Z9, V9, TB.out⟩
 · have HK := hide (show shrK L K = K.fdiv (content L) by unfold shrK; rw [if_neg h0])
   have h1 : ((content L).sign == 0) = false := sgn_ne h0
   have H0 := hide h0
   generalize (content L).sign = sgn at *
   clear h0
   go_wp2_with fail
   refine hs.mono ?_
   rintro e W2 ⟨rfl, b2⟩
   have HT2 := hide (HT.out.next b2)
   have g0 := q0.next b2
   have p1 := q1.next b2
   have p2 := q2.next b2
   have p4 := Blk.next y0 b2
   have r3 := r2.below b2
   have x0 := g0.c0
   have x1 := g0.c1
   have x2 := g0.c2
   have hf := each_any _ L K k (k + L.length) 72 #[.pointer (some ⟨w1.heap.size, 0, none⟩)] (fun z => z.fdiv (content L)) W2 (hv0.below HT2.out) (fun W u Z hb hu => shrink1_any _ u (content L) Z w1.heap.size (k + L.length) (k + L.length) W ⟨s1, A1, n1, c1, rfl, Box.next p4 hb⟩ (r3.in_.below hb) H0.out hu (by omega) (by omega)) enters_shrink1 hl hk
   clear a0 a1 a2 e0 e1 q0 q1 q2 y0 r2 hs b2
   go_wp2_with fail
   refine hf.mono ?_
   rintro e w3 ⟨v3, rfl, r5, b3⟩
   obtain ⟨A3, n3, c3, s3, B3, m3, d3, rfl⟩ := r5.form
   obtain ⟨y3, b4, -⟩ := bstart1 28 w3 #[.slice A3 n3 c3, .bool s3, .slice B3 m3 d3]
   have HZ := hide ((r3.below b3).below b4)
   have HZ3 := hide (show TRes _ (.agg #[.slice A3 n3 c3, .bool s3, .slice B3 m3 d3]) (quot (content L) (norm L)) (shrK L K) (k + L.length) from by rw [HK.out]; exact r5.below b4)
   have HT4 := hide ((HT2.out.next b3).next b4)
   have g1 := (p1.next b3).next b4
   have g2 := (p2.next b3).next b4
   have g4 := (Blk.next p4 b3).next b4
   have hw3 : w1.heap.size + 1 ≤ w3.heap.size := by have := p4.lt; have := b3.size; omega
   clear x0 x1 x2 hf p1 p2 p4 r3 r5 b3 b4 g0 hv0
   go_wp2_with fail
   generalize hW4 : w3.alloc (.cells #[.slice A3 n3 c3, .bool s3, .slice B3 m3 d3] 28) = W4 at *
   clear hW4
   have SOF := hide (show ∀ W, KT (w0.heap.size + 1) (w0.heap.size + 1 + 1) W4 W → (W.cell? ⟨w3.heap.size, 0, none⟩ = some (.slice A3 n3 c3) ∧ W.cell? ⟨w3.heap.size, 1, none⟩ = some (.bool s3) ∧ W.cell? ⟨w3.heap.size, 2, none⟩ = some (.slice B3 m3 d3) ∧ W.cell? ⟨w1.heap.size, 0, none⟩ = some (.bool s1) ∧ W.cell? ⟨w1.heap.size, 1, none⟩ = some (.slice A1 n1 c1)) from fun W h => by
     have h1 := h.box y3 (by omega) (by omega)
     have h2 : Blk W w1.heap.size #[.bool s1, .slice A1 n1 c1] := h.box g4 (by omega) (by omega)
     exact ⟨h1.c0, h1.c1, h1.c2, Blk.c0 h2, Blk.c1 h2⟩)
   have HW2 := hide HT4.out.size
   have HM1 := hide (show ∀ v w w', KT (w0.heap.size + 1) (w0.heap.size + 1 + 1) w w' → (fun v w => TRes w v (quot (content L) (norm L)) (shrK L K) (k + L.length)) v w → (fun v w => TRes w v (quot (content L) (norm L)) (shrK L K) (k + L.length)) v w' from fun v w w' t h => TRes.kt h t)
   have HM2 := hide (show ∀ v w w', KT (w0.heap.size + 1) (w0.heap.size + 1 + 1) w w' → (fun v w => ZRes w v (content L) (k + L.length)) v w → (fun v w => ZRes w v (content L) (k + L.length)) v w' from fun v w w' t h => ZRes.kp h t.kp)
   refine wp_drawn (by kernel_rfl) (by kernel_rfl) (by kernel_rfl) (KT (w0.heap.size + 1) (w0.heap.size + 1 + 1)) (fun j v w => match j with | 0 => v = .agg #[.slice A3 n3 c3, .bool s3, .slice B3 m3 d3] | 1 => v = .agg #[.bool s1, .slice A1 n1 c1] | 2 => True | 3 => True | _ => True) (G2 W4 (w0.heap.size + 1) 2 (fun v w => TRes w v (quot (content L) (norm L)) (shrK L K) (k + L.length)) (w0.heap.size + 1 + 1) 3 (fun v w => ZRes w v (content L) (k + L.length))) ?_ (fun _ => G2.start ((g1).drew) ((g2).drew) (bl_drewN W4 1)) ?_ ?_
   · intro j v w w' hT h
     match j, h with
     | 0, h => exact h
     | 1, h => exact h
     | 2, h => trivial
     | 3, h => trivial
     | j + 4, h => trivial
   · refine ⟨?_, ?_, ?_, ?_, trivial⟩
     · intro listed σ w a hin hout hl hc hp hG hF
       refine Guarded.none rfl ?_
       have e5 : a.tmps.getD 5 undef = .pointer (some ⟨w3.heap.size, 0, none⟩) := hout 5 (outB_spec (by kernel_rfl))
       have CC := SOF.out w hG.1; obtain ⟨C0, C1, C2, D0, D1⟩ := CC
       refine Does.val (.agg #[.slice A3 n3 c3, .bool s3, .slice B3 m3 d3]) (w' := w) ?_ ⟨KT.refl _ _ _, rfl, G2.next hG (Below.refl _ _) (by decide) (by decide) HM1.out HM2.out⟩
       go_simp
     · intro listed σ w a hin hout hl hc hp hG hF
       refine Guarded.none rfl ?_
       have e4 : a.tmps.getD 4 undef = .pointer (some ⟨w1.heap.size, 0, none⟩) := hout 4 (outB_spec (by kernel_rfl))
       have CC := SOF.out w hG.1; obtain ⟨C0, C1, C2, D0, D1⟩ := CC
       refine Does.val (.agg #[.bool s1, .slice A1 n1 c1]) (w' := w) ?_ ⟨KT.refl _ _ _, rfl, G2.next hG (Below.refl _ _) (by decide) (by decide) HM1.out HM2.out⟩
       go_simp
     · intro listed σ w a hin hout hl hc hp hG hF
       refine Guarded.none rfl ?_
       have e2 : a.tmps.getD 2 undef = .pointer (some ⟨w0.heap.size + 1, 0, none⟩) := hout 2 (outB_spec (by kernel_rfl))
       have e17 := hin 0 17 rfl (hp ⟨0, .data⟩ (by simp) rfl)
       have z0 := hF 0 (hp ⟨0, .data⟩ (by simp) rfl)
       rw [z0] at e17
       have hf := HZ3.out.kt hG.1
       obtain ⟨h0, ⟨Ax, nx, cx, sx, Bx, mx, dx, xb, -⟩, -⟩ := id hG
       refine Does.store_box (T := 28) (cells := #[.slice A3 n3 c3, .bool s3, .slice B3 m3 d3]) rfl e2 e17 xb (by kernel_rfl) rfl (by simp [Value.oneCell']) (fun w2 x9 o9 => ?_)
       have q9 := G2.st1 (τ := upd σ 2 undef) hG (by omega) (by decide) x9 o9 hf HM1.out HM2.out
       exact ⟨q9.1, trivial, q9.2⟩
     · intro listed σ w a hin hout hl hc hp hG hF
       refine Guarded.none rfl ?_
       have e3 : a.tmps.getD 3 undef = .pointer (some ⟨w0.heap.size + 1 + 1, 0, none⟩) := hout 3 (outB_spec (by kernel_rfl))
       have e18 := hin 1 18 rfl (hp ⟨1, .data⟩ (by simp) rfl)
       have z1 := hF 1 (hp ⟨1, .data⟩ (by simp) rfl)
       rw [z1] at e18
       have hf := HZ.out.kp hG.1.kp
       obtain ⟨h0, -, ⟨sx, Bx, mx, dx, xb, -⟩⟩ := id hG
       refine Does.store_box (T := 26) (cells := #[.bool s1, .slice A1 n1 c1]) rfl e3 e18 (Blk.box xb) (by kernel_rfl) rfl (by simp [Value.oneCell']) (fun w2 x9 o9 => ?_)
       have q9 := G2.st2 (τ := upd σ 3 undef) hG (by omega) (by decide) x9 o9 hf HM1.out HM2.out
       exact ⟨q9.1, trivial, q9.2⟩
   · intro listed σ W9 hall hG hF
     rw [show mid _ σ listed _ = (Act.put (Act.put (Act.put (Act.put _ (some 17) (σ 0)) (some 18) (σ 1)) none (σ 2)) none (σ 3)) from (mid_all hall).trans rfl]
     generalize σ 0 = tt0
     generalize σ 1 = tt1
     simp only [Act.put, List.setIfInBounds_toArray, List.set_cons_zero, List.set_cons_succ]
     obtain ⟨TK, ⟨A9, n9, c9, s9, B9, m9, d9, X9, Z9⟩, ⟨t9, C9, p9, q9, Y9, V9⟩⟩ := hG
     have Z9 := Z9 (hall 2 (by decide))
     have V9 := V9 (hall 3 (by decide))
     clear hF hall
     clear σ
     have TB := hide (HT4.out.trans (KT.below TK HW2.out (by omega) (by omega)))
     clear SOF TK
     go_wp2_with fail
     exact bodyPost_tz rfl rfl rfl X9 Y9 rfl ⟨_, _, rfl, Z9, V9, TB.out⟩
end Go.Proofs.YtdeakieenppmiaaGreatDoor
