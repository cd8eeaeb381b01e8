/- Texts of one seat, put together: DashMath ZTold. -/
import Derived.Test.YtlihnagfmfpdcaaB27
import Derived.Test.YtlihnagfmfpdcaaB29
import Derived.Test.YtlihnagfmfpdcaaB32
/- A number's text, parsed back. -/
namespace Go.Proofs.Ytlihnagfmfpdcaa
open Go.RowKit

theorem dash_first (t : ByteArray) : byteAt ((⟨#[45]⟩ : ByteArray) ++ t) 0 = 45 := by
  have hs : 0 < ((⟨#[45]⟩ : ByteArray) ++ t).size := by rw [ByteArray.size_append]; show 0 < 1 + _; omega
  rw [byteAt_eq _ _ hs]
  have e : ((⟨#[45]⟩ : ByteArray) ++ t)[0] = ((⟨#[45]⟩ : ByteArray) ++ t).data.toList[0]'(by simp) := by simp [ByteArray.getElem_eq_getElem_data]
  rw [e]
  have e2 : ((⟨#[45]⟩ : ByteArray) ++ t).data.toList[0]'(by simp) = 45 := by simp
  rw [e2]; rfl
theorem dash_cons (t : ByteArray) : Dash (⟨#[45]⟩ ++ t) := by
  refine ⟨?_, dash_first t⟩
  rw [ByteArray.size_append]; show 0 < 1 + _; omega
theorem body_cons (t : ByteArray) : body (⟨#[45]⟩ ++ t) = t := by
  unfold body
  rw [if_pos (dash_cons t)]
  apply ByteArray.ext
  simp
  exact Or.inr (by show t.size ≤ 1 + t.size - 1; omega)
theorem flag_cons (t : ByteArray) : dash (⟨#[45]⟩ ++ t) = true := decide_eq_true (dash_cons t)
theorem text_nodash (N : Nat) : ¬ Dash (Dec.text N) := by
  rintro ⟨h0, h⟩
  rw [Dec.text_size] at h0
  unfold Dec.text at h
  rw [byteAt_low N _ 0 h0] at h
  omega
theorem text_pcode {N : Nat} (h : Dec.dlen N ≤ 4000) : pcode (Dec.text N) = 0 ∧ pval (Dec.text N) = N := by
  have h1 := Dec.dlen_pos N
  have e : pcode (Dec.text N) = 0 := by
    unfold pcode
    rw [Dec.text_size, if_neg (by omega), if_pos ⟨low_allDig N _, by omega⟩]
  refine ⟨e, ?_⟩
  unfold pval
  rw [if_pos e]
  exact low_num N _ (Dec.dlen_is N).2.1
theorem ztext_back {Z : Int} {k : Nat} (h : Z.natAbs < 4294967296 ^ k) (hk : k ≤ 100) : zcode (ztext Z) = 0 ∧ zval (ztext Z) = Z := by
  have hd := dlen_room h
  have ht := text_pcode (N := Z.natAbs) (by omega)
  unfold zcode zval
  by_cases h0 : Z < 0
  · rw [ztext_neg h0, body_cons, flag_cons, ht.1, ht.2]
    refine ⟨rfl, ?_⟩
    rw [sg_true]; omega
  · have hn := text_nodash Z.natAbs
    have e1 : body (Dec.text Z.natAbs) = Dec.text Z.natAbs := if_neg hn
    have e2 : dash (Dec.text Z.natAbs) = false := decide_eq_false hn
    rw [ztext_pos h0, e1, e2, ht.1, ht.2]
    refine ⟨rfl, ?_⟩
    rw [sg_false]; omega
theorem ztext_twice {Z : Int} {k : Nat} (h : Z.natAbs < 4294967296 ^ k) (hk : k ≤ 100) : (Z < 0 → zcode (⟨#[45]⟩ ++ ztext Z) = 20) ∧ (¬ Z < 0 → zcode (⟨#[45]⟩ ++ ztext Z) = 0 ∧ zval (⟨#[45]⟩ ++ ztext Z) = -Z) := by
  have hd := dlen_room h
  have ht := text_pcode (N := Z.natAbs) (by omega)
  unfold zcode zval
  rw [body_cons, flag_cons]
  constructor
  · intro h0
    rw [ztext_neg h0]
    unfold pcode
    have hs : ((⟨#[45]⟩ : ByteArray) ++ Dec.text Z.natAbs).size = 1 + Dec.dlen Z.natAbs := by rw [ByteArray.size_append, Dec.text_size]; rfl
    rw [hs, if_neg (by omega), if_neg]
    rintro ⟨h1, -⟩
    have h2 := h1 0 (by omega)
    rw [dash_first] at h2
    omega
  · intro h0
    rw [ztext_pos h0, ht.1, ht.2]
    refine ⟨rfl, ?_⟩
    rw [sg_true]; omega
theorem ztext_size {Z : Int} {k : Nat} (h : Z.natAbs < 4294967296 ^ k) (hk : k ≤ 100) : 1 ≤ (ztext Z).size ∧ (ztext Z).size ≤ 2000 := by
  have hd := dlen_room h
  have h1 := Dec.dlen_pos Z.natAbs
  unfold ztext
  split
  · rw [ByteArray.size_append, Dec.text_size]
    show 1 ≤ 1 + _ ∧ 1 + _ ≤ _
    omega
  · rw [Dec.text_size]; omega
theorem ztext_head {Z : Int} (h0 : Z < 0) (h : 0 < (ztext Z).size) : ((((ztext Z)[0]'h).toNat : Int) == 45) = true := by
  have h1 := dash_first (Dec.text Z.natAbs)
  rw [← ztext_neg h0, byteAt_eq _ _ h] at h1
  simp only [beq_iff_eq]
  omega
end Go.Proofs.Ytlihnagfmfpdcaa
/- plumblinelaw02.ZintTold: the walk. -/
namespace Go.Proofs.Ytlihnagfmfpdcaa
open Go.RowKit

def IntIs (v : Int) (w : World) (e : Ending) (w' : World) : Prop := e = .returned (.int .i64 v) ∧ Below w.heap.size w w'
theorem cmp_same (v u : Value) (Z : Int) (k : Nat) (w : World) (hv : ZIn w v Z k) (hu : ZIn w u Z k) (hk : k ≤ 1099511627776) : Calls Try.prog 39 #[v, u] w (IntIs 0 w) := by
  have := cmp_z v u Z Z k w hv hu hk
  have e : sgn3 Z Z = 0 := by unfold sgn3; simp
  unfold CmpZPost at this
  rw [e] at this
  exact this
def TrueB (w : World) (e : Ending) (w' : World) : Prop := e = .returned (.bool true) ∧ Below w.heap.size w w'
theorem same_lim {A B : Option Addr} {n m c d N : Nat} {w : World} (hx : Nums w A n (Limb.canon N)) (hy : Nums w B m (Limb.canon N)) (hn : n ≤ 9223372036854775807) : Calls Try.prog 48 #[.slice A n c, .slice B m d] w (TrueB w) := by
  obtain rfl : n = m := by rw [← hx.len, ← hy.len]
  refine (same_yes A B n c d _ w hx hy hn).mono ?_
  rintro e w' ⟨rfl, hw⟩
  exact ⟨rfl, bleK hw⟩
theorem ZRes.limbs {w : World} {s : Bool} {A : Option Addr} {n c k : Nat} {Z : Int} (h : ZRes w (.agg #[.bool s, .slice A n c]) Z k) : Nums w A n (Limb.canon Z.natAbs) ∧ n ≤ k := by
  obtain ⟨A', n', c', e, h1, h2, h3, h4⟩ := h
  injection e with e
  simp only [Array.mk.injEq, List.cons.injEq, Value.slice.injEq, and_true] at e
  obtain ⟨-, rfl, rfl, rfl⟩ := e
  exact ⟨h1, h4⟩
set_option maxRecDepth 100000 in
set_option maxHeartbeats 8000000 in
theorem zintTold_walk (s : Bool) (A : Option Addr) (n c : Nat) (xs : List Nat) (w : World) (hx : Nums w A n xs) (hc : n ≤ c) (hm : c ≤ 9223372036854775807) :
    Calls Try.prog 9 #[.agg #[.bool s, .slice A n c]] w (YesPost w) := by
  obtain ⟨x, z2, -⟩ := zstart1 w #[.bool s, .slice A n c]
  have K := (Keeps.nil z2).add x (by omega)
  clear x z2
  by_cases hn : n ≤ 60
  · have hv : ZIn w (.agg #[.bool s, .slice A n c]) (sg s (Limb.val xs)) 60 := ⟨s, A, n, c, xs, rfl, hx, hc, hm, hn, rfl⟩
    generalize sg s (Limb.val xs) = Z at *
    have hbk := ztext_back hv.lt (by omega)
    have htw := ztext_twice hv.lt (by omega)
    have hsz := ztext_size hv.lt (by omega)
    have hhd := hide (fun h0 h => ztext_head (Z := Z) h0 h)
    have HP := hide (fun W => (show Calls Try.prog 33 #[.string (ztext Z)] W (ZAnsP 0 Z W) by
      have := zparse_all (ztext Z) W (by omega)
      unfold ZParsePost at this
      rw [hbk.1, hbk.2] at this
      exact this))
    have HT := hide (fun W h => ztext_z (.agg #[.bool s, .slice A n c]) Z 60 W h (by omega))
    unfold ZTextPost at HT
    have hcat : (⟨#[45]⟩ : ByteArray).size + (ztext Z).size ≤ 9223372036854775807 := by show 1 + _ ≤ _; omega
    have HQ := hide (fun W => zparse_all (⟨#[45]⟩ ++ ztext Z) W (by rw [ByteArray.size_append]; omega))
    unfold ZParsePost at HQ
    clear hbk
    generalize ztext Z = t at *
    by_cases h0 : Z < 0
    · have hc20 := htw.1 h0
      have hth := hhd.out h0 (by omega)
      have hs : Z.sign < 0 := by rw [Int.sign_eq_neg_one_of_neg h0]; omega
      rw [hc20] at HQ
      have hts : 0 < t.size := by omega
      clear htw hhd hc20
      go_enter Try.func9, Try.ntmps9
      go_wp2_with fail
      refine (counting_any _).mono ?_
      rintro e w1 ⟨rfl, b1⟩
      replace K := K.call b1
      clear b1
      go_wp2_with fail
      refine (ztelling_any w1).mono ?_
      rintro e w2 ⟨rfl, b2⟩
      replace K := K.call b2
      clear b2
      have cxa := (K.blk (List.Mem.head _)).c0
      have cxb := (K.blk (List.Mem.head _)).c1
      go_wp2_with fail
      refine (HT.out w2 (hv.below K.old)).mono ?_
      rintro e w3 ⟨rfl, b3⟩
      clear cxa cxb
      replace K := K.call b3
      clear b3
      go_wp2_with fail
      refine (HP.out w3).mono ?_
      rintro e w4 ⟨v4, k1, rfl, r4, hk1, b4⟩
      replace K := K.call b4
      clear b4
      obtain ⟨sX, AX, nX, cX, rfl⟩ := r4.form
      have tt := bl_alloc w4 (.cells #[.bool sX, .slice AX nX cX] 38)
      replace K := K.made1 (a := .bool sX) (b := .slice AX nX cX)
      replace r4 := r4.below tt
      clear tt
      have SOF := hide (show ∀ W, Keeps w [(w4.heap.size, .bool sX, .slice AX nX cX), (w.heap.size, .bool s, .slice A n c)] W → (fun W => Keeps w [(w4.heap.size, .bool sX, .slice AX nX cX), (w.heap.size, .bool s, .slice A n c)] W ∧ W.cell? ⟨w4.heap.size, 0, none⟩ = some (.bool sX) ∧ W.cell? ⟨w4.heap.size, 1, none⟩ = some (.slice AX nX cX) ∧ W.cell? ⟨w.heap.size, 0, none⟩ = some (.bool s) ∧ W.cell? ⟨w.heap.size, 1, none⟩ = some (.slice A n c)) W from fun W k => ⟨k, (k.blk (List.Mem.head _)).c0, (k.blk (List.Mem.head _)).c1, (k.blk (List.Mem.tail _ (List.Mem.head _))).c0, (k.blk (List.Mem.tail _ (List.Mem.head _))).c1⟩)
      have HK := hide K
      have T5 : Below (w4.alloc (.cells #[.bool sX, .slice AX nX cX] 38)).heap.size (w4.alloc (.cells #[.bool sX, .slice AX nX cX] 38)) (w4.alloc (.cells #[.bool sX, .slice AX nX cX] 38)).drew := bl_drewN (w4.alloc (.cells #[.bool sX, .slice AX nX cX] 38)) 1
      clear K
      go_wp2_with fail
      go_region_held3 (fun W => Keeps w [(w4.heap.size, .bool sX, .slice AX nX cX), (w.heap.size, .bool s, .slice A n c)] W ∧ W.cell? ⟨w4.heap.size, 0, none⟩ = some (.bool sX) ∧ W.cell? ⟨w4.heap.size, 1, none⟩ = some (.slice AX nX cX) ∧ W.cell? ⟨w.heap.size, 0, none⟩ = some (.bool s) ∧ W.cell? ⟨w.heap.size, 1, none⟩ = some (.slice A n c))
        (with_reducible first | exact SOF.out _ HK.out.drew | exact SOF.out _ (Keeps.call (And.left (a := Keeps w _ _) (by assumption)) (by assumption)))
        (first
          | (go_at_call 39; (with_reducible refine (cmp_same _ _ Z 500 (w4.alloc (.cells #[.bool sX, .slice AX nX cX] 38)).drew ((r4.below T5).in_.mono (by omega)) ((hv.below (HK.out.old.next T5)).mono (by omega)) (by omega)).mono ?_); rintro e w6 ⟨rfl, b6⟩; have T6 := T5.next b6)
          | (go_at_call 46; (with_reducible refine (clean_z _ Z 60 w6 (hv.below (HK.out.old.next T6)) (by omega)).mono ?_); rintro e w7 ⟨v7, rfl, r7, b7⟩; have T7 := T6.next b7)
          | (go_at_call 45; (with_reducible refine (zsame_yes _ _ Z k1 60 w7 (r4.below T7) r7).mono ?_); rintro e w8 ⟨rfl, b8⟩; have T8 := T7.next b8))
      have K := HK.out.call T8
      replace r4 := r4.below T8
      clear HK SOF T5 T6 T7 T8
      go_wp2_with fail
      refine (HQ.out w8).mono ?_
      rintro e w9 ⟨v9, k2, rfl, r9, hk2, b9⟩
      replace K := K.call b9
      replace r4 := r4.below b9
      clear b9
      obtain ⟨sY, AY, nY, cY, rfl⟩ := r9.form
      have tt := bl_alloc w9 (.cells #[.bool sY, .slice AY nY cY] 38)
      replace K := K.made1 (a := .bool sY) (b := .slice AY nY cY)
      replace r4 := r4.below tt
      replace r9 := r9.below tt
      clear tt
      have cxa := (K.blk (List.Mem.tail _ (List.Mem.tail _ (List.Mem.head _)))).c0
      have cxb := (K.blk (List.Mem.tail _ (List.Mem.tail _ (List.Mem.head _)))).c1
      go_wp2_with fail
      refine (sign_z _ Z 60 (w9.alloc (.cells #[.bool sY, .slice AY nY cY] 38)) (hv.below K.old) (by omega)).mono ?_
      rintro e w10 ⟨rfl, b10⟩
      clear cxa cxb
      replace K := K.call b10
      replace r4 := r4.below b10
      replace r9 := r9.below b10
      clear b10
      go_wp2_with fail
      go_ret
      exact ⟨rfl, K.old⟩
    · have hc0 := htw.2 h0
      have hs : ¬ Z.sign < 0 := fun h => h0 (Int.sign_neg_iff.1 h)
      rw [hc0.1, hc0.2] at HQ
      clear htw hhd hc0 hsz
      go_enter Try.func9, Try.ntmps9
      go_wp2_with fail
      refine (counting_any _).mono ?_
      rintro e w1 ⟨rfl, b1⟩
      replace K := K.call b1
      clear b1
      go_wp2_with fail
      refine (ztelling_any w1).mono ?_
      rintro e w2 ⟨rfl, b2⟩
      replace K := K.call b2
      clear b2
      have cxa := (K.blk (List.Mem.head _)).c0
      have cxb := (K.blk (List.Mem.head _)).c1
      go_wp2_with fail
      refine (HT.out w2 (hv.below K.old)).mono ?_
      rintro e w3 ⟨rfl, b3⟩
      clear cxa cxb
      replace K := K.call b3
      clear b3
      go_wp2_with fail
      refine (HP.out w3).mono ?_
      rintro e w4 ⟨v4, k1, rfl, r4, hk1, b4⟩
      replace K := K.call b4
      clear b4
      obtain ⟨sX, AX, nX, cX, rfl⟩ := r4.form
      have tt := bl_alloc w4 (.cells #[.bool sX, .slice AX nX cX] 38)
      replace K := K.made1 (a := .bool sX) (b := .slice AX nX cX)
      replace r4 := r4.below tt
      clear tt
      have SOF := hide (show ∀ W, Keeps w [(w4.heap.size, .bool sX, .slice AX nX cX), (w.heap.size, .bool s, .slice A n c)] W → (fun W => Keeps w [(w4.heap.size, .bool sX, .slice AX nX cX), (w.heap.size, .bool s, .slice A n c)] W ∧ W.cell? ⟨w4.heap.size, 0, none⟩ = some (.bool sX) ∧ W.cell? ⟨w4.heap.size, 1, none⟩ = some (.slice AX nX cX) ∧ W.cell? ⟨w.heap.size, 0, none⟩ = some (.bool s) ∧ W.cell? ⟨w.heap.size, 1, none⟩ = some (.slice A n c)) W from fun W k => ⟨k, (k.blk (List.Mem.head _)).c0, (k.blk (List.Mem.head _)).c1, (k.blk (List.Mem.tail _ (List.Mem.head _))).c0, (k.blk (List.Mem.tail _ (List.Mem.head _))).c1⟩)
      have HK := hide K
      have T5 : Below (w4.alloc (.cells #[.bool sX, .slice AX nX cX] 38)).heap.size (w4.alloc (.cells #[.bool sX, .slice AX nX cX] 38)) (w4.alloc (.cells #[.bool sX, .slice AX nX cX] 38)).drew := bl_drewN (w4.alloc (.cells #[.bool sX, .slice AX nX cX] 38)) 1
      clear K
      go_wp2_with fail
      go_region_held3 (fun W => Keeps w [(w4.heap.size, .bool sX, .slice AX nX cX), (w.heap.size, .bool s, .slice A n c)] W ∧ W.cell? ⟨w4.heap.size, 0, none⟩ = some (.bool sX) ∧ W.cell? ⟨w4.heap.size, 1, none⟩ = some (.slice AX nX cX) ∧ W.cell? ⟨w.heap.size, 0, none⟩ = some (.bool s) ∧ W.cell? ⟨w.heap.size, 1, none⟩ = some (.slice A n c))
        (with_reducible first | exact SOF.out _ HK.out.drew | exact SOF.out _ (Keeps.call (And.left (a := Keeps w _ _) (by assumption)) (by assumption)))
        (first
          | (go_at_call 39; (with_reducible refine (cmp_same _ _ Z 500 (w4.alloc (.cells #[.bool sX, .slice AX nX cX] 38)).drew ((r4.below T5).in_.mono (by omega)) ((hv.below (HK.out.old.next T5)).mono (by omega)) (by omega)).mono ?_); rintro e w6 ⟨rfl, b6⟩; have T6 := T5.next b6)
          | (go_at_call 46; (with_reducible refine (clean_z _ Z 60 w6 (hv.below (HK.out.old.next T6)) (by omega)).mono ?_); rintro e w7 ⟨v7, rfl, r7, b7⟩; have T7 := T6.next b7)
          | (go_at_call 45; (with_reducible refine (zsame_yes _ _ Z k1 60 w7 (r4.below T7) r7).mono ?_); rintro e w8 ⟨rfl, b8⟩; have T8 := T7.next b8))
      have K := HK.out.call T8
      replace r4 := r4.below T8
      clear HK SOF T5 T6 T7 T8
      go_wp2_with fail
      refine (HQ.out w8).mono ?_
      rintro e w9 ⟨v9, k2, rfl, r9, hk2, b9⟩
      replace K := K.call b9
      replace r4 := r4.below b9
      clear b9
      obtain ⟨sY, AY, nY, cY, rfl⟩ := r9.form
      have tt := bl_alloc w9 (.cells #[.bool sY, .slice AY nY cY] 38)
      replace K := K.made1 (a := .bool sY) (b := .slice AY nY cY)
      replace r4 := r4.below tt
      replace r9 := r9.below tt
      clear tt
      have cxa := (K.blk (List.Mem.tail _ (List.Mem.tail _ (List.Mem.head _)))).c0
      have cxb := (K.blk (List.Mem.tail _ (List.Mem.tail _ (List.Mem.head _)))).c1
      go_wp2_with fail
      refine (sign_z _ Z 60 (w9.alloc (.cells #[.bool sY, .slice AY nY cY] 38)) (hv.below K.old) (by omega)).mono ?_
      rintro e w10 ⟨rfl, b10⟩
      clear cxa cxb
      replace K := K.call b10
      replace r4 := r4.below b10
      replace r9 := r9.below b10
      clear b10
      have HL := hide (fun W (h : Below _ _ W) => (show Nums W AY nY (Limb.canon Z.natAbs) ∧ Nums W AX nX (Limb.canon Z.natAbs) from ⟨by have := (r9.below h).limbs.1; rw [Int.natAbs_neg] at this; exact this, (r4.below h).limbs.1⟩))
      have hny : nY ≤ 9223372036854775807 := by have := r9.limbs.2; omega
      have SOF := hide (show ∀ W, Keeps w [(w9.heap.size, .bool sY, .slice AY nY cY), (w4.heap.size, .bool sX, .slice AX nX cX), (w.heap.size, .bool s, .slice A n c)] W → (fun W => Keeps w [(w9.heap.size, .bool sY, .slice AY nY cY), (w4.heap.size, .bool sX, .slice AX nX cX), (w.heap.size, .bool s, .slice A n c)] W ∧ W.cell? ⟨w9.heap.size, 0, none⟩ = some (.bool sY) ∧ W.cell? ⟨w9.heap.size, 1, none⟩ = some (.slice AY nY cY) ∧ W.cell? ⟨w4.heap.size, 0, none⟩ = some (.bool sX) ∧ W.cell? ⟨w4.heap.size, 1, none⟩ = some (.slice AX nX cX) ∧ W.cell? ⟨w.heap.size, 0, none⟩ = some (.bool s) ∧ W.cell? ⟨w.heap.size, 1, none⟩ = some (.slice A n c)) W from fun W k => ⟨k, (k.blk (List.Mem.head _)).c0, (k.blk (List.Mem.head _)).c1, (k.blk (List.Mem.tail _ (List.Mem.head _))).c0, (k.blk (List.Mem.tail _ (List.Mem.head _))).c1, (k.blk (List.Mem.tail _ (List.Mem.tail _ (List.Mem.head _)))).c0, (k.blk (List.Mem.tail _ (List.Mem.tail _ (List.Mem.head _)))).c1⟩)
      have HK := hide K
      have T11 : Below w10.heap.size w10 w10.drew := bl_drewN w10 1
      clear K
      go_wp2_with fail
      go_region_held3 (fun W => Keeps w [(w9.heap.size, .bool sY, .slice AY nY cY), (w4.heap.size, .bool sX, .slice AX nX cX), (w.heap.size, .bool s, .slice A n c)] W ∧ W.cell? ⟨w9.heap.size, 0, none⟩ = some (.bool sY) ∧ W.cell? ⟨w9.heap.size, 1, none⟩ = some (.slice AY nY cY) ∧ W.cell? ⟨w4.heap.size, 0, none⟩ = some (.bool sX) ∧ W.cell? ⟨w4.heap.size, 1, none⟩ = some (.slice AX nX cX) ∧ W.cell? ⟨w.heap.size, 0, none⟩ = some (.bool s) ∧ W.cell? ⟨w.heap.size, 1, none⟩ = some (.slice A n c))
        (with_reducible first | exact SOF.out _ HK.out.drew | exact SOF.out _ (Keeps.call (And.left (a := Keeps w _ _) (by assumption)) (by assumption)))
        (first
          | (go_at_call 47; (with_reducible refine (neg_z _ Z 60 w10.drew (hv.below (HK.out.old.next T11)) (by omega)).mono ?_); rintro e w12 ⟨v12, rfl, r12, b12⟩; have T12 := T11.next b12)
          | (go_at_call 39; (with_reducible refine (cmp_same _ _ (-Z) 500 w12 ((r9.below T12).in_.mono (by omega)) (r12.in_.mono (by omega)) (by omega)).mono ?_); rintro e w13 ⟨rfl, b13⟩; have T13 := T12.next b13)
          | (go_at_call 48; (with_reducible refine (same_lim (N := Z.natAbs) (HL.out _ T13).1 (HL.out _ T13).2 hny).mono ?_); rintro e w14 ⟨rfl, b14⟩; have T14 := T13.next b14))
      have K := HK.out.call T14
      replace r4 := r4.below T14
      replace r9 := r9.below T14
      clear HK SOF T11 T12 T13 T14
      go_wp2_with fail
      go_ret
      exact ⟨rfl, K.old⟩
  · go_enter Try.func9, Try.ntmps9
    go_wp2_with fail
    refine (counting_any _).mono ?_
    rintro e w1 ⟨rfl, b1⟩
    replace K := K.call b1
    clear b1
    go_wp2_with fail
    refine (ztelling_any w1).mono ?_
    rintro e w2 ⟨rfl, b2⟩
    replace K := K.call b2
    clear b2
    have cxa := (K.blk (List.Mem.head _)).c0
    have cxb := (K.blk (List.Mem.head _)).c1
    go_wp2_with fail
    go_ret
    exact ⟨rfl, K.old⟩
end Go.Proofs.Ytlihnagfmfpdcaa
