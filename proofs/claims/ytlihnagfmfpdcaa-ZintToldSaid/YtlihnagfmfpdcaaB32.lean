/- Texts of one seat, put together: ZTexts Open OpenZ DecOrd. -/
import Derived.Test.YtlihnagfmfpdcaaB27
import Derived.Test.YtlihnagfmfpdcaaB29
import Derived.Test.YtlihnagfmfpdcaaB31
import Derived.Test.YtlihnagfmfpdcaaB02
import Derived.ProofKit
import Derived.OpenShut
import Derived.ShutString
import Derived.ChangeOld
import Derived.Below
import Derived.Lib.SmallJoins
import Derived.Test.YtlihnagfmfpdcaaB19
/- plumblinelaw02.telling, plumblinelaw02.ZintTexts: the walks. -/
namespace Go.Proofs.Ytlihnagfmfpdcaa
open Go.RowKit

def ZAnsP (q Z : Int) (w : World) (e : Ending) (w' : World) : Prop := ∃ v k, e = .returned (.tuple #[v, .int .i64 q]) ∧ ZRes w' v Z k ∧ k ≤ 500 ∧ Below w.heap.size w w'
theorem m12_body : body ⟨#[45, 49, 50]⟩ = ⟨#[49, 50]⟩ := by
  have h : Dash ⟨#[45, 49, 50]⟩ := by decide
  unfold body
  rw [if_pos h]
  apply ByteArray.ext
  decide
theorem m12_code : zcode ⟨#[45, 49, 50]⟩ = 0 := by
  unfold zcode
  rw [m12_body]
  decide
theorem m12_val : zval ⟨#[45, 49, 50]⟩ = -12 := by
  unfold zval
  rw [m12_body]
  decide
theorem mm1_body : body ⟨#[45, 45, 49]⟩ = ⟨#[45, 49]⟩ := by
  have h : Dash ⟨#[45, 45, 49]⟩ := by decide
  unfold body
  rw [if_pos h]
  apply ByteArray.ext
  decide
theorem mm1_code : zcode ⟨#[45, 45, 49]⟩ = 20 := by
  unfold zcode
  rw [mm1_body]
  decide
theorem zparse_m12 (w : World) : Calls Try.prog 33 #[.string ⟨#[45, 49, 50]⟩] w (ZAnsP 0 (-12) w) := by
  have := zparse_all ⟨#[45, 49, 50]⟩ w (by decide)
  unfold ZParsePost at this
  rw [m12_code, m12_val] at this
  exact this
theorem zparse_mm1 (w : World) : Calls Try.prog 33 #[.string ⟨#[45, 45, 49]⟩] w (ZAnsP 20 (zval ⟨#[45, 45, 49]⟩) w) := by
  have := zparse_all ⟨#[45, 45, 49]⟩ w (by decide)
  unfold ZParsePost at this
  rw [mm1_code] at this
  exact this
theorem m12_text : ztext (-12) = ⟨#[45, 49, 50]⟩ := by
  have e : Dec.text (Int.natAbs (-12)) = ⟨#[49, 50]⟩ := by
    rw [show Int.natAbs (-12) = 12 from rfl]
    unfold Dec.text
    rw [isLen_dlen (k := 2) ⟨by omega, by omega, Or.inr (by omega)⟩]
    apply ByteArray.ext
    decide
  rw [ztext_neg (by omega), e]
  apply ByteArray.ext
  decide
def TextIs (t : ByteArray) (w : World) (e : Ending) (w' : World) : Prop := e = .returned (.string t) ∧ Below w.heap.size w w'
theorem ztext_m12 (v : Value) (k : Nat) (w : World) (hv : ZRes w v (-12) k) (hk : k ≤ 500) : Calls Try.prog 35 #[v] w (TextIs ⟨#[45, 49, 50]⟩ w) := by
  have := ztext_z v (-12) k w hv.in_ (by omega)
  unfold ZTextPost at this
  rw [m12_text] at this
  exact this
theorem ztext_0 (w : World) : Calls Try.prog 35 #[.agg #[.bool true, .slice none 0 0]] w (TextIs ⟨#[48]⟩ w) := by
  have := ztext_z (.agg #[.bool true, .slice none 0 0]) 0 0 w ⟨true, none, 0, 0, [], rfl, Nums.nil _ _, by omega, by omega, by omega, rfl⟩ (by omega)
  unfold ZTextPost at this
  rw [ztext_pos (by omega), show Int.natAbs 0 = 0 from rfl, zero_text] at this
  exact this
set_option maxHeartbeats 4000000 in
theorem ztelling_any (w : World) : Calls Try.prog 32 #[] w (YesPost w) := by
  have K : Keeps w [] w := Keeps.nil (Below.refl _ _)
  go_enter Try.func32, Try.ntmps32
  go_wp2_with fail
  refine (zparse_m12 w).mono ?_
  rintro e w1 ⟨v1, k1, rfl, r1, hk1, b1⟩
  replace K := K.call b1
  clear b1
  obtain ⟨sA, AA, nA, cA, rfl⟩ := r1.form
  have tt := bl_alloc w1 (.cells #[.bool sA, .slice AA nA cA] 38)
  replace K := K.made1 (a := .bool sA) (b := .slice AA nA cA)
  replace r1 := r1.below tt
  clear tt
  go_wp2_with fail
  refine (zparse_mm1 (w1.alloc (.cells #[.bool sA, .slice AA nA cA] 38))).mono ?_
  rintro e w2 ⟨v2, k2, rfl, r2, hk2, b2⟩
  replace K := K.call b2
  replace r1 := r1.below b2
  clear b2
  obtain ⟨sB, AB, nB, cB, rfl⟩ := r2.form
  have tt := bl_alloc w2 (.cells #[.bool sB, .slice AB nB cB] 38)
  replace K := K.made1 (a := .bool sB) (b := .slice AB nB cB)
  replace r1 := r1.below tt
  replace r2 := r2.below tt
  clear tt
  have cAa := (K.blk (List.Mem.tail _ (List.Mem.head _))).c0
  have cAb := (K.blk (List.Mem.tail _ (List.Mem.head _))).c1
  go_wp2_with fail
  refine (is_yes _ (-12) k1 (w2.alloc (.cells #[.bool sB, .slice AB nB cB] 38)) r1 (by omega) (by omega) (by omega)).mono ?_
  rintro e w3 ⟨rfl, b3⟩
  clear cAa cAb
  replace K := K.call b3
  replace r1 := r1.below b3
  replace r2 := r2.below b3
  clear b3
  have cAa := (K.blk (List.Mem.tail _ (List.Mem.head _))).c0
  have cAb := (K.blk (List.Mem.tail _ (List.Mem.head _))).c1
  go_wp2_with fail
  refine (ztext_m12 _ k1 w3 r1 hk1).mono ?_
  rintro e w4 ⟨rfl, b4⟩
  clear cAa cAb
  replace K := K.call b4
  replace r1 := r1.below b4
  replace r2 := r2.below b4
  clear b4
  go_wp2_with fail
  refine (ztext_0 w4).mono ?_
  rintro e w5 ⟨rfl, b5⟩
  replace K := K.call b5
  replace r1 := r1.below b5
  replace r2 := r2.below b5
  clear b5
  go_wp2_with fail
  go_ret
  exact ⟨rfl, K.old⟩

set_option maxRecDepth 100000 in
set_option maxHeartbeats 8000000 in
theorem zintTexts_walk (z : ByteArray) (s : Bool) (A : Option Addr) (n c : Nat) (xs : List Nat) (w : World) (hz : z.size ≤ 9223372036854775807) (hx : Nums w A n xs) (hc : n ≤ c) (hm : c ≤ 9223372036854775807) :
    Calls Try.prog 7 #[.string z, .agg #[.bool s, .slice A n c]] w (YesPost w) := by
  obtain ⟨x, z2, -⟩ := zstart1 w #[.bool s, .slice A n c]
  have K := (Keeps.nil z2).add x (by omega)
  clear x z2
  by_cases hsk : n ≤ 20 ∧ (z.size ≤ 300 ∨ 4001 < z.size)
  · obtain ⟨hn, hsz⟩ := hsk
    have hv : ZIn w (.agg #[.bool s, .slice A n c]) (sg s (Limb.val xs)) 20 := ⟨s, A, n, c, xs, rfl, hx, hc, hm, hn, rfl⟩
    generalize sg s (Limb.val xs) = Y at *
    have HP := hide (fun W => zparse_all z W hz)
    have HQ := hide (fun W => rzparse_all z W hz)
    unfold ZParsePost at HP HQ
    generalize zcode z = q at *
    generalize zval z = Z at *
    rcases hsz with hsz | hsz
    all_goals
      go_enter Try.func7, Try.ntmps7
      go_wp2_with fail
      refine (ztelling_any _).mono ?_
      rintro e w1 ⟨rfl, b1⟩
      replace K := K.call b1
      clear b1
      have cxa := (K.blk (List.Mem.head _)).c0
      have cxb := (K.blk (List.Mem.head _)).c1
      go_wp2_with fail
      refine (HP.out _).mono ?_
      clear cxa cxb
      rintro e w2 ⟨v2, k2, rfl, r2, hk2, b2⟩
      replace K := K.call b2
      clear b2
      obtain ⟨sX, AX, nX, cX, rfl⟩ := r2.form
      have tt := bl_alloc w2 (.cells #[.bool sX, .slice AX nX cX] 38)
      replace K := K.made1 (a := .bool sX) (b := .slice AX nX cX)
      replace r2 := r2.below tt
      clear tt
      go_wp2_with fail
      refine (HQ.out (w2.alloc (.cells #[.bool sX, .slice AX nX cX] 38))).mono ?_
      rintro e w3 ⟨v3, k3, rfl, r3, hk3, b3⟩
      replace K := K.call b3
      replace r2 := r2.below b3
      clear b3
      obtain ⟨sY, AY, nY, cY, rfl⟩ := r3.form
      have tt := bl_alloc w3 (.cells #[.bool sY, .slice AY nY cY] 38)
      replace K := K.made1 (a := .bool sY) (b := .slice AY nY cY)
      replace r2 := r2.below tt
      replace r3 := r3.below tt
      clear tt
      have SOF := hide (show ∀ W, Keeps w [(w3.heap.size, .bool sY, .slice AY nY cY), (w2.heap.size, .bool sX, .slice AX nX cX), (w.heap.size, .bool s, .slice A n c)] W → (fun W => Keeps w [(w3.heap.size, .bool sY, .slice AY nY cY), (w2.heap.size, .bool sX, .slice AX nX cX), (w.heap.size, .bool s, .slice A n c)] W ∧ W.cell? ⟨w3.heap.size, 0, none⟩ = some (.bool sY) ∧ W.cell? ⟨w3.heap.size, 1, none⟩ = some (.slice AY nY cY) ∧ W.cell? ⟨w2.heap.size, 0, none⟩ = some (.bool sX) ∧ W.cell? ⟨w2.heap.size, 1, none⟩ = some (.slice AX nX cX) ∧ W.cell? ⟨w.heap.size, 0, none⟩ = some (.bool s) ∧ W.cell? ⟨w.heap.size, 1, none⟩ = some (.slice A n c)) W from fun W k => ⟨k, (k.blk (List.Mem.head _)).c0, (k.blk (List.Mem.head _)).c1, (k.blk (List.Mem.tail _ (List.Mem.head _))).c0, (k.blk (List.Mem.tail _ (List.Mem.head _))).c1, (k.blk (List.Mem.tail _ (List.Mem.tail _ (List.Mem.head _)))).c0, (k.blk (List.Mem.tail _ (List.Mem.tail _ (List.Mem.head _)))).c1⟩)
      have HK := hide K
      have T4 : Below (w3.alloc (.cells #[.bool sY, .slice AY nY cY] 38)).heap.size (w3.alloc (.cells #[.bool sY, .slice AY nY cY] 38)) (w3.alloc (.cells #[.bool sY, .slice AY nY cY] 38)).drew := bl_drewN (w3.alloc (.cells #[.bool sY, .slice AY nY cY] 38)) 1
      clear K
      go_wp2_with fail
      go_region_held3 (fun W => Keeps w [(w3.heap.size, .bool sY, .slice AY nY cY), (w2.heap.size, .bool sX, .slice AX nX cX), (w.heap.size, .bool s, .slice A n c)] W ∧ W.cell? ⟨w3.heap.size, 0, none⟩ = some (.bool sY) ∧ W.cell? ⟨w3.heap.size, 1, none⟩ = some (.slice AY nY cY) ∧ W.cell? ⟨w2.heap.size, 0, none⟩ = some (.bool sX) ∧ W.cell? ⟨w2.heap.size, 1, none⟩ = some (.slice AX nX cX) ∧ W.cell? ⟨w.heap.size, 0, none⟩ = some (.bool s) ∧ W.cell? ⟨w.heap.size, 1, none⟩ = some (.slice A n c))
        (with_reducible first | exact SOF.out _ HK.out.drew | exact SOF.out _ (Keeps.call (And.left (a := Keeps w _ _) (by assumption)) (by assumption)))
        (first
          | (go_at_call 27; (with_reducible refine (z2same_yes _ _ Z k2 k3 (w3.alloc (.cells #[.bool sY, .slice AY nY cY] 38)).drew (r2.below T4) (r3.below T4) (by omega)).mono ?_); rintro e w5 ⟨rfl, b5⟩; have T5 := T4.next b5)
          | (go_at_call 35; (with_reducible refine (ztext_z _ Y 20 w5 (hv.below (HK.out.old.next T5)) (by omega)).mono ?_); rintro e w6 ⟨rfl, b6⟩; have T6 := T5.next b6)
          | (go_at_call 36; (with_reducible refine (rztext_z _ Y 20 w6 (hv.below (HK.out.old.next T6)) (by omega)).mono ?_); rintro e w7 ⟨rfl, b7⟩; have T7 := T6.next b7))
      have K := HK.out.call T7
      replace r2 := r2.below T7
      replace r3 := r3.below T7
      clear HK SOF T4 T5 T6 T7
      go_wp2_with fail
      go_ret
      exact ⟨rfl, K.old⟩
  · have hno : 20 < n ∨ (n ≤ 20 ∧ 300 < z.size ∧ z.size ≤ 4001) := by omega
    clear hsk
    rcases hno with h1 | ⟨h1, h2, h3⟩
    all_goals
      go_enter Try.func7, Try.ntmps7
      go_wp2_with fail
      refine (ztelling_any _).mono ?_
      rintro e w1 ⟨rfl, b1⟩
      replace K := K.call b1
      clear b1
      have cxa := (K.blk (List.Mem.head _)).c0
      have cxb := (K.blk (List.Mem.head _)).c1
      go_wp2_with fail
      go_ret
      exact ⟨rfl, K.old⟩
end Go.Proofs.Ytlihnagfmfpdcaa
/- What the row's arguments are opened to. -/
namespace Go.Proofs.Ytlihnagfmfpdcaa
open Go.ChangeShapes Go.WideShapes Go.ChangeAt Go.RowKit
open Go.ChangeMaps (open_string shut_string)

theorem own : ownKnob Try.prog.godebug = none := by kernel_rfl
theorem laidOut : laidOutB Try.prog = true := by kernel_rfl

theorem wf_u32 {z : Int} (h : (Lit.int .u32 z).wf = true) : 0 ≤ z ∧ z < 4294967296 := by
  have h1 : IntKind.u32.min = 0 := rfl
  have h2 : IntKind.u32.max = 4294967295 := rfl
  simp only [Lit.wf, Bool.and_eq_true, decide_eq_true_eq] at h
  omega

theorem open_nums {H : Type} {enc : TypeId × Value → H} {W : World} {a0 : Option Addr} {len0 cap0 : Nat} {d : DataW H} {p : List MemPlace}
    (h0 : DataW.Trod enc Try.prog W 0 (fun _ => true) true 23 (.slice a0 len0 cap0) d p) : ∃ xs, Nums W a0 len0 xs ∧ len0 ≤ cap0 ∧ cap0 ≤ 9223372036854775807 := by
  obtain ⟨fuel, hf⟩ := h0
  rcases open_ints Try.underlying23 Try.underlying59 (by kernel_rfl) hf with ⟨hcs, _⟩ | ⟨x, l, c, zs, hcs, _, hl, hm, hz, _, hcell, hwz⟩
  · simp [Value.cells] at hcs
    obtain ⟨rfl, rfl, rfl⟩ := hcs
    exact ⟨[], Nums.nil _ _, by omega, by omega⟩
  · simp [Value.cells] at hcs
    obtain ⟨rfl, rfl, rfl⟩ := hcs
    have hz2 : zs.length = cap0 := by simpa using hz
    unfold maxLen at hm
    refine ⟨(zs.take len0).map Int.toNat, ⟨by simp; omega, ?_, ?_⟩, hl, hm⟩
    · intro y hy
      obtain ⟨z, hz1, rfl⟩ := List.mem_map.1 hy
      have := wf_u32 (hwz z (List.mem_of_mem_take hz1))
      omega
    · intro hn
      have h1 := hcell 0 (by omega)
      obtain ⟨b, o, spot⟩ := x
      have hspot : spot = none := by simpa [Addr.add] using World.cell?_spot h1
      subst hspot
      refine ⟨b, o, rfl, fun i hi => ?_⟩
      have h2 := hcell i (by omega)
      have e : (⟨b, o, none⟩ : Addr).add i = ⟨b, o + i, none⟩ := by
        by_cases hi0 : i = 0
        · subst hi0; rfl
        · simp [Addr.add, hi0]
      rw [e] at h2
      rw [h2]
      have hlt : i < zs.length := by omega
      have hw := wf_u32 (hwz zs[i] (List.getElem_mem hlt))
      have e1 : zs.getD i 0 = zs[i] := by rw [List.getD_eq_getElem?_getD, List.getElem?_eq_getElem hlt]; rfl
      have e2 : ((zs.take len0).map Int.toNat).getD i 0 = zs[i].toNat := by
        rw [List.getD_eq_getElem?_getD, List.getElem?_map, List.getElem?_take_of_lt hi, List.getElem?_eq_getElem hlt]; rfl
      rw [e1, e2]
      congr 2
      omega
end Go.Proofs.Ytlihnagfmfpdcaa
/- What a row's argument of type api.Int is opened to. -/
namespace Go.Proofs.Ytlihnagfmfpdcaa
open Go.ChangeShapes Go.WideShapes Go.ChangeAt Go.RowKit
open Go.ChangeMaps (open_string shut_string)

theorem open_nums1 {H : Type} {enc : TypeId × Value → H} {W : World} {v : Value} {x : DataW H × List MemPlace} {f : Nat}
    (hf : DataW.trod enc Try.prog W 0 (fun _ => true) true f 23 [v] = some x) : ∃ a len cap xs, v = .slice a len cap ∧ Nums W a len xs ∧ len ≤ cap ∧ cap ≤ 9223372036854775807 := by
  rcases open_ints Try.underlying23 Try.underlying59 (by kernel_rfl) hf with ⟨hcs, _⟩ | ⟨y, l, c, zs, hcs, _⟩
  · injection hcs with hcs
    subst hcs
    exact ⟨none, 0, 0, [], rfl, Nums.nil _ _, by omega, by omega⟩
  · injection hcs with hcs
    subst hcs
    obtain ⟨xs, h1, h2, h3⟩ := open_nums (a0 := some y) (len0 := l) (cap0 := c) (d := x.1) (p := x.2) (W := W) (enc := enc) ⟨f, hf⟩
    exact ⟨some y, l, c, xs, rfl, h1, h2, h3⟩
set_option maxRecDepth 100000 in
theorem open_zint {H : Type} {enc : TypeId × Value → H} {W : World} {b : Nat} {v : Value} {d : DataW H} {p : List MemPlace} (hv : Value.okWide Try.prog W .any b 38 v)
    (h0 : DataW.Trod enc Try.prog W 0 (fun _ => true) true 38 v d p) : ∃ s a len cap xs, v = .agg #[.bool s, .slice a len cap] ∧ Nums W a len xs ∧ len ≤ cap ∧ cap ≤ 9223372036854775807 := by
  obtain ⟨v0, v1, y0, y1, n, rfl, -, -, t0, t1⟩ := Go.Joins.open_agg2 Try.underlying38 (by kernel_rfl) (by kernel_rfl) hv h0
  obtain ⟨s, e0, -⟩ := DataW.trod_bool Try.underlying4 t0
  injection e0 with e0
  subst e0
  obtain ⟨a, len, cap, xs, rfl, h1, h2, h3⟩ := open_nums1 t1
  exact ⟨s, a, len, cap, xs, rfl, h1, h2, h3⟩
end Go.Proofs.Ytlihnagfmfpdcaa
/- Texts of digits: their order, and the number that they spell. -/
namespace Go.Proofs.Ytlihnagfmfpdcaa
open Go.RowKit

theorem u8n (x : Nat) (h : x < 256) : (UInt8.ofNat x).toNat = x := by
  have : (UInt8.ofNat x).toNat = x % 256 := rfl
  omega
theorem byteAt_str (xs : List Nat) (i : Nat) (h : i < xs.length) (hb : ∀ x ∈ xs, x < 256) : byteAt (Dec.str xs) i = xs.getD i 0 := by
  have hs : i < (Dec.str xs).size := by rw [Dec.str_size]; exact h
  rw [byteAt_eq _ _ hs]
  have e : (Dec.str xs)[i] = (Dec.str xs).data.toList[i]'(by rw [Dec.str_data]; simpa using h) := by simp [ByteArray.getElem_eq_getElem_data]
  rw [e]
  have e2 : (Dec.str xs).data.toList[i]'(by rw [Dec.str_data]; simpa using h) = UInt8.ofNat xs[i] := by simp [Dec.str_data]
  rw [e2, u8n _ (hb _ (List.getElem_mem h)), List.getD_eq_getElem?_getD, List.getElem?_eq_getElem h]
  rfl
theorem byteAt_low (N k i : Nat) (h : i < k) : byteAt (Dec.str (Dec.low N k)) i = 48 + N / 10 ^ (k - 1 - i) % 10 := by
  rw [byteAt_str _ _ (by rw [Dec.low_length]; exact h) (fun x hx => by have := Dec.low_byte N k x hx; omega), Dec.low_get N k i h]
theorem low_allDig (N k : Nat) : allDig (Dec.str (Dec.low N k)) := by
  intro i hi
  rw [Dec.str_size, Dec.low_length] at hi
  rw [byteAt_low N k i hi]
  omega
theorem low_num (N k : Nat) (h : N < 10 ^ k) : numOf (Dec.str (Dec.low N k)) (Dec.str (Dec.low N k)).size = N := by
  rw [Dec.str_size, Dec.low_length]
  unfold numOf
  rw [Dec.upto_low N k h _ (fun i hi => by rw [byteAt_low N k i hi]; omega) k (Nat.le_refl _), Nat.sub_self, Nat.pow_zero, Nat.div_one]
theorem low_size (N k : Nat) : (Dec.str (Dec.low N k)).size = k := by rw [Dec.str_size, Dec.low_length]
theorem low_nought (N k : Nat) (h : N < 10 ^ k) : (⟨#[48]⟩ : ByteArray) ++ Dec.str (Dec.low N k) = Dec.str (Dec.low N (k + 1)) := by
  have := str_cons 48 (Dec.low N k)
  rw [Dec.low, Nat.div_eq_of_lt h]
  exact this
theorem pow_more {N k : Nat} (h : N < 10 ^ k) : N < 10 ^ (k + 1) := Nat.lt_of_lt_of_le h (Nat.pow_le_pow_right (by omega) (by omega))
theorem mod_split (N k : Nat) : N % 10 ^ (k + 1) = N / 10 ^ k % 10 * 10 ^ k + N % 10 ^ k := by
  rw [Nat.pow_succ, Nat.mod_mul, Nat.mul_comm]; omega
theorem dig_lt (d e : Nat) (hd : d < 10) (he : e < 10) : (UInt8.ofNat (48 + d) < UInt8.ofNat (48 + e)) ↔ d < e := by
  rw [UInt8.lt_iff_toNat_lt, u8n _ (by omega), u8n _ (by omega)]
  omega
theorem dig_eq (d e : Nat) (hd : d < 10) (he : e < 10) : (UInt8.ofNat (48 + d) = UInt8.ofNat (48 + e)) ↔ d = e := by
  rw [← UInt8.toNat_inj, u8n _ (by omega), u8n _ (by omega)]
  omega
theorem digit_order (p a b x y : Nat) (hx : x < p) (hy : y < p) : (a * p + x < b * p + y) ↔ (a < b ∨ a = b ∧ x < y) := by
  constructor
  · intro h
    rcases Nat.lt_trichotomy a b with h1 | h1 | h1
    · exact Or.inl h1
    · subst h1; exact Or.inr ⟨rfl, by omega⟩
    · have := Nat.mul_le_mul_right p (show b + 1 ≤ a by omega)
      rw [Nat.add_mul] at this; omega
  · rintro (h | ⟨rfl, h⟩)
    · have := Nat.mul_le_mul_right p (show a + 1 ≤ b by omega)
      rw [Nat.add_mul] at this; omega
    · omega
theorem digit_same (p a b x y : Nat) (hx : x < p) (hy : y < p) : (a * p + x = b * p + y) ↔ (a = b ∧ x = y) := by
  have h1 := digit_order p a b x y hx hy
  have h2 := digit_order p b a y x hy hx
  omega
theorem less_low (N M k : Nat) : Op.bytesLess ((Dec.low N k).map UInt8.ofNat) ((Dec.low M k).map UInt8.ofNat) = decide (N % 10 ^ k < M % 10 ^ k) := by
  induction k with
  | zero => simp [Dec.low, Op.bytesLess, Nat.mod_one]
  | succ k ih =>
    have hp : 0 < 10 ^ k := Nat.pow_pos (by omega)
    rw [Dec.low, Dec.low, List.map_cons, List.map_cons, Op.bytesLess, ih, mod_split N k, mod_split M k]
    have h1 := dig_lt (N / 10 ^ k % 10) (M / 10 ^ k % 10) (Nat.mod_lt _ (by omega)) (Nat.mod_lt _ (by omega))
    have h2 := dig_eq (N / 10 ^ k % 10) (M / 10 ^ k % 10) (Nat.mod_lt _ (by omega)) (Nat.mod_lt _ (by omega))
    have h3 := digit_order (10 ^ k) (N / 10 ^ k % 10) (M / 10 ^ k % 10) (N % 10 ^ k) (M % 10 ^ k) (Nat.mod_lt _ hp) (Nat.mod_lt _ hp)
    rw [Bool.eq_iff_iff]
    simp only [Bool.or_eq_true, Bool.and_eq_true, decide_eq_true_eq, beq_iff_eq]
    rw [h1, h2, h3]
theorem same_low (N M k : Nat) : ((Dec.low N k).map UInt8.ofNat == (Dec.low M k).map UInt8.ofNat) = decide (N % 10 ^ k = M % 10 ^ k) := by
  induction k with
  | zero => simp [Dec.low, Nat.mod_one]
  | succ k ih =>
    have hp : 0 < 10 ^ k := Nat.pow_pos (by omega)
    have h2 := dig_eq (N / 10 ^ k % 10) (M / 10 ^ k % 10) (Nat.mod_lt _ (by omega)) (Nat.mod_lt _ (by omega))
    have h3 := digit_same (10 ^ k) (N / 10 ^ k % 10) (M / 10 ^ k % 10) (N % 10 ^ k) (M % 10 ^ k) (Nat.mod_lt _ hp) (Nat.mod_lt _ hp)
    rw [Dec.low, Dec.low, List.map_cons, List.map_cons, List.cons_beq_cons, ih, mod_split N k, mod_split M k]
    rw [Bool.eq_iff_iff]
    simp only [Bool.and_eq_true, decide_eq_true_eq, beq_iff_eq]
    rw [h2, h3]
theorem low_toList (N k : Nat) : (Dec.str (Dec.low N k)).toList = (Dec.low N k).map UInt8.ofNat := by rw [Lib.toList_data, Dec.str_data]
/-- Texts of as many digits stand in the order of their numbers. -/
theorem text_less {N M : Nat} (h : Dec.dlen N = Dec.dlen M) : Op.bytesLess (Dec.text N).toList (Dec.text M).toList = decide (N < M) := by
  unfold Dec.text
  have h1 := (Dec.dlen_is N).2.1
  have h2 := (Dec.dlen_is M).2.1
  rw [← h] at h2 ⊢
  rw [low_toList, low_toList, less_low, Nat.mod_eq_of_lt h1, Nat.mod_eq_of_lt h2]
theorem text_same {N M : Nat} (h : Dec.dlen N = Dec.dlen M) : ((Dec.text N).toList == (Dec.text M).toList) = decide (N = M) := by
  unfold Dec.text
  have h1 := (Dec.dlen_is N).2.1
  have h2 := (Dec.dlen_is M).2.1
  rw [← h] at h2 ⊢
  rw [low_toList, low_toList, same_low, Nat.mod_eq_of_lt h1, Nat.mod_eq_of_lt h2]
theorem dlen_less {N M : Nat} (h : Dec.dlen N ≠ Dec.dlen M) : decide (Dec.dlen N < Dec.dlen M) = decide (N < M) := by
  have h1 := fun hl => Dec.isLen_le (Dec.dlen_is N) (Dec.dlen_is M) hl
  have h2 := fun hl => Dec.isLen_le (Dec.dlen_is M) (Dec.dlen_is N) hl
  rw [decide_eq_decide]
  constructor
  · intro h3
    rcases Nat.lt_or_ge N M with h4 | h4
    · exact h4
    · have := h2 h4; omega
  · intro h3
    have := h1 (by omega)
    omega
theorem isLen_dlen0 : Dec.dlen 0 = 1 := Dec.isLen_uniq (Dec.dlen_is 0) ⟨by omega, by omega, Or.inl rfl⟩
theorem first_byte {N : Nat} (h : 1 < Dec.dlen N) : byteAt (Dec.text N) 0 ≠ 48 := by
  unfold Dec.text
  rw [byteAt_low N _ 0 (by omega), Nat.sub_zero]
  have h0 : N ≠ 0 := by
    rintro rfl
    have := isLen_dlen0
    omega
  have := Dec.top_digit N _ (Dec.dlen_is N) h0
  omega
end Go.Proofs.Ytlihnagfmfpdcaa
