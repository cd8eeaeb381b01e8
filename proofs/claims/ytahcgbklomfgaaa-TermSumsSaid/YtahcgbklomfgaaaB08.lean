/- Texts of one seat, put together: DivL Div Gcd RefDiv BitsAny ZMem Zint ZintB. -/
import Derived.Test.YtahcgbklomfgaaaB07
import Derived.Test.YtahcgbklomfgaaaB05
import Derived.Deep.LoopGhost
import Derived.Test.YtahcgbklomfgaaaB01
import Derived.Test.YtahcgbklomfgaaaB06
import Derived.Deep.RegionHeld3
set_option linter.unusedVariables false
/- nat.divideLong. -/
namespace Go.Proofs.Ytahcgbklomfgaaa
open Go.RowKit
open Limb (limb limb_lt upto upto_succ upto_all upto_zero)

def LzPost (x : Nat) (w : World) (e : Ending) (w' : World) : Prop := ∃ z : Nat, e = .returned (.int .i64 (z : Int)) ∧ z < 32 ∧ Hid (2147483648 ≤ x * 2 ^ z ∧ x * 2 ^ z < 4294967296) ∧ w = w'
theorem bitLen_of (x : Nat) (h0 : x ≠ 0) (h : x < 4294967296) : 1 ≤ Lib.bitLen x ∧ Lib.bitLen x ≤ 32 ∧ 2 ^ (Lib.bitLen x - 1) ≤ x ∧ x < 2 ^ Lib.bitLen x := by
  have h1 := Lib.bitLenAux_bounds 64 x (by omega) h0
  have h2 := Lib.bitLen_le x 32 (by omega) (by omega)
  exact ⟨h1.1, h2, h1.2.1, h1.2.2⟩
/-- The shifted divisor has as many limbs, the highest of which is great. -/
theorem norm_b (b j z : Nat) (hb : L b = j + 2) (hz : 2147483648 ≤ limb (Limb.canon b) (j + 1) * 2 ^ z) (hz2 : limb (Limb.canon b) (j + 1) * 2 ^ z < 4294967296) (hz3 : z < 32) :
    L (b * 2 ^ z) = j + 2 ∧ 2147483648 ≤ limb (Limb.canon (b * 2 ^ z)) (j + 1) ∧ 2147483648 * 4294967296 ^ (j + 1) ≤ b * 2 ^ z := by
  have e1 : b = upto (Limb.canon b) (j + 1) + 4294967296 ^ (j + 1) * limb (Limb.canon b) (j + 1) := by
    rw [← upto_succ, upto_all _ _ (by show L b ≤ j + 1 + 1; omega), Limb.val_canon]
  have h1 := upto_lt (Limb.canon b) (Limb.ok_canon b) (j + 1)
  have hp : 0 < 2 ^ z := Nat.pow_pos (by omega)
  generalize limb (Limb.canon b) (j + 1) = t at *
  generalize upto (Limb.canon b) (j + 1) = u at *
  have hlow : 4294967296 ^ (j + 1) * (t * 2 ^ z) ≤ b * 2 ^ z := by
    rw [← Nat.mul_assoc]
    exact Nat.mul_le_mul_right _ (by omega)
  have hhigh : b * 2 ^ z < 4294967296 ^ (j + 1) * (t * 2 ^ z + 2 ^ z) := by
    have h2 : b < 4294967296 ^ (j + 1) * (t + 1) := by rw [Nat.mul_add, Nat.mul_one]; omega
    have h3 : t * 2 ^ z + 2 ^ z = (t + 1) * 2 ^ z := by rw [Nat.add_mul, Nat.one_mul]
    rw [h3, ← Nat.mul_assoc]
    exact Nat.mul_lt_mul_of_pos_right h2 hp
  have htz : t * 2 ^ z + 2 ^ z ≤ 4294967296 := by
    have e2 : (4294967296 : Nat) = 2 ^ (32 - z) * 2 ^ z := (two_pows z (by omega)).symm
    have h4 : t < 2 ^ (32 - z) := by
      rw [e2] at hz2
      exact Nat.lt_of_mul_lt_mul_right hz2
    have h5 : (t + 1) * 2 ^ z ≤ 2 ^ (32 - z) * 2 ^ z := Nat.mul_le_mul_right _ h4
    rw [Nat.add_mul, Nat.one_mul] at h5
    omega
  have hlt : b * 2 ^ z < 4294967296 ^ (j + 2) := by
    have h6 := Nat.mul_le_mul_left (4294967296 ^ (j + 1)) htz
    have h7 : 4294967296 ^ (j + 2) = 4294967296 ^ (j + 1) * 4294967296 := Nat.pow_succ ..
    rw [h7]
    exact Nat.lt_of_lt_of_le hhigh h6
  have hge : 2147483648 * 4294967296 ^ (j + 1) ≤ b * 2 ^ z := by
    rw [Nat.mul_comm]
    exact Nat.le_trans (Nat.mul_le_mul_left _ hz) hlow
  have hL1 : L (b * 2 ^ z) ≤ j + 2 := L_le hlt
  have hL2 : j + 2 ≤ L (b * 2 ^ z) := by
    rcases Nat.lt_or_ge (L (b * 2 ^ z)) (j + 2) with h | h
    · have h8 := lt_L (b * 2 ^ z)
      have h9 := Nat.lt_of_lt_of_le h8 (Limb.pow_mono (show L (b * 2 ^ z) ≤ j + 1 by omega))
      have h10 : 1 * 4294967296 ^ (j + 1) ≤ 2147483648 * 4294967296 ^ (j + 1) := Nat.mul_le_mul_right _ (by omega)
      rw [Nat.one_mul] at h10
      omega
    · exact h
  have hLe : L (b * 2 ^ z) = j + 2 := by omega
  refine ⟨hLe, ?_, hge⟩
  have e3 : b * 2 ^ z = upto (Limb.canon (b * 2 ^ z)) (j + 1) + 4294967296 ^ (j + 1) * limb (Limb.canon (b * 2 ^ z)) (j + 1) := by
    rw [← upto_succ, upto_all _ _ (by show L (b * 2 ^ z) ≤ j + 1 + 1; omega), Limb.val_canon]
  have h11 := upto_lt (Limb.canon (b * 2 ^ z)) (Limb.ok_canon _) (j + 1)
  generalize limb (Limb.canon (b * 2 ^ z)) (j + 1) = t2 at *
  generalize upto (Limb.canon (b * 2 ^ z)) (j + 1) = u2 at *
  rw [e3, Nat.mul_comm] at hge
  have h12 : 4294967296 ^ (j + 1) * 2147483648 < 4294967296 ^ (j + 1) * (t2 + 1) := by rw [Nat.mul_add, Nat.mul_one]; omega
  have := Nat.lt_of_mul_lt_mul_left h12
  omega

/-- What holds once the quotient's limbs from k on are found. -/
def DLRel (g1 gq n m a' b' : Nat) (w : World) (k : Nat) (wr : World) : Prop :=
  ∃ curR curQ : List Nat, curR.length = n + 1 ∧ curQ.length = n - m + 1 ∧ Limb.Ok curR ∧ Limb.Ok curQ ∧ Row wr g1 curR ∧ Row wr gq curQ ∧ Below w.heap.size w wr ∧
    Limb.val curR + 4294967296 ^ k * (Limb.val (curQ.drop k) * b') = a' ∧ Limb.val (curR.drop k) < b'
theorem drop_small (zs : List Nat) (o k : Nat) (h : Limb.val (zs.drop (o + 1)) < 4294967296 ^ k) (hn : o + (k + 1) ≤ zs.length) : Limb.val (zs.drop o) = Limb.val (win zs o (k + 1)) := by
  refine (Limb.val_eq_of_limbs _ _ fun t => ?_).symm
  by_cases ht : t < k + 1
  · rw [limb_win' zs o (k + 1) t ht, Limb.limb_drop]
  · have h1 := Limb.limb_zero_of_lt _ (t - 1) (Nat.lt_of_lt_of_le h (Limb.pow_mono (show k ≤ t - 1 by omega)))
    rw [Limb.limb_drop] at h1
    rw [Limb.limb_beyond (by rw [win_length zs o (k + 1) hn]; omega), Limb.limb_drop]
    have : o + 1 + (t - 1) = o + t := by omega
    rw [← h1, this]
theorem dl_alg (R q b' rem P A V cur cur' Bk : Nat) (h1 : cur + Bk * (V * b') = A) (h2 : cur' + P * R = cur + P * rem) (h3 : b' * q + rem = R) (h4 : Bk = P * 4294967296) : cur' + P * ((q + 4294967296 * V) * b') = A := by
  subst h4
  subst h3
  have e1 : P * 4294967296 * (V * b') = P * (4294967296 * V * b') := by rw [Nat.mul_assoc, Nat.mul_assoc]
  rw [e1] at h1
  rw [Nat.mul_add] at h2
  rw [Nat.add_mul, Nat.mul_add, Nat.mul_comm q b']
  omega
theorem dl_fit {g1 gq n m a' b' : Nat} {w wr : World} {i : Nat} {curR : List Nat} (hlR : curR.length = n + 1) (hok : Limb.Ok curR) (hi : i + m ≤ n) (hb : b' < 4294967296 ^ m) (hlt : Limb.val (curR.drop (i + 1)) < b') :
    Limb.val (curR.drop i) = Limb.val (win curR i (m + 1)) ∧ Limb.val (win curR i (m + 1)) < 4294967296 * b' := by
  have h1 := drop_small curR i m (Nat.lt_trans hlt hb) (by omega)
  refine ⟨h1, ?_⟩
  rw [← h1, val_drop_limb curR i (by omega)]
  have := limb_lt hok i
  omega
theorem dl_step {g1 gq n m a' b' : Nat} {w wr w2 : World} {i : Nat} {curR curQ : List Nat} (hlR : curR.length = n + 1) (hlQ : curQ.length = n - m + 1) (hoR : Limb.Ok curR) (hoQ : Limb.Ok curQ) (hi : i + m ≤ n) (hb0 : 0 < b') (hb : b' < 4294967296 ^ m)
    (hv : Limb.val curR + 4294967296 ^ (i + 1) * (Limb.val (curQ.drop (i + 1)) * b') = a') (hlt : Limb.val (curR.drop (i + 1)) < b') (hq : Limb.val (win curR i (m + 1)) / b' < 4294967296)
    (hR : Row w2 g1 (put curR i (Limb.fixed (m + 1) (Limb.val (win curR i (m + 1)) % b')))) (hQ : Row w2 gq curQ) (hB : Below w.heap.size w w2) (hg : g1 ≠ gq) (hgq : w.heap.size ≤ gq) :
    DLRel g1 gq n m a' b' w i (w2.setCell ⟨gq, i, none⟩ (.int .u32 ((Limb.val (win curR i (m + 1)) / b' : Nat) : Int))) := by
  obtain ⟨h1, h2⟩ := dl_fit (g1 := g1) (gq := gq) (a' := a') (w := w) (wr := w2) hlR hoR hi hb hlt
  have hml := Nat.mod_lt (Limb.val (win curR i (m + 1))) hb0
  have hdm := Nat.div_add_mod (Limb.val (win curR i (m + 1))) b'
  have hmp : Limb.val (win curR i (m + 1)) % b' < 4294967296 ^ (m + 1) := Nat.lt_of_lt_of_le (Nat.lt_trans hml hb) (Limb.pow_mono (by omega))
  have hfit : i + (Limb.fixed (m + 1) (Limb.val (win curR i (m + 1)) % b')).length ≤ curR.length := by rw [Limb.fixed_length]; omega
  have e1 := val_put curR i (Limb.fixed (m + 1) (Limb.val (win curR i (m + 1)) % b')) hfit
  rw [Limb.fixed_length, Limb.fixed_val, Nat.mod_eq_of_lt hmp] at e1
  refine ⟨_, curQ.set i (Limb.val (win curR i (m + 1)) / b'), by rw [put_length _ _ _ hfit]; exact hlR, by simp [hlQ], put_ok hoR _ (Limb.fixed_ok _ _), hoQ.set _ _ hq, hR.far (p := ⟨gq, i, none⟩) hg _, hQ.set_ _ _, hB.setCell hgq _, ?_, ?_⟩
  · rw [val_drop_limb (curQ.set i _) i (by simp; omega), limb_set_self _ _ _ (by omega), drop_set_succ]
    exact dl_alg _ _ _ _ _ _ _ _ _ _ hv e1 hdm (Nat.pow_succ ..)
  · have e2 : (put curR i (Limb.fixed (m + 1) (Limb.val (win curR i (m + 1)) % b'))).drop i = Limb.fixed (m + 1) (Limb.val (win curR i (m + 1)) % b') ++ curR.drop (i + (m + 1)) := by
      unfold put
      have hl3 : (curR.take i).length = i := by rw [List.length_take]; omega
      rw [List.drop_append_of_le_length (by omega), List.drop_of_length_le (by omega), List.nil_append, Limb.fixed_length]
    have e3 : Limb.val (curR.drop (i + (m + 1))) = 0 := by
      have h3 := Limb.val_take_drop (curR.drop (i + 1)) m (by rw [List.length_drop]; omega)
      rw [List.drop_drop] at h3
      have h4 : i + 1 + m = i + (m + 1) := by omega
      rw [h4] at h3
      rcases Nat.eq_zero_or_pos (Limb.val (curR.drop (i + (m + 1)))) with h0 | h0
      · exact h0
      · have h5 : 1 ≤ Limb.val (curR.drop (i + (m + 1))) := h0
        have h6 := Nat.mul_le_mul_left (4294967296 ^ m) h5
        rw [Nat.mul_one] at h6
        omega
    rw [e2, Limb.val_append, Limb.fixed_val, Nat.mod_eq_of_lt hmp, e3, Nat.mul_zero, Nat.add_zero]
    exact hml

theorem dl_start (a' b' n m : Nat) (hmn : m ≤ n) (ha : a' < 4294967296 ^ n * 2147483648 * 2) (hm : 1 ≤ m) (hb : 2147483648 * 4294967296 ^ (m - 1) ≤ b') (zs : List Nat) (hl : zs.length = n + 1) (hv : Limb.val zs = a') (hz : a' < 4294967296 ^ n * 2147483648) : Limb.val (zs.drop (n - m + 1)) < b' := by
  have e := Limb.val_take_drop zs (n - m + 1) (by omega)
  rw [hv] at e
  have e2 : 4294967296 ^ n = 4294967296 ^ (n - m + 1) * 4294967296 ^ (m - 1) := by rw [← Nat.pow_add]; congr 1; omega
  rw [e2] at hz
  have h1 : 4294967296 ^ (n - m + 1) * Limb.val (zs.drop (n - m + 1)) < 4294967296 ^ (n - m + 1) * (2147483648 * 4294967296 ^ (m - 1)) := by
    rw [Nat.mul_comm 2147483648, ← Nat.mul_assoc]
    omega
  exact Nat.lt_of_lt_of_le (Nat.lt_of_mul_lt_mul_left h1) hb

def TwoPost (N M : Nat) (w : World) (e : Ending) (w' : World) : Prop :=
  ∃ A n c B m d, e = .returned (.tuple #[.slice A n c, .slice B m d]) ∧ Own w' w.heap.size A n c N ∧ Own w' w.heap.size B m d M ∧ Below w.heap.size w w'

theorem limb_canon_top (b j : Nat) (h : L b = j + 2) : limb (Limb.canon b) (j + 1) ≠ 0 := by
  have ht := Limb.tight_canon b
  have hl : (Limb.canon b).length = j + 2 := h
  have hne : Limb.canon b ≠ [] := by intro hh; rw [hh] at hl; simp at hl
  have h1 := ht hne
  rw [List.getLast_eq_getElem] at h1
  unfold limb
  rw [List.getD_eq_getElem?_getD, List.getElem?_eq_getElem (by omega)]
  simpa [hl] using h1

theorem dl_end (cR cQ a b P : Nat) (hP : 0 < P) (h : cR + 4294967296 ^ 0 * (cQ * (b * P)) = a * P) (hlt : cR < b * P) : cQ = a / b ∧ cR / P = a % b := by
  rw [Nat.pow_zero, Nat.one_mul] at h
  have hb : 0 < b * P := by omega
  have e1 : a * P / (b * P) = cQ := by rw [← h, Nat.add_mul_div_right _ _ hb, Nat.div_eq_of_lt hlt, Nat.zero_add]
  have e2 : a * P % (b * P) = cR := by rw [← h, Nat.add_mul_mod_self_right, Nat.mod_eq_of_lt hlt]
  rw [Nat.mul_div_mul_right _ _ hP] at e1
  rw [Nat.mul_mod_mul_right] at e2
  exact ⟨e1.symm, by rw [← e2, Nat.mul_div_cancel _ hP]⟩

end Go.Proofs.Ytahcgbklomfgaaa
/- nat.divide, nat.Div, nat.Gcd. -/
namespace Go.Proofs.Ytahcgbklomfgaaa
open Go.RowKit
open Limb (limb limb_lt upto upto_succ upto_all upto_zero)

theorem lt2 (a : Nat) (h : L a ≤ 2) : a / 4294967296 < 4294967296 := by
  have h1 := Nat.lt_of_lt_of_le (lt_L a) (Limb.pow_mono h)
  have : (4294967296 : Nat) ^ 2 = 4294967296 * 4294967296 := by rfl
  rw [this] at h1
  exact Nat.div_lt_of_lt_mul h1

theorem canon_one' (x : Nat) (h0 : x ≠ 0) (h : x < 4294967296) : Limb.canon x = [x] := by
  rw [Limb.canon_pos x h0]
  have e1 : x % 4294967296 = x := by omega
  have e2 : x / 4294967296 = 0 := by omega
  rw [e1, e2, Limb.canon_zero]
end Go.Proofs.Ytahcgbklomfgaaa
/- nat.Div, nat.Gcd. -/
namespace Go.Proofs.Ytahcgbklomfgaaa
open Go.RowKit
open Limb (limb limb_lt upto upto_succ upto_all upto_zero)

def DivNoPost (w : World) (e : Ending) (w' : World) : Prop := e = .returned (.tuple #[.slice none 0 0, .slice none 0 0, .int .i64 10]) ∧ w = w'
def DivYesPost (N M : Nat) (w : World) (e : Ending) (w' : World) : Prop :=
  ∃ A n c B m d, e = .returned (.tuple #[.slice A n c, .slice B m d, .int .i64 0]) ∧ Own w' w.heap.size A n c N ∧ Own w' w.heap.size B m d M ∧ Below w.heap.size w w'

theorem lt_pow {w : World} {A : Option Addr} {n k : Nat} {xs : List Nat} (h : Nums w A n xs) (hk : n ≤ k) : Limb.val xs < 4294967296 ^ k := Nat.lt_of_lt_of_le h.lt (Limb.pow_mono hk)
theorem lt_two (a : Nat) (h : L a ≤ 2) : a ≤ 18446744073709551615 := by
  have := lt2 a h
  omega

end Go.Proofs.Ytahcgbklomfgaaa
/- plumblineref01: Bits, Bit, twice, Div. -/
namespace Go.Proofs.Ytahcgbklomfgaaa
open Go.RowKit

def RBitsPost (N : Nat) (w : World) (e : Ending) (w' : World) : Prop := e = .returned (.int .i64 ((Limb.bl N : Nat) : Int)) ∧ Below w.heap.size w w'

theorem canon_top (N k : Nat) (h : (Limb.canon N).length = k + 1) : 0 < Limb.limb (Limb.canon N) k := by
  have hne : Limb.canon N ≠ [] := fun h0 => by rw [h0] at h; cases h
  have ht := Limb.tight_canon N hne
  rw [List.getLast_eq_getElem] at ht
  unfold Limb.limb
  rw [List.getD_eq_getElem?_getD, List.getElem?_eq_getElem (by omega)]
  have e : (Limb.canon N).length - 1 = k := by omega
  simp only [e] at ht
  exact Nat.pos_of_ne_zero ht

def bitN (b : Bool) : Nat := if b then 1 else 0
end Go.Proofs.Ytahcgbklomfgaaa
/- nat.Bits; what calls answer. -/
namespace Go.Proofs.Ytahcgbklomfgaaa
open Go.RowKit
open Limb (limb limb_lt upto upto_succ upto_all upto_zero)

theorem bitLen_bl (x : Nat) (h0 : x ≠ 0) (h : x < 4294967296) : Lib.bitLen x = Limb.bl x := by
  obtain ⟨h1, h2, h3, h4⟩ := bitLen_of x h0 h
  have := Limb.bl_spec x (Lib.bitLen x - 1) h3 (by rw [Nat.sub_add_cancel h1]; exact h4)
  omega
def BitsPost (N : Nat) (w : World) (e : Ending) (w' : World) : Prop := e = .returned (.int .i64 ((Limb.bl N : Nat) : Int)) ∧ w = w'
def Len32Post (x : Nat) (w : World) (e : Ending) (w' : World) : Prop := e = .returned (.int .i64 ((Limb.bl x : Nat) : Int)) ∧ w = w'
theorem len32_any (x : Nat) (w : World) (h0 : x ≠ 0) (h : x < 4294967296) : Calls Try.prog 70 #[.int .u32 (x : Int)] w (Len32Post x w) := by
  refine (Try.bits_Len32 (x : Int) w (by omega) (by omega)).mono ?_
  rintro e w' ⟨rfl, rfl⟩
  rw [Int.toNat_natCast, bitLen_bl x h0 h]
  exact ⟨rfl, rfl⟩

set_option maxHeartbeats 1000000 in
theorem bits_any (A : Option Addr) (n c : Nat) (xs : List Nat) (w : World) (hx : Nums w A n xs) (hc : n ≤ c) (hm : c ≤ 9223372036854775807) (hb : n ≤ 1099511627776) :
    Calls Try.prog 49 #[.slice A n c] w (BitsPost (Limb.val xs) w) := by
  have hcut := isCut_det w A xs n hx
  have hdet := trimmed_det A n c xs w hx hc hm
  generalize Limb.val xs = a at *
  obtain ⟨-, hle, hN, -⟩ := hcut
  unfold TrimDetPost at hdet
  rcases Nat.eq_zero_or_pos (L a) with h0 | h0
  · have ha : Hid (a = 0) := hide ((Limb.canon_len_zero a).1 h0)
    rw [h0] at hdet
    clear h0 hN hle
    go_enter Try.func49, Try.ntmps49
    go_wp2_with fail
    refine hdet.mono ?_
    rintro e w' ⟨rfl, rfl⟩
    go_wp2_with fail
    go_ret
    exact ⟨by rw [ha.out]; rfl, rfl⟩
  · obtain ⟨k, hk⟩ : ∃ k, L a = k + 1 := ⟨L a - 1, by omega⟩
    rw [hk] at hdet hle hN
    have hk2 : (Limb.canon a).length = k + 1 := hk
    obtain ⟨b, o, x, hA, hx32, hxe, hcell⟩ := hN.at_ (i := k) (by omega)
    have hx0 := canon_top a k hk2
    have hbl := Limb.bl_limbs (Limb.canon a) k (Limb.ok_canon a) hk2 hx0
    rw [Limb.val_canon] at hbl
    have e1 : Limb.limb (Limb.canon a) k = x := hxe.symm
    rw [e1] at hbl hx0
    have HB := hide hbl
    have hblx := Limb.bl_le x 32 hx32
    rw [hA] at hdet
    clear hbl e1 hxe hA hk hk2 hN h0
    go_enter Try.func49, Try.ntmps49
    go_wp2_with fail
    refine hdet.mono ?_
    rintro e w' ⟨rfl, rfl⟩
    go_wp2_with fail
    refine (len32_any x _ (by omega) hx32).mono ?_
    rintro e w' ⟨rfl, rfl⟩
    go_wp2_with fail
    go_ret
    exact ⟨by rw [HB.out]; go_num, rfl⟩

/-- Bit i of N; there is none below 0. -/
theorem lt_cap {w : World} {A : Option Addr} {n k : Nat} {xs : List Nat} (h : Nums w A n xs) (hk : n ≤ k) : Limb.val xs < 4294967296 ^ k := Nat.lt_of_lt_of_le h.lt (Limb.pow_mono hk)
theorem own_c {w : World} {base : Nat} {A : Option Addr} {n c N : Nat} (o : Own w base A n c N) : n ≤ 4611686018427387904 := by
  have := o.2.1
  have := o.2.2.1
  omega
def LeftPost (N : Nat) (w : World) (e : Ending) (w' : World) : Prop := ∃ A n, e = .returned (.tuple #[.slice A n n, .int .i64 0]) ∧ Own w' w.heap.size A n n N ∧ Below w.heap.size w w'
def ErrPost (k : Int) (w : World) (e : Ending) (w' : World) : Prop := e = .returned (.tuple #[.slice none 0 0, .int .i64 k]) ∧ w = w'
def RefTwoPost (N : Nat) (w : World) (e : Ending) (w' : World) : Prop := ∃ A n c, e = .returned (.tuple #[.slice A n c, .int .i64 0]) ∧ Nums w' A n (Limb.canon N) ∧ n ≤ c ∧ c ≤ 9223372036854775807 ∧ Below w.heap.size w w'
end Go.Proofs.Ytahcgbklomfgaaa
/- Blocks that hold an api.Int: a parameter's own, a result's own; a store into one, and what a call hands back out of one. -/
namespace Go.Proofs.Ytahcgbklomfgaaa
open Go.RowKit

/-- Block g holds an api.Int of the cells cs. -/
def Blk (w : World) (g : Nat) (cs : Array Value) : Prop := w.heap[g]? = some (.cells cs 26 (0, 0))
theorem Blk.lt {w : World} {g : Nat} {cs : Array Value} (h : Blk w g cs) : g < w.heap.size := by
  rcases Nat.lt_or_ge g w.heap.size with hlt | hge
  · exact hlt
  · unfold Blk at h; rw [Array.getElem?_eq_none hge] at h; cases h
theorem Blk.c0 {w : World} {g : Nat} {x y : Value} (h : Blk w g #[x, y]) : w.cell? ⟨g, 0, none⟩ = some x := by
  rw [cell_of_row w g 0 _ _ _ h]; rfl
theorem Blk.c1 {w : World} {g : Nat} {x y : Value} (h : Blk w g #[x, y]) : w.cell? ⟨g, 1, none⟩ = some y := by
  rw [cell_of_row w g 1 _ _ _ h]; rfl
theorem Blk.fr {w : World} {g : Nat} {cs : Array Value} (h : Blk w g cs) (i : Nat) : w.frozen? ⟨g, i, none⟩ = false := by
  unfold Blk at h; simp [World.frozen?, h]
theorem Blk.below {w w' : World} {g B : Nat} {cs : Array Value} (h : Blk w g cs) (hb : Below B w w') (hg : g < B) : Blk w' g cs := (hb.block g hg).trans h
theorem Blk.next {w w' : World} {g : Nat} {cs : Array Value} (h : Blk w g cs) (hb : Below w.heap.size w w') : Blk w' g cs := h.below hb h.lt
theorem Blk.new (w : World) (cs : Array Value) : Blk (w.alloc (.cells cs 26)) w.heap.size cs := heap_alloc_new w _
theorem Blk.alloc {w : World} {g : Nat} {cs : Array Value} (h : Blk w g cs) (o : Obj) : Blk (w.alloc o) g cs := h.next (bl_alloc w o)
theorem Blk.drew {w : World} {g : Nat} {cs : Array Value} (h : Blk w g cs) : Blk w.drew g cs := h
theorem Blk.drewN {w : World} {g : Nat} {cs : Array Value} (h : Blk w g cs) (k : Nat) : Blk (w.drewN k) g cs := h
theorem Blk.other {w w' : World} {g r : Nat} {cs : Array Value} (h : Blk w g cs) (ho : Only r w w') (hne : g ≠ r) : Blk w' g cs :=
  (ho.block g h.lt (fun hh => hne (by injection hh))).trans h
theorem size_alloc (w : World) (o : Obj) : (w.alloc o).heap.size = w.heap.size + 1 := by
  show (w.heap.push o).size = _
  simp

/-- A fresh block beside what was there. -/
theorem zstart1 (w : World) (X : Array Value) : Blk (w.alloc (.cells X 26)) w.heap.size X ∧ Below w.heap.size w (w.alloc (.cells X 26)) ∧ (w.alloc (.cells X 26)).heap.size = w.heap.size + 1 :=
  ⟨Blk.new w X, bl_alloc w _, size_alloc w _⟩
theorem zstart2 (w : World) (X Y : Array Value) : Blk ((w.alloc (.cells X 26)).alloc (.cells Y 26)) w.heap.size X ∧ Blk ((w.alloc (.cells X 26)).alloc (.cells Y 26)) (w.heap.size + 1) Y ∧
    Below w.heap.size w ((w.alloc (.cells X 26)).alloc (.cells Y 26)) ∧ ((w.alloc (.cells X 26)).alloc (.cells Y 26)).heap.size = w.heap.size + 2 := by
  obtain ⟨h1, h2, h3⟩ := zstart1 w X
  obtain ⟨k1, k2, k3⟩ := zstart1 (w.alloc (.cells X 26)) Y
  rw [h3] at k1 k3
  exact ⟨h1.alloc _, k1, h2.next (bl_alloc _ _), by omega⟩
theorem zstart3 (w : World) (X Y Z : Array Value) : Blk (((w.alloc (.cells X 26)).alloc (.cells Y 26)).alloc (.cells Z 26)) w.heap.size X ∧ Blk (((w.alloc (.cells X 26)).alloc (.cells Y 26)).alloc (.cells Z 26)) (w.heap.size + 1) Y ∧
    Blk (((w.alloc (.cells X 26)).alloc (.cells Y 26)).alloc (.cells Z 26)) (w.heap.size + 1 + 1) Z ∧
    Below w.heap.size w (((w.alloc (.cells X 26)).alloc (.cells Y 26)).alloc (.cells Z 26)) ∧ (((w.alloc (.cells X 26)).alloc (.cells Y 26)).alloc (.cells Z 26)).heap.size = w.heap.size + 3 := by
  obtain ⟨h1, h2, h3, h4⟩ := zstart2 w X Y
  obtain ⟨k1, k2, k3⟩ := zstart1 ((w.alloc (.cells X 26)).alloc (.cells Y 26)) Z
  rw [h4] at k1 k3
  have e2 : w.heap.size + 2 = w.heap.size + 1 + 1 := rfl
  rw [e2] at k1
  exact ⟨h1.alloc _, h2.alloc _, k1, h3.next (bl_alloc _ _), by omega⟩

theorem wpList_store_z {w : World} {ops : Array Oper} {rest : List Oper} {o : Oper} {a : Act} {Q : Exit → Act → World → Prop} (hgd : o.guard = none) (x y : Operand) (ho : o.op = .store 26 x y)
    (g : Nat) (s : Bool) (A : Option Addr) (n c : Nat) (hx : a.eval x = .pointer (some ⟨g, 0, none⟩)) (hy : a.eval y = .agg #[.bool s, .slice A n c]) (u v : Value) (hb : Blk w g #[u, v])
    (h : ∀ w', Blk w' g #[.bool s, .slice A n c] → Only g w w' → wpList Try.prog ops Q rest (a.put o.dst undef) w') : wpList Try.prog ops Q (o :: rest) a w := by
  refine wpList_store_row hgd 26 x y ho g #[.bool s, .slice A n c] hx hy 26 #[u, v] hb (by kernel_rfl) rfl (by simp [Value.oneCell']) ?_
  refine h _ ?_ (only_setRow w g _)
  have := setRow_heap w g #[u, v] #[.bool s, .slice A n c] _ _ hb
  exact this

theorem Blk.set2 {w : World} {g : Nat} {u v : Value} (h : Blk w g #[u, v]) (x y : Value) : Blk ((w.setCell ⟨g, 0, none⟩ x).setCell ⟨g, 1, none⟩ y) g #[x, y] := by
  unfold Blk at h ⊢
  simp [World.setCell, Array.getElem?_modify, h]
theorem only_set2 (w : World) (g : Nat) (x y : Value) : Only g w ((w.setCell ⟨g, 0, none⟩ x).setCell ⟨g, 1, none⟩ y) := ((Only.refl g w).setCell 0 x).setCell 1 y
theorem bodyPost_z {fn : Func} {R : Ending → World → Prop} {a : Act} {w : World} {g p : Nat} {x y : Value} (hres : fn.results = #[.cell p 26]) (hp : a.tmps.getD p undef = .pointer (some ⟨g, 0, none⟩))
    (hb : Blk w g #[x, y]) (hd : a.defers = []) (hR : R (.returned (.agg #[x, y])) w) : bodyPost Try.prog fn R .ret a w :=
  bodyPost_ret (results_cell_row hres _ _ g _ #[x, y] _ _ hp hb Try.underlying26 rfl (by kernel_rfl)) hd hR
/-- Limbs are no cells of an api.Int. -/
theorem Nums.offBlk {w : World} {A : Option Addr} {n g : Nat} {xs : List Nat} {s : Bool} {B : Option Addr} {m d : Nat} (h : Nums w A n xs) (hb : Blk w g #[.bool s, .slice B m d]) : 0 < n → Apart A g := by
  intro hn ad had he
  obtain ⟨b, o, e, hc⟩ := h.2.2 hn
  have h0 := hc 0 hn
  rw [had] at e
  injection e with e
  subst e
  have he' : b = g := he
  subst he'
  rw [cell_of_row w b _ _ _ _ hb] at h0
  match o, h0 with
  | 0, h0 => simp at h0
  | 1, h0 => simp at h0
  | o + 2, h0 => simp at h0
theorem Nums.keepBlk {w w' : World} {A : Option Addr} {n g : Nat} {xs : List Nat} {s : Bool} {B : Option Addr} {m d : Nat} (h : Nums w A n xs) (hb : Blk w g #[.bool s, .slice B m d]) (ho : Only g w w') : Nums w' A n xs := h.grown' ho (h.offBlk hb)
theorem Nums.only {w w' : World} {A : Option Addr} {n g : Nat} {xs : List Nat} (h : Nums w A n xs) (ho : Only g w w') (ha : 0 < n → Apart A g) : Nums w' A n xs := h.grown' ho ha
end Go.Proofs.Ytahcgbklomfgaaa
/- zint: what a number with a sign reads as; signed, From, Sign, Neg, Abs, Cmp, Add, Sub, Mul, Min, Max, Of. -/
namespace Go.Proofs.Ytahcgbklomfgaaa
open Go.RowKit
open Limb (limb limb_lt upto upto_succ upto_all upto_zero)

def sg (s : Bool) (n : Nat) : Int := if s then -(n : Int) else (n : Int)
theorem sg_true (n : Nat) : sg true n = -(n : Int) := rfl
theorem sg_false (n : Nat) : sg false n = (n : Int) := rfl
theorem sg_natAbs (s : Bool) (n : Nat) : (sg s n).natAbs = n := by cases s <;> simp [sg]
theorem sg_zero (s : Bool) : sg s 0 = 0 := by cases s <;> rfl
theorem sg_canon (Z : Int) : sg (decide (Z < 0)) Z.natAbs = Z := by
  by_cases h : Z < 0
  · simp [h, sg]; omega
  · simp [h, sg]; omega
theorem sg_neg (s : Bool) (n : Nat) (h : 0 < n) : decide (sg s n < 0) = s := by cases s <;> simp [sg] <;> omega

/-- The value v reads as Z, of at most k limbs, in whatever form. -/
def ZIn (w : World) (v : Value) (Z : Int) (k : Nat) : Prop := ∃ s A n c xs, v = .agg #[.bool s, .slice A n c] ∧ Nums w A n xs ∧ n ≤ c ∧ c ≤ 9223372036854775807 ∧ n ≤ k ∧ Z = sg s (Limb.val xs)
/-- The value v reads as Z in the form of results. -/
def ZRes (w : World) (v : Value) (Z : Int) (k : Nat) : Prop := ∃ A n c, v = .agg #[.bool (decide (Z < 0)), .slice A n c] ∧ Nums w A n (Limb.canon Z.natAbs) ∧ n ≤ c ∧ c ≤ 9223372036854775807 ∧ n ≤ k
theorem ZRes.form {w : World} {v : Value} {Z : Int} {k : Nat} (h : ZRes w v Z k) : ∃ s A n c, v = .agg #[.bool s, .slice A n c] := by
  obtain ⟨A, n, c, rfl, _⟩ := h
  exact ⟨_, A, n, c, rfl⟩
theorem ZRes.in_ {w : World} {v : Value} {Z : Int} {k : Nat} (h : ZRes w v Z k) : ZIn w v Z k := by
  obtain ⟨A, n, c, rfl, h1, h2, h3, h4⟩ := h
  exact ⟨_, A, n, c, _, rfl, h1, h2, h3, h4, by rw [Limb.val_canon, sg_canon]⟩
theorem ZIn.below {w w' : World} {v : Value} {Z : Int} {k : Nat} (h : ZIn w v Z k) (hb : Below w.heap.size w w') : ZIn w' v Z k := by
  obtain ⟨s, A, n, c, xs, rfl, h1, h2, h3, h4, h5⟩ := h
  exact ⟨s, A, n, c, xs, rfl, h1.below hb, h2, h3, h4, h5⟩
theorem ZRes.below {w w' : World} {v : Value} {Z : Int} {k : Nat} (h : ZRes w v Z k) (hb : Below w.heap.size w w') : ZRes w' v Z k := by
  obtain ⟨A, n, c, rfl, h1, h2, h3, h4⟩ := h
  exact ⟨A, n, c, rfl, h1.below hb, h2, h3, h4⟩
theorem ZIn.drew {w : World} {v : Value} {Z : Int} {k : Nat} (h : ZIn w v Z k) : ZIn w.drew v Z k := h.below (bl_drewN w 1)
theorem ZIn.mono {w : World} {v : Value} {Z : Int} {k j : Nat} (h : ZIn w v Z k) (hj : k ≤ j) : ZIn w v Z j := by
  obtain ⟨s, A, n, c, xs, rfl, h1, h2, h3, h4, h5⟩ := h
  exact ⟨s, A, n, c, xs, rfl, h1, h2, h3, by omega, h5⟩
theorem ZIn.lt {w : World} {v : Value} {Z : Int} {k : Nat} (h : ZIn w v Z k) : Z.natAbs < 4294967296 ^ k := by
  obtain ⟨s, A, n, c, xs, rfl, h1, h2, h3, h4, rfl⟩ := h
  rw [sg_natAbs]
  exact Nat.lt_of_lt_of_le h1.lt (Limb.pow_mono h4)
theorem ZRes.short {w : World} {v : Value} {Z : Int} {k j : Nat} (h : ZRes w v Z k) (hj : Z.natAbs < 4294967296 ^ j) : ZRes w v Z j := by
  obtain ⟨A, n, c, rfl, h1, h2, h3, h4⟩ := h
  exact ⟨A, n, c, rfl, h1, h2, h3, short_canon h1 hj⟩
theorem ZRes.only {w w' : World} {v : Value} {Z : Int} {k g : Nat} {s : Bool} {B : Option Addr} {m d : Nat} (h : ZRes w v Z k) (hb : Blk w g #[.bool s, .slice B m d]) (ho : Only g w w') : ZRes w' v Z k := by
  obtain ⟨A, n, c, rfl, h1, h2, h3, h4⟩ := h
  exact ⟨A, n, c, rfl, h1.keepBlk hb ho, h2, h3, h4⟩
theorem ZIn.only {w w' : World} {v : Value} {Z : Int} {k g : Nat} {s : Bool} {B : Option Addr} {m d : Nat} (h : ZIn w v Z k) (hb : Blk w g #[.bool s, .slice B m d]) (ho : Only g w w') : ZIn w' v Z k := by
  obtain ⟨s, A, n, c, xs, rfl, h1, h2, h3, h4, h5⟩ := h
  exact ⟨s, A, n, c, xs, rfl, h1.keepBlk hb ho, h2, h3, h4, h5⟩
theorem ZRes.zero (w : World) (k : Nat) : ZRes w (.agg #[.bool false, .slice none 0 0]) 0 k := ⟨none, 0, 0, rfl, Nums.nil _ _, by omega, by omega, by omega⟩
theorem ZRes.ofEq {w : World} {v : Value} {Z Y : Int} {k : Nat} (h : ZRes w v Z k) (e : Z = Y) : ZRes w v Y k := e ▸ h

def ZPost (Z : Int) (k : Nat) (w : World) (e : Ending) (w' : World) : Prop := ∃ v, e = .returned v ∧ ZRes w' v Z k ∧ Below w.heap.size w w'
theorem zpost_eq {Z Y : Int} {k : Nat} {w : World} {e : Ending} {w' : World} (h : ZPost Z k w e w') (hZ : Z = Y) : ZPost Y k w e w' := hZ ▸ h

def SignedPost (s : Bool) (A : Option Addr) (n c N : Nat) (w : World) (e : Ending) (w' : World) : Prop := e = .returned (.agg #[.bool (decide (sg s N < 0)), .slice A n c]) ∧ Below w.heap.size w w'
theorem signed_any (s : Bool) (A : Option Addr) (n c N : Nat) (w : World) (hn : n = (Limb.canon N).length) (hm : n ≤ 9223372036854775807) :
    Calls Try.prog 45 #[.bool s, .slice A n c] w (SignedPost s A n c N w) := by
  by_cases h0 : N = 0
  · subst h0
    obtain rfl : n = 0 := hn
    cases s with
    | true =>
      go_enter Try.func45, Try.ntmps45
      go_wp2_with fail
      refine bodyPost_z rfl rfl (Blk.new _ _) rfl ?_
      exact ⟨rfl, bl_alloc _ _⟩
    | false =>
      go_enter Try.func45, Try.ntmps45
      go_wp2_with fail
      refine bodyPost_z rfl rfl (Blk.new _ _) rfl ?_
      exact ⟨rfl, bl_alloc _ _⟩
  · have hp : 0 < n := by
      rcases Nat.eq_zero_or_pos n with h | h
      · exact absurd ((Limb.canon_len_zero N).1 (by omega)) h0
      · exact h
    have hs := hide (sg_neg s N (Nat.pos_of_ne_zero h0))
    clear hn h0
    cases s with
    | true =>
      go_enter Try.func45, Try.ntmps45
      go_wp2_with fail
      refine bodyPost_z rfl rfl (Blk.new _ _) rfl ?_
      exact ⟨by rw [hs.out], bl_alloc _ _⟩
    | false =>
      go_enter Try.func45, Try.ntmps45
      go_wp2_with fail
      refine bodyPost_z rfl rfl (Blk.new _ _) rfl ?_
      exact ⟨by rw [hs.out], bl_alloc _ _⟩

theorem zback {w w1 w2 : World} {g : Nat} (h1 : Below w.heap.size w w1) (hg : w.heap.size ≤ g) (ho : Only g w1 w2) : Below w.heap.size w w2 := h1.trans (ho.below h1.size hg)
theorem zres_own {w : World} {base : Nat} {A : Option Addr} {n c N k : Nat} {s : Bool} (o : Own w base A n c N) (hN : N < 4294967296 ^ k) : ZRes w (.agg #[.bool (decide (sg s N < 0)), .slice A n c]) (sg s N) k := by
  have := o.2.2.1
  exact ⟨A, n, c, rfl, by rw [sg_natAbs]; exact o.nums, o.2.1, by omega, short_canon o.nums hN⟩

set_option maxHeartbeats 1000000 in
theorem from_any (s : Bool) (A : Option Addr) (n c k : Nat) (xs : List Nat) (w : World) (hx : Nums w A n xs) (hc : n ≤ c) (hm : c ≤ 9223372036854775807) (hk : n ≤ k) (hb : k ≤ 1099511627776) :
    Calls Try.prog 42 #[.bool s, .slice A n c] w (ZPost (sg s (Limb.val xs)) k w) := by
  obtain ⟨z1, z2, z3⟩ := zstart1 w #[.bool false, .slice none 0 0]
  have hlt := hide (Nat.lt_of_lt_of_le hx.lt (Limb.pow_mono hk))
  go_enter Try.func42, Try.ntmps42
  go_wp2_with fail
  refine (trim_any A n c xs _ (hx.below z2) hc hm (by omega)).mono ?_
  rintro e w1 ⟨A1, n1, rfl, o1, b1⟩
  have l1 := own_c o1
  have k1 := z1.next b1
  go_wp2_with fail
  refine (signed_any s A1 n1 n1 (Limb.val xs) w1 o1.len (by omega)).mono ?_
  rintro e w2 ⟨rfl, b2⟩
  have k2 := k1.next b2
  have r2 := (zres_own (s := s) o1 hlt.out).below b2
  go_wp2_with (with_reducible refine wpList_store_z rfl _ _ rfl w.heap.size _ _ _ _ rfl rfl _ _ k2 ?_; intro w3 k3 ho3)
  refine bodyPost_z rfl rfl k3 rfl ?_
  exact ⟨_, rfl, r2.only k2 ho3, zback ((z2.next b1).next b2) (Nat.le_refl _) ho3⟩

def SignPost (Z : Int) (w : World) (e : Ending) (w' : World) : Prop := e = .returned (.int .i64 Z.sign) ∧ Below w.heap.size w w'
set_option maxHeartbeats 1000000 in
theorem sign_z (v : Value) (Z : Int) (k : Nat) (w : World) (hv : ZIn w v Z k) (hk : k ≤ 1099511627776) : Calls Try.prog 31 #[v] w (SignPost Z w) := by
  obtain ⟨s, A, n, c, xs, rfl, hx, hc, hm, hn, rfl⟩ := hv
  obtain ⟨z1, z2, z3⟩ := zstart1 w #[.bool s, .slice A n c]
  have hbits := bits_any A n c xs _ (hx.below z2) hc hm (by omega)
  unfold BitsPost at hbits
  generalize Limb.val xs = N at *
  by_cases h0 : N = 0
  · subst h0
    rw [show Limb.bl 0 = 0 from rfl] at hbits
    rw [sg_zero]
    go_enter Try.func31, Try.ntmps31
    go_wp2_with fail
    refine hbits.mono ?_
    rintro e w' ⟨rfl, rfl⟩
    go_wp2_with fail
    go_ret
    exact ⟨rfl, z2⟩
  · have h1 : ((Limb.bl N : Int) == 0) = false := by
      have := mt (Limb.bl_eq_zero N).1 h0
      simp; omega
    generalize Limb.bl N = q at *
    cases s with
    | true =>
      have hs : Hid (Int.sign (sg true N) = -1) := by show _ = _; rw [sg_true]; exact Int.sign_eq_neg_one_of_neg (by omega)
      go_enter Try.func31, Try.ntmps31
      go_wp2_with fail
      refine hbits.mono ?_
      rintro e w' ⟨rfl, rfl⟩
      go_wp2_with fail
      go_ret
      exact ⟨by rw [hs.out]; rfl, z2⟩
    | false =>
      have hs : Hid (Int.sign (sg false N) = 1) := by show _ = _; rw [sg_false]; exact Int.sign_eq_one_of_pos (by omega)
      go_enter Try.func31, Try.ntmps31
      go_wp2_with fail
      refine hbits.mono ?_
      rintro e w' ⟨rfl, rfl⟩
      go_wp2_with fail
      go_ret
      exact ⟨by rw [hs.out]; rfl, z2⟩

theorem sg_not (s : Bool) (n : Nat) : sg (!s) n = -sg s n := by cases s <;> simp [sg]
set_option maxHeartbeats 1000000 in
theorem neg_z (v : Value) (Z : Int) (k : Nat) (w : World) (hv : ZIn w v Z k) (hk : k ≤ 1099511627776) : Calls Try.prog 35 #[v] w (ZPost (-Z) k w) := by
  obtain ⟨s, A, n, c, xs, rfl, hx, hc, hm, hn, rfl⟩ := hv
  obtain ⟨z0, z1, z2, z3⟩ := zstart2 w #[.bool s, .slice A n c] #[.bool false, .slice none 0 0]
  have hf := from_any (!s) A n c k xs _ (hx.below z2) hc hm hn hk
  rw [sg_not] at hf
  go_enter Try.func35, Try.ntmps35
  go_wp2_with fail
  refine hf.mono ?_
  rintro e w1 ⟨v1, rfl, r1, b1⟩
  obtain ⟨s1, A1, n1, c1, rfl⟩ := r1.form
  have k1 := z1.next b1
  go_wp2_with (with_reducible refine wpList_store_z rfl _ _ rfl (w.heap.size + 1) _ _ _ _ rfl rfl _ _ k1 ?_; intro w3 k3 ho3)
  refine bodyPost_z rfl rfl k3 rfl ?_
  exact ⟨_, rfl, r1.only k1 ho3, zback (z2.next b1) (by omega) ho3⟩
end Go.Proofs.Ytahcgbklomfgaaa
/- zint: Cmp, Add, Sub, Mul, Min, Max. -/
namespace Go.Proofs.Ytahcgbklomfgaaa
open Go.RowKit
open Limb (limb limb_lt upto upto_succ upto_all upto_zero)

def CmpZPost (Z Y : Int) (w : World) (e : Ending) (w' : World) : Prop := e = .returned (.int .i64 (sgn3 Z Y)) ∧ Below w.heap.size w w'
theorem sgn3_lt {a b : Int} (h : a < b) : sgn3 a b = -1 := by unfold sgn3; rw [if_pos h]
theorem sgn3_gt {a b : Int} (h : b < a) : sgn3 a b = 1 := by unfold sgn3; rw [if_neg (by omega), if_pos h]
theorem sgn3_sign (Z Y : Int) (h : Z.sign ≠ Y.sign) : sgn3 Z.sign Y.sign = sgn3 Z Y := by
  have key : (Z.sign < Y.sign ∧ Z < Y) ∨ (Y.sign < Z.sign ∧ Y < Z) := by
    rcases Int.lt_trichotomy Z 0 with h1 | h1 | h1 <;> rcases Int.lt_trichotomy Y 0 with h2 | h2 | h2
    all_goals
      first
      | rw [Int.sign_eq_neg_one_of_neg h1] at h ⊢
      | rw [Int.sign_eq_one_of_pos h1] at h ⊢
      | rw [h1, Int.sign_zero] at h ⊢
      first
      | rw [Int.sign_eq_neg_one_of_neg h2] at h ⊢
      | rw [Int.sign_eq_one_of_pos h2] at h ⊢
      | rw [h2, Int.sign_zero] at h ⊢
      first
      | exact absurd rfl h
      | omega
  rcases key with ⟨k1, k2⟩ | ⟨k1, k2⟩
  · rw [sgn3_lt k1, sgn3_lt k2]
  · rw [sgn3_gt k1, sgn3_gt k2]
theorem sgn3_neg (N M : Nat) : cmpN M N = sgn3 (sg true N) (sg true M) := by
  unfold cmpN sgn3
  rw [sg_true, sg_true]
  split <;> split <;> (try split) <;> omega
theorem sgn3_mix (s t : Bool) (N M : Nat) (hs : (sg s N).sign = (sg t M).sign) (h : ¬ (sg s N).sign < 0) : cmpN N M = sgn3 (sg s N) (sg t M) := by
  have e1 : sg s N = (N : Int) := by
    cases s with
    | false => rfl
    | true =>
      have : ¬ (sg true N < 0) := fun hh => h (by rw [Int.sign_eq_neg_one_of_neg hh]; omega)
      rw [sg_true] at this ⊢
      omega
  have e2 : sg t M = (M : Int) := by
    cases t with
    | false => rfl
    | true =>
      have : ¬ (sg true M < 0) := fun hh => h (by rw [hs, Int.sign_eq_neg_one_of_neg hh]; omega)
      rw [sg_true] at this ⊢
      omega
  rw [e1, e2]
  rfl
theorem sgn3_both (s t : Bool) (N M : Nat) (hs : (sg s N).sign = (sg t M).sign) (h : (sg s N).sign < 0) : cmpN M N = sgn3 (sg s N) (sg t M) := by
  have e1 : s = true := by
    cases s with
    | true => rfl
    | false => exfalso; have := Int.sign_nonneg_iff.2 (show (0 : Int) ≤ sg false N by rw [sg_false]; omega); omega
  have e2 : t = true := by
    cases t with
    | true => rfl
    | false => exfalso; have := Int.sign_nonneg_iff.2 (show (0 : Int) ≤ sg false M by rw [sg_false]; omega); omega
  subst e1 e2
  exact sgn3_neg N M
theorem sign_range (Z : Int) : -1 ≤ Z.sign ∧ Z.sign ≤ 1 := by
  rcases Int.lt_trichotomy Z 0 with h1 | h1 | h1
  · rw [Int.sign_eq_neg_one_of_neg h1]; omega
  · subst h1; rw [Int.sign_zero]; omega
  · rw [Int.sign_eq_one_of_pos h1]; omega

theorem ble {w w' : World} {k : Nat} (h : w' = w.drewN k) : Below w.heap.size w w' := by rw [h]; exact bl_drewN w k
end Go.Proofs.Ytahcgbklomfgaaa
