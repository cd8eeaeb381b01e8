/- Texts of one seat, put together: Take Shift Right Bits. -/
import Derived.Test.YtahcgbklomfgaaaB06
import Derived.BigRegion
import Derived.StillTailTactics
import Derived.Test.YtahcgbklomfgaaaB05
import Derived.Shelf.Small.Bits
import Derived.Lib.ItoaNum
import Derived.Test.YtahcgbklomfgaaaB02
set_option linter.unusedVariables false
/- nat.takeAway. -/
namespace Go.Proofs.Ytahcgbklomfgaaa
open Go.RowKit
open Limb (limb limb_lt upto upto_succ upto_all upto_zero)

theorem t_lo (R b R3 b2 p q low lowb : Nat) (hR : R = R3 * p + low) (hlow : low < p) (hb : b = b2 * p + lowb) (hbpos : 0 < b) (hlt : R < 4294967296 * b) (hq3 : ∀ t, t < 4294967296 → t * b2 ≤ R3 → t ≤ q) : R / b ≤ q := by
  refine hq3 _ ((Nat.div_lt_iff_lt_mul hbpos).2 hlt) ?_
  have h1 := Nat.div_mul_le_self R b
  generalize R / b = t at *
  rw [hb, Nat.mul_add, ← Nat.mul_assoc] at h1
  have h2 : t * b2 * p < (R3 + 1) * p := by rw [Nat.add_mul]; omega
  have h3 := Nat.lt_of_mul_lt_mul_right h2
  omega
theorem t_hi (R b R3 b2 p q low lowb : Nat) (hR : R = R3 * p + low) (hb : b = b2 * p + lowb) (hlowb : lowb < p) (hbpos : 0 < b) (hbig : 4294967296 ≤ b2) (hq1 : q < 4294967296) (hq2 : q * b2 ≤ R3) : q ≤ R / b + 1 := by
  have h1 : q * b < R + b := by
    have e1 : q * b = q * b2 * p + q * lowb := by rw [hb, Nat.mul_add, ← Nat.mul_assoc]
    have e2 : q * b2 * p ≤ R3 * p := Nat.mul_le_mul_right p hq2
    have e4 : 4294967296 * p ≤ b2 * p := Nat.mul_le_mul_right p hbig
    have e6 : q * lowb < 4294967296 * p := by
      have e7 : q * lowb ≤ 4294967295 * lowb := Nat.mul_le_mul_right lowb (by omega)
      omega
    omega
  have h2 : q < R / b + 2 := by
    have h3 := Nat.lt_div_mul_add (a := R) hbpos
    have h4 : q * b < (R / b + 2) * b := by rw [Nat.add_mul]; omega
    exact Nat.lt_of_mul_lt_mul_right h4
  omega
theorem guess_true (R b r0 r1 r2 b0 b1 p q low lowb : Nat) (hR : R = ((r2 * 4294967296 + r1) * 4294967296 + r0) * p + low) (hlow : low < p) (hb : b = (b1 * 4294967296 + b0) * p + lowb) (hlowb : lowb < p)
    (hb1 : 2147483648 ≤ b1) (hlt : R < 4294967296 * b) (hq : IsGuess r0 r1 r2 b0 b1 q) : R / b ≤ q ∧ q ≤ R / b + 1 := by
  obtain ⟨hq1, hq2, hq3⟩ := hq
  have hbig : 4294967296 ≤ b1 * 4294967296 + b0 := by omega
  have hbpos : 0 < b := by
    rcases Nat.eq_zero_or_pos b with h | h
    · subst h; omega
    · exact h
  exact ⟨t_lo R b _ _ p q low lowb hR hlow hb hbpos hlt hq3, t_hi R b _ _ p q low lowb hR hb hlowb hbpos hbig hq1 hq2⟩

theorem put_set_end (zs : List Nat) (o : Nat) (ws : List Nat) (v : Nat) (h : o + ws.length < zs.length) : (put zs o ws).set (o + ws.length) v = put zs o (ws ++ [v]) := by
  unfold put
  have hl : (zs.take o).length = o := by rw [List.length_take]; omega
  rw [List.set_append_right _ _ (by omega), hl, List.set_append_right _ _ (by omega)]
  have e : o + ws.length - o - ws.length = 0 := by omega
  rw [e, List.drop_eq_getElem_cons h, List.set_cons_zero, List.length_append]
  simp [Nat.add_assoc]
theorem fixed_end (k m : Nat) (h : m < 4294967296 ^ k) : Limb.fixed k m ++ [0] = Limb.fixed (k + 1) m := by
  refine Limb.eq_of_val ((Limb.fixed_ok _ _).append (Limb.Ok.cons (by omega) Limb.Ok.nil)) (Limb.fixed_ok _ _) (by rw [List.length_append, Limb.fixed_length, Limb.fixed_length]; rfl) ?_
  rw [Limb.val_append, Limb.fixed_val, Limb.fixed_val, Nat.mod_eq_of_lt h, Nat.mod_eq_of_lt (Nat.lt_of_lt_of_le h (Limb.pow_mono (by omega)))]
  simp [Limb.val]
theorem upto3 (xs : List Nat) (j : Nat) : upto xs (j + 3) = ((limb xs (j + 2) * 4294967296 + limb xs (j + 1)) * 4294967296 + limb xs j) * 4294967296 ^ j + upto xs j := by
  have p1 : 4294967296 ^ (j + 1) = 4294967296 ^ j * 4294967296 := Nat.pow_succ ..
  have p2 : 4294967296 ^ (j + 2) = 4294967296 ^ j * 4294967296 * 4294967296 := by rw [Nat.pow_succ, p1]
  rw [upto_succ, upto_succ, upto_succ, p1, p2]
  generalize 4294967296 ^ j = p
  rw [Nat.add_mul, Nat.add_mul, Nat.mul_assoc p, Nat.mul_assoc p, Nat.mul_assoc p]
  have e1 : p * (4294967296 * 4294967296 * limb xs (j + 2)) = (limb xs (j + 2) * 4294967296 * 4294967296) * p := by rw [Nat.mul_comm p, Nat.mul_comm (4294967296 * 4294967296), ← Nat.mul_assoc]
  have e2 : p * (4294967296 * limb xs (j + 1)) = (limb xs (j + 1) * 4294967296) * p := by rw [Nat.mul_comm p, Nat.mul_comm 4294967296]
  have e3 : p * limb xs j = limb xs j * p := Nat.mul_comm _ _
  rw [e1, e2, e3, Nat.add_mul]
  omega
theorem upto2 (xs : List Nat) (j : Nat) : upto xs (j + 2) = (limb xs (j + 1) * 4294967296 + limb xs j) * 4294967296 ^ j + upto xs j := by
  rw [upto_succ, upto_succ, Nat.pow_succ]
  generalize 4294967296 ^ j = p
  have e2 : p * 4294967296 * limb xs (j + 1) = (limb xs (j + 1) * 4294967296) * p := by rw [Nat.mul_assoc, Nat.mul_comm p, Nat.mul_comm 4294967296]
  have e3 : p * limb xs j = limb xs j * p := Nat.mul_comm _ _
  rw [e2, e3, Nat.add_mul]
  omega
theorem limb_win' (zs : List Nat) (o m i : Nat) (hi : i < m) : limb (win zs o m) i = limb zs (o + i) := by
  unfold limb win
  rw [List.getD_eq_getElem?_getD, List.getD_eq_getElem?_getD, List.getElem?_take_of_lt hi, List.getElem?_drop]
theorem win_take (zs : List Nat) (o m k : Nat) (h : k ≤ m) : (win zs o m).take k = win zs o k := by
  unfold win; rw [List.take_take, Nat.min_eq_left h]

/-- What takeAway comes to. -/
structure TakeNums (zs ys : List Nat) (o j q : Nat) : Prop where
  lo : Limb.val (win zs o (j + 3)) / Limb.val ys ≤ q
  hi : q ≤ Limb.val (win zs o (j + 3)) / Limb.val ys + 1
theorem takeNums (zs ys : List Nat) (o j q : Nat) (hz : Limb.Ok zs) (hy : Limb.Ok ys) (hn : o + (j + 3) ≤ zs.length) (hl : ys.length = j + 2) (htop : 2147483648 ≤ limb ys (j + 1)) (hlt : Limb.val (win zs o (j + 3)) < 4294967296 * Limb.val ys)
    (hq : IsGuess (limb zs (o + j)) (limb zs (o + j + 1)) (limb zs (o + j + 2)) (limb ys j) (limb ys (j + 1)) q) : TakeNums zs ys o j q := by
  have eR : Limb.val (win zs o (j + 3)) = _ := (upto_all (win zs o (j + 3)) (j + 3) (by rw [win_length zs o (j + 3) hn]; exact Nat.le_refl _)).symm.trans (upto3 _ j)
  have eb : Limb.val ys = _ := (upto_all ys (j + 2) (by omega)).symm.trans (upto2 _ j)
  rw [limb_win' zs o (j + 3) _ (by omega), limb_win' zs o (j + 3) _ (by omega), limb_win' zs o (j + 3) _ (by omega)] at eR
  have h := guess_true _ _ _ _ _ _ _ _ q _ _ eR (upto_lt _ (win_ok hz _ _) j) eb (upto_lt _ hy j) htop hlt hq
  exact ⟨h.1, h.2⟩
theorem take_r2 (zs ys : List Nat) (o j : Nat) (hz : Limb.Ok zs) (hy : Limb.Ok ys) (hn : o + (j + 3) ≤ zs.length) (hl : ys.length = j + 2) (hlt : Limb.val (win zs o (j + 3)) < 4294967296 * Limb.val ys) : limb zs (o + (j + 2)) ≤ limb ys (j + 1) := by
  have e1 : Limb.val (win zs o (j + 3)) = upto (win zs o (j + 3)) (j + 2) + 4294967296 ^ (j + 2) * limb (win zs o (j + 3)) (j + 2) := by
    rw [← upto_succ, upto_all _ _ (by rw [win_length zs o (j + 3) hn]; exact Nat.le_refl _)]
  have e2 : Limb.val ys = upto ys (j + 1) + 4294967296 ^ (j + 1) * limb ys (j + 1) := by rw [← upto_succ, upto_all _ _ (by omega)]
  have h1 := upto_lt ys hy (j + 1)
  rw [limb_win' zs o (j + 3) _ (by omega)] at e1
  rw [Nat.pow_succ] at e1
  generalize limb zs (o + (j + 2)) = x at *
  generalize limb ys (j + 1) = y at *
  generalize 4294967296 ^ (j + 1) = p at *
  have h2 : p * x < p * (y + 1) := by
    rw [Nat.mul_assoc] at e1
    rw [Nat.mul_add, Nat.mul_one]
    have e3 : p * (4294967296 * x) = 4294967296 * (p * x) := Nat.mul_left_comm _ _ _
    omega
  have := Nat.lt_of_mul_lt_mul_left h2
  omega
/-- One too many. -/
theorem take_over (R b q cur cy r2 W p : Nat) (hb : 0 < b) (hbp : b < p) (hR : R = W + p * r2) (hc : cur + b * q = W + p * cy) (hcur : cur < p) (lo : R / b ≤ q) (hi : q ≤ R / b + 1) (h : r2 < cy) : 1 ≤ q ∧ q - 1 = R / b ∧ (cur + b) % p = R % b := by
  have hdm := Nat.div_add_mod R b
  have hml := Nat.mod_lt R hb
  have h3 : p * (r2 + 1) ≤ p * cy := Nat.mul_le_mul_left p h
  rw [Nat.mul_add, Nat.mul_one] at h3
  generalize R / b = t at *
  generalize R % b = m at *
  have hq : q = t + 1 := by
    rcases Nat.lt_or_ge q (t + 1) with h4 | h4
    · have h5 : q = t := by omega
      subst h5
      omega
    · omega
  subst hq
  refine ⟨by omega, by omega, ?_⟩
  rw [Nat.mul_add, Nat.mul_one] at hc
  have e : cur + b = m + p * (cy - r2) := by
    rw [Nat.mul_sub]
    omega
  rw [e, Nat.add_mul_mod_self_left, Nat.mod_eq_of_lt (by omega)]
theorem take_even (R b q cur cy r2 W p : Nat) (hb : 0 < b) (hbp : b < p) (hR : R = W + p * r2) (hc : cur + b * q = W + p * cy) (lo : R / b ≤ q) (hi : q ≤ R / b + 1) (h : cy ≤ r2) : q = R / b ∧ cur = R % b := by
  have hdm := Nat.div_add_mod R b
  have hml := Nat.mod_lt R hb
  have h3 : p * cy ≤ p * r2 := Nat.mul_le_mul_left p h
  generalize R / b = t at *
  generalize R % b = m at *
  have hq : q = t := by
    rcases Nat.lt_or_ge t q with h4 | h4
    · have h5 : q = t + 1 := by omega
      subst h5
      rw [Nat.mul_add, Nat.mul_one] at hc
      omega
    · omega
  subst hq
  refine ⟨rfl, ?_⟩
  rcases Nat.lt_or_ge cy r2 with h4 | h4
  · have h5 : p * (cy + 1) ≤ p * r2 := Nat.mul_le_mul_left p h4
    rw [Nat.mul_add, Nat.mul_one] at h5
    omega
  · have h6 : cy = r2 := by omega
    subst h6
    omega

theorem win_put_at (zs : List Nat) (o : Nat) (cur : List Nat) (n : Nat) (hl : cur.length = n) (ho : o ≤ zs.length) : win (put zs o cur) o n = cur := by
  have h1 : (zs.take o).length = o := by rw [List.length_take]; omega
  unfold win put
  rw [List.drop_append_of_le_length (by omega), List.drop_of_length_le (by omega), List.nil_append, List.take_append_of_le_length (by omega), List.take_of_length_le (by omega)]
theorem put_put_at (zs : List Nat) (o : Nat) (us ws : List Nat) (hl : us.length = ws.length) (ho : o ≤ zs.length) : put (put zs o us) o ws = put zs o ws := by
  have h1 : (zs.take o).length = o := by rw [List.length_take]; omega
  unfold put
  rw [List.take_append_of_le_length (by omega), List.take_of_length_le (by omega), List.drop_append, List.drop_of_length_le (by omega), List.nil_append, h1, List.drop_append, List.drop_of_length_le (by omega), List.nil_append, List.drop_drop]
  congr 3
  omega
theorem put_beyond (zs : List Nat) (o : Nat) (cur : List Nat) (k : Nat) (hl : cur.length = k) (ho : o ≤ zs.length) : (put zs o cur).getD (o + k) 0 = limb zs (o + k) := by
  have h1 : (zs.take o).length = o := by rw [List.length_take]; omega
  unfold put limb
  rw [List.getD_eq_getElem?_getD, List.getElem?_append_right (by omega), h1, List.getElem?_append_right (by omega), List.getElem?_drop, List.getD_eq_getElem?_getD]
  congr 2
  omega
theorem top_pos (ys : List Nat) (j : Nat) (h : 1 ≤ limb ys j) : 0 < Limb.val ys := by
  have h1 := Limb.limb_le ys j
  have h3 := Nat.mul_le_mul_left (4294967296 ^ j) h
  have h4 : 0 < 4294967296 ^ j := Nat.pow_pos (by omega)
  rw [Nat.mul_one] at h3
  exact Nat.lt_of_lt_of_le h4 (Nat.le_trans h3 h1)
theorem win_split (zs : List Nat) (o k : Nat) (hn : o + (k + 1) ≤ zs.length) : Limb.val (win zs o (k + 1)) = Limb.val (win zs o k) + 4294967296 ^ k * limb zs (o + k) := by
  have h1 := upto_succ (win zs o (k + 1)) k
  rw [upto_all _ _ (by rw [win_length zs o (k + 1) hn]; exact Nat.le_refl _), limb_win' zs o (k + 1) _ (by omega)] at h1
  rw [h1]
  unfold upto
  rw [win_take zs o (k + 1) k (by omega)]
structure TakeEnd (zs ys cur : List Nat) (o k q cy : Nat) : Prop where
  over : limb zs (o + k) < cy → 1 ≤ q ∧ q - 1 = Limb.val (win zs o (k + 1)) / Limb.val ys ∧ Limb.fixed k (Limb.val cur + Limb.val ys) = Limb.fixed k (Limb.val (win zs o (k + 1)) % Limb.val ys)
  even : cy ≤ limb zs (o + k) → q = Limb.val (win zs o (k + 1)) / Limb.val ys ∧ cur = Limb.fixed k (Limb.val (win zs o (k + 1)) % Limb.val ys)
  fin : (put zs o (Limb.fixed k (Limb.val (win zs o (k + 1)) % Limb.val ys))).set (o + k) 0 = put zs o (Limb.fixed (k + 1) (Limb.val (win zs o (k + 1)) % Limb.val ys))
theorem takeEnd (zs ys cur : List Nat) (o k q cy : Nat) (hn : o + (k + 1) ≤ zs.length) (hy : Limb.Ok ys) (hl : ys.length = k) (hb0 : 0 < Limb.val ys) (hcl : cur.length = k) (hcok : Limb.Ok cur)
    (hE : Limb.val cur + Limb.val ys * q = Limb.val (win zs o k) + 4294967296 ^ k * cy) (lo : Limb.val (win zs o (k + 1)) / Limb.val ys ≤ q) (hi : q ≤ Limb.val (win zs o (k + 1)) / Limb.val ys + 1) : TakeEnd zs ys cur o k q cy := by
  have hbp : Limb.val ys < 4294967296 ^ k := by have := Limb.val_lt ys hy; rwa [hl] at this
  have hcp : Limb.val cur < 4294967296 ^ k := by have := Limb.val_lt cur hcok; rwa [hcl] at this
  have hR := win_split zs o k hn
  have hml := Nat.lt_trans (Nat.mod_lt (Limb.val (win zs o (k + 1))) hb0) hbp
  refine ⟨fun h => ?_, fun h => ?_, ?_⟩
  · obtain ⟨h1, h2, h3⟩ := take_over _ _ q _ cy _ _ _ hb0 hbp hR hE hcp lo hi h
    refine ⟨h1, h2, ?_⟩
    refine Limb.eq_of_val (Limb.fixed_ok _ _) (Limb.fixed_ok _ _) (by rw [Limb.fixed_length, Limb.fixed_length]) ?_
    rw [Limb.fixed_val, Limb.fixed_val, h3]
    exact (Nat.mod_eq_of_lt hml).symm
  · obtain ⟨h1, h2⟩ := take_even _ _ q _ cy _ _ _ hb0 hbp hR hE lo hi h
    exact ⟨h1, Limb.eq_fixed k _ 0 hcok hcl (by rw [← h2]; simp)⟩
  · have h1 := put_set_end zs o (Limb.fixed k (Limb.val (win zs o (k + 1)) % Limb.val ys)) 0 (by rw [Limb.fixed_length]; omega)
    rw [Limb.fixed_length, fixed_end k _ hml] at h1
    exact h1

def TakePost (g o j : Nat) (zs ys : List Nat) (w : World) (e : Ending) (w' : World) : Prop :=
  e = .returned (.int .u32 ((Limb.val (win zs o (j + 3)) / Limb.val ys : Nat) : Int)) ∧ Row w' g (put zs o (Limb.fixed (j + 3) (Limb.val (win zs o (j + 3)) % Limb.val ys))) ∧ Only g w w'

end Go.Proofs.Ytahcgbklomfgaaa
/- nat.shifted, nat.Right. -/
namespace Go.Proofs.Ytahcgbklomfgaaa
open Go.RowKit
open Limb (limb limb_lt upto upto_succ upto_all upto_zero)

theorem put_beyond' (zs : List Nat) (o : Nat) (cur : List Nat) (k : Nat) (hl : cur.length = k) (ho : o ≤ zs.length) : limb (put zs o cur) (o + k) = limb zs (o + k) := by
  have h1 : (zs.take o).length = o := by rw [List.length_take]; omega
  unfold put limb
  rw [List.getD_eq_getElem?_getD, List.getElem?_append_right (by omega), h1, List.getElem?_append_right (by omega), List.getElem?_drop, List.getD_eq_getElem?_getD]
  congr 2
  omega
def lo (s x : Nat) : Nat := x * 2 ^ s % 4294967296
def hi (s x : Nat) : Nat := x / 2 ^ (32 - s)
theorem two_pows (s : Nat) (hs : s ≤ 32) : 2 ^ (32 - s) * 2 ^ s = 4294967296 := by
  rw [← Nat.pow_add]
  have e : 32 - s + s = 32 := by omega
  rw [e]
theorem lo_hi (s x : Nat) (hs : s ≤ 32) : x * 2 ^ s = lo s x + 4294967296 * hi s x := by
  unfold lo hi
  have hp := two_pows s hs
  have h2 : 0 < 2 ^ s := Nat.pow_pos (by omega)
  have e1 : x * 2 ^ s / 4294967296 = x / 2 ^ (32 - s) := by
    rw [← hp, Nat.mul_comm (2 ^ (32 - s))]
    rw [Nat.mul_comm x, Nat.mul_div_mul_left _ _ h2]
  rw [← e1]
  exact (Nat.mod_add_div _ _).symm
theorem hi_lt (s x : Nat) (hs : s ≤ 32) (hx : x < 4294967296) : hi s x < 2 ^ s := by
  unfold hi
  rw [Nat.div_lt_iff_lt_mul (Nat.pow_pos (by omega)), Nat.mul_comm, two_pows s hs]
  exact hx
theorem lo_mod (s x : Nat) (hs : s ≤ 32) : lo s x % 2 ^ s = 0 := by
  unfold lo
  have e : 4294967296 = 2 ^ s * 2 ^ (32 - s) := by rw [Nat.mul_comm, two_pows s hs]
  rw [e, Nat.mod_mul_right_mod, Nat.mul_mod_left]
theorem lo_lt (s x : Nat) : lo s x < 4294967296 := Nat.mod_lt _ (by omega)
theorem hi_lt32 (s x : Nat) (hx : x < 4294967296) : hi s x < 4294967296 := Nat.lt_of_le_of_lt (Nat.div_le_self _ _) hx
theorem lo_or_hi (s x y : Nat) (hs : s ≤ 32) (hy : y < 4294967296) : bits BinOp.or IntKind.u32 ((lo s x : Nat) : Int) ((hi s y : Nat) : Int) = ((lo s x + hi s y : Nat) : Int) := by
  rw [u32_or_nat _ _ (lo_lt s x) (hi_lt32 s y hy), nat_join s _ _ (lo_mod s x hs) (hi_lt s y hs hy)]
theorem lo_add_hi (s x y : Nat) (hs : s ≤ 32) (hy : y < 4294967296) : lo s x + hi s y < 4294967296 := by
  have h1 := u32_or_nat (lo s x) (hi s y) (lo_lt s x) (hi_lt32 s y hy)
  have h2 : lo s x ||| hi s y < 2 ^ 32 := Nat.or_lt_two_pow (lo_lt s x) (hi_lt32 s y hy)
  rw [nat_join s _ _ (lo_mod s x hs) (hi_lt s y hs hy)] at h2
  exact h2

theorem lo_int (s x : Nat) : (x : Int) * 2 ^ s % 4294967296 = ((lo s x : Nat) : Int) := by
  unfold lo
  rw [Int.natCast_emod, Int.natCast_mul, Int.natCast_pow]
  rfl
theorem hi_int (s x : Nat) : (x : Int) / 2 ^ (32 - s) = ((hi s x : Nat) : Int) := by
  unfold hi
  rw [Int.natCast_ediv, Int.natCast_pow]
  rfl
theorem limb_set_self (xs : List Nat) (i v : Nat) (h : i < xs.length) : limb (xs.set i v) i = v := by
  unfold limb
  rw [List.getD_eq_getElem?_getD, List.getElem?_set_self h]; rfl
theorem limb_set_ne (xs : List Nat) (i j v : Nat) (h : i ≠ j) : limb (xs.set i v) j = limb xs j := by
  unfold limb
  rw [List.getD_eq_getElem?_getD, List.getElem?_set_ne h, ← List.getD_eq_getElem?_getD]
theorem limb_take (xs : List Nat) (n t : Nat) (ht : t < n) : limb (xs.take n) t = limb xs t := by
  unfold limb
  rw [List.getD_eq_getElem?_getD, List.getD_eq_getElem?_getD, List.getElem?_take_of_lt ht]
theorem val_drop_one (xs : List Nat) (j : Nat) (h : j < xs.length) : Limb.val (xs.drop j) = limb xs j + 4294967296 * Limb.val (xs.drop (j + 1)) := by
  rw [List.drop_eq_getElem_cons h]
  unfold limb
  rw [List.getD_eq_getElem?_getD, List.getElem?_eq_getElem h]
  rfl
theorem drop_set_one (xs : List Nat) (j v : Nat) : (xs.set j v).drop (j + 1) = xs.drop (j + 1) := by
  rw [List.drop_set, if_pos (by omega)]

/-- What holds while limb i is the next to be shifted up. -/
def ShRel (g N s : Nat) (old : List Nat) (w : World) (i : Nat) (wr : World) : Prop :=
  ∃ cur : List Nat, cur.length = N ∧ Limb.Ok cur ∧ Row wr g cur ∧ Below w.heap.size w wr ∧ w.heap.size ≤ g ∧ (∀ t, t ≤ i → limb cur t = limb old t) ∧ Limb.val (cur.drop (i + 1)) = 2 ^ s * Limb.val (old.drop (i + 1)) + hi s (limb old i)
theorem sh_alg (P V L x h l : Nat) (hx : x * P = l + 4294967296 * h) : l + L + 4294967296 * (P * V + h) = P * (x + 4294967296 * V) + L := by
  rw [Nat.mul_add, Nat.mul_add, Nat.mul_comm P x, hx, Nat.mul_left_comm P 4294967296 V]
  omega
theorem ShRel.at_ {g N s : Nat} {old : List Nat} {w : World} {i : Nat} {wr : World} (h : ShRel g N s old w i wr) (hi : i < N) :
    ∃ x : Nat, x < 4294967296 ∧ x = limb old i ∧ wr.cell? ⟨g, i, none⟩ = some (.int .u32 (x : Int)) ∧ wr.frozen? ⟨g, i, none⟩ = false := by
  obtain ⟨cur, hl, ho, hr, hb, hg, he, hv⟩ := h
  exact ⟨limb cur i, ho.getD i, he i (Nat.le_refl _), hr.cell (i := i) (by omega), hr.frozen i⟩
theorem ShRel.at_low {g N s : Nat} {old : List Nat} {w : World} {i t : Nat} {wr : World} (h : ShRel g N s old w i wr) (hi : i < N) (ht : t ≤ i) :
    wr.cell? ⟨g, t, none⟩ = some (.int .u32 ((limb old t : Nat) : Int)) := by
  obtain ⟨cur, hl, ho, hr, hb, hg, he, hv⟩ := h
  rw [← he t ht]
  exact hr.cell (i := t) (by omega)
theorem ShRel.drew {g N s : Nat} {old : List Nat} {w : World} {i : Nat} {wr : World} (h : ShRel g N s old w i wr) : ShRel g N s old w i wr.drew := by
  obtain ⟨cur, hl, ho, hr, hb, hg, he, hv⟩ := h
  exact ⟨cur, hl, ho, hr.drew, hb.drew, hg, he, hv⟩
theorem ShRel.step {g N s : Nat} {old : List Nat} {w : World} {j : Nat} {wr : World} (h : ShRel g N s old w (j + 1) wr) (hj : j + 1 < N) (hs : s < 32) (hN : old.length = N) (hoo : Limb.Ok old) :
    ShRel g N s old w j (wr.setCell ⟨g, j + 1, none⟩ (.int .u32 ((lo s (limb old (j + 1)) + hi s (limb old j) : Nat) : Int))) := by
  obtain ⟨cur, hl, ho, hr, hb, hg, he, hv⟩ := h
  have hlt := lo_add_hi s (limb old (j + 1)) (limb old j) (Nat.le_of_lt hs) (hoo.getD j)
  refine ⟨cur.set (j + 1) (lo s (limb old (j + 1)) + hi s (limb old j)), by simp [hl], ho.set _ _ hlt, hr.set_ _ _, hb.setCell hg _, hg, fun t ht => ?_, ?_⟩
  · rw [limb_set_ne _ _ _ _ (by omega)]
    exact he t (by omega)
  · rw [val_drop_one _ (j + 1) (by simp; omega), limb_set_self _ _ _ (by omega), drop_set_one, hv, val_drop_one old (j + 1) (by omega)]
    exact sh_alg _ _ _ _ _ _ (lo_hi s _ (Nat.le_of_lt hs))
theorem ShRel.done {g m l s : Nat} {xs : List Nat} {w : World} {wr : World} (h : ShRel g (m + l + 1) s (put (List.replicate (m + l + 1) 0) l xs) w l wr) (hs : s < 32) (hx : Limb.Ok xs) (hm : xs.length = m) :
    ∃ zs : List Nat, zs.length = m + l + 1 ∧ Limb.Ok zs ∧ Row (wr.setCell ⟨g, l, none⟩ (.int .u32 ((lo s (limb (put (List.replicate (m + l + 1) 0) l xs) l) : Nat) : Int))) g zs ∧ Limb.val zs = Limb.val xs * 2 ^ (32 * l + s) := by
  obtain ⟨cur, hl, ho, hr, hb, hg, he, hv⟩ := h
  have hfit : l + xs.length ≤ (List.replicate (m + l + 1) 0).length := by simp; omega
  have hol : (put (List.replicate (m + l + 1) 0) l xs).length = m + l + 1 := by rw [put_length _ _ _ hfit]; simp
  generalize hold : put (List.replicate (m + l + 1) 0) l xs = old at *
  refine ⟨cur.set l (lo s (limb old l)), by simp [hl], ho.set _ _ (lo_lt _ _), hr.set_ _ _, ?_⟩
  have e1 : Limb.val ((cur.set l (lo s (limb old l))).drop l) = 2 ^ s * Limb.val (old.drop l) := by
    rw [val_drop_one _ l (by simp; omega), limb_set_self _ _ _ (by omega), drop_set_one, hv, val_drop_one old l (by omega)]
    have := sh_alg (2 ^ s) (Limb.val (old.drop (l + 1))) 0 (limb old l) (hi s (limb old l)) (lo s (limb old l)) (lo_hi s _ (Nat.le_of_lt hs))
    omega
  have e2 : old.drop l = xs ++ [0] := by
    rw [← hold]
    unfold put
    rw [List.take_replicate, Nat.min_eq_left (by omega), List.drop_append_of_le_length (by simp), List.drop_of_length_le (by simp), List.nil_append, List.drop_replicate, hm]
    have : m + l + 1 - (l + m) = 1 := by omega
    rw [this]; rfl
  have e3 : Limb.val ((cur.set l (lo s (limb old l))).take l) = 0 := by
    have h1 : ∀ t, limb ((cur.set l (lo s (limb old l))).take l) t = limb ([] : List Nat) t := by
      intro t
      have h0 : limb ([] : List Nat) t = 0 := Limb.limb_beyond (Nat.zero_le _)
      rw [h0]
      by_cases ht : t < l
      · rw [limb_take _ _ _ ht, limb_set_ne _ _ _ _ (by omega), he t (by omega), ← hold]
        unfold limb put
        rw [List.getD_eq_getElem?_getD, List.getElem?_append_left (by simp; omega), List.getElem?_take_of_lt ht, List.getElem?_replicate]
        split <;> rfl
      · exact Limb.limb_beyond (by rw [List.length_take]; omega)
    rw [Limb.val_eq_of_limbs _ _ h1]; rfl
  rw [Limb.val_take_drop _ l (by simp; omega), e3, e1, e2, Limb.val_append]
  have h4 : (4294967296 : Nat) ^ l = 2 ^ (32 * l) := by rw [Nat.pow_mul]
  have h5 : Limb.val [0] = 0 := rfl
  rw [h4, h5, Nat.mul_zero, Nat.add_zero, Nat.pow_add, Nat.zero_add, Nat.mul_comm (Limb.val xs), Nat.mul_assoc]

def ShiftPost (m n N : Nat) (w : World) (e : Ending) (w' : World) : Prop :=
  ∃ zs : List Nat, e = .returned (.slice (some ⟨w.heap.size, 0, none⟩) n n) ∧ zs.length = n ∧ Limb.Ok zs ∧ Row w' w.heap.size zs ∧ Limb.val zs = N ∧ Below w.heap.size w w'

end Go.Proofs.Ytahcgbklomfgaaa
/- nat.Right. -/
namespace Go.Proofs.Ytahcgbklomfgaaa
open Go.RowKit
open Limb (limb limb_lt upto upto_succ upto_all upto_zero)

/-- What holds while limb i is the next to be shifted down. -/
def RtRel (g N s : Nat) (old : List Nat) (w : World) (i : Nat) (wr : World) : Prop :=
  ∃ cur : List Nat, cur.length = N ∧ Limb.Ok cur ∧ Row wr g cur ∧ Below w.heap.size w wr ∧ w.heap.size ≤ g ∧ (∀ t, i ≤ t → limb cur t = limb old t) ∧ 2 ^ s * upto cur i + limb old 0 % 2 ^ s = upto old i + 4294967296 ^ i * (limb old i % 2 ^ s)
theorem RtRel.drew {g N s : Nat} {old : List Nat} {w : World} {i : Nat} {wr : World} (h : RtRel g N s old w i wr) : RtRel g N s old w i wr.drew := by
  obtain ⟨cur, hl, ho, hr, hb, hg, he, hv⟩ := h
  exact ⟨cur, hl, ho, hr.drew, hb.drew, hg, he, hv⟩
theorem RtRel.at_ {g N s : Nat} {old : List Nat} {w : World} {i t : Nat} {wr : World} (h : RtRel g N s old w i wr) (ht : i ≤ t) (hN : t < N) :
    wr.cell? ⟨g, t, none⟩ = some (.int .u32 ((limb old t : Nat) : Int)) ∧ wr.frozen? ⟨g, t, none⟩ = false := by
  obtain ⟨cur, hl, ho, hr, hb, hg, he, hv⟩ := h
  rw [← he t ht]
  exact ⟨hr.cell (i := t) (by omega), hr.frozen t⟩
theorem upto_set (cur : List Nat) (i v : Nat) : upto (cur.set i v) i = upto cur i := by
  unfold upto
  rw [List.take_set_of_le (Nat.le_refl i)]
theorem lo_pow (s y : Nat) (hs : s ≤ 32) : 2 ^ s * lo (32 - s) y = 4294967296 * (y % 2 ^ s) := by
  unfold lo
  have e : 4294967296 = 2 ^ (32 - s) * 2 ^ s := (two_pows s hs).symm
  have h1 : y * 2 ^ (32 - s) % 4294967296 = 2 ^ (32 - s) * (y % 2 ^ s) := by
    rw [e, Nat.mul_comm y, Nat.mul_mod_mul_left]
  rw [h1, ← Nat.mul_assoc, Nat.mul_comm (2 ^ s), two_pows s hs]
theorem hi_sub (s x : Nat) (hs : s ≤ 32) : hi (32 - s) x = x / 2 ^ s := by
  unfold hi
  have : 32 - (32 - s) = s := by omega
  rw [this]
theorem rt_alg (P U V B x y r0 h l : Nat) (hv : P * U + r0 = V + B * (x % P)) (hl : P * l = 4294967296 * y) (hh : h = x / P) : P * (U + B * (h + l)) + r0 = V + B * x + B * 4294967296 * y := by
  have e1 := Nat.div_add_mod x P
  rw [← hh] at e1
  have e2 : P * (B * (h + l)) = B * (P * h) + B * (P * l) := by rw [Nat.mul_left_comm P B, Nat.mul_add, Nat.mul_add]
  rw [Nat.mul_add, e2, hl]
  have e3 : B * (P * h + x % P) = B * x := by rw [e1]
  rw [Nat.mul_add] at e3
  rw [Nat.mul_assoc]
  omega
theorem RtRel.step {g N s : Nat} {old : List Nat} {w : World} {i : Nat} {wr : World} (h : RtRel g N s old w i wr) (hi' : i + 1 < N) (hs : s ≤ 32) (hoo : Limb.Ok old) :
    RtRel g N s old w (i + 1) (wr.setCell ⟨g, i, none⟩ (.int .u32 ((hi (32 - s) (limb old i) + lo (32 - s) (limb old (i + 1)) : Nat) : Int))) := by
  obtain ⟨cur, hl, ho, hr, hb, hg, he, hv⟩ := h
  have hlt := lo_add_hi (32 - s) (limb old (i + 1)) (limb old i) (by omega) (hoo.getD i)
  refine ⟨cur.set i (hi (32 - s) (limb old i) + lo (32 - s) (limb old (i + 1))), by simp [hl], ho.set _ _ (by omega), hr.set_ _ _, hb.setCell hg _, hg, fun t ht => ?_, ?_⟩
  · rw [limb_set_ne _ _ _ _ (by omega)]
    exact he t (by omega)
  · rw [upto_succ, upto_set, limb_set_self _ _ _ (by omega), upto_succ, Nat.pow_succ]
    exact rt_alg _ _ _ _ _ _ _ _ _ hv (lo_pow s _ hs) (hi_sub s _ hs)
theorem RtRel.done {g N s : Nat} {old : List Nat} {w : World} {i : Nat} {wr : World} (h : RtRel g N s old w i wr) (hi' : i + 1 = N) (hs : s ≤ 32) (hoo : Limb.Ok old) (hN : old.length = N) :
    ∃ zs : List Nat, zs.length = N ∧ Limb.Ok zs ∧ Row (wr.setCell ⟨g, i, none⟩ (.int .u32 ((hi (32 - s) (limb old i) : Nat) : Int))) g zs ∧ Limb.val zs = Limb.val old / 2 ^ s := by
  obtain ⟨cur, hl, ho, hr, hb, hg, he, hv⟩ := h
  refine ⟨cur.set i (hi (32 - s) (limb old i)), by simp [hl], ho.set _ _ (hi_lt32 _ _ (hoo.getD i)), hr.set_ _ _, ?_⟩
  have e1 : Limb.val (cur.set i (hi (32 - s) (limb old i))) = upto cur i + 4294967296 ^ i * hi (32 - s) (limb old i) := by
    rw [← upto_all _ (i + 1) (by simp; omega), upto_succ, upto_set, limb_set_self _ _ _ (by omega)]
  have e2 : Limb.val old = upto old i + 4294967296 ^ i * limb old i := by rw [← upto_succ, upto_all _ _ (by omega)]
  have e3 := rt_alg (2 ^ s) _ _ _ _ 0 _ (hi (32 - s) (limb old i)) 0 hv (by simp) (hi_sub s _ hs)
  rw [Nat.add_zero, Nat.mul_zero, Nat.add_zero, ← e1, ← e2] at e3
  have hp : 0 < 2 ^ s := Nat.pow_pos (by omega)
  have e4 := Nat.mod_lt (limb old 0) hp
  rw [← e3, Nat.mul_add_div hp, Nat.div_eq_of_lt e4, Nat.add_zero]
theorem hi_or_lo (s x y : Nat) (hs : s ≤ 32) (hy : y < 4294967296) : bits BinOp.or IntKind.u32 ((hi s y : Nat) : Int) ((lo s x : Nat) : Int) = ((hi s y + lo s x : Nat) : Int) := by
  rw [u32_or_nat _ _ (hi_lt32 s y hy) (lo_lt s x), Nat.or_comm, nat_join s _ _ (lo_mod s x hs) (hi_lt s y hs hy), Nat.add_comm]
theorem hi_int' (s x : Nat) (hs : s ≤ 32) : (x : Int) / 2 ^ s = ((hi (32 - s) x : Nat) : Int) := by
  rw [hi_sub s x hs, Int.natCast_ediv, Int.natCast_pow]
  rfl
theorem lo_int' (s x : Nat) : (x : Int) * 2 ^ (32 - s) % 4294967296 = ((lo (32 - s) x : Nat) : Int) := lo_int (32 - s) x
theorem right_zero (a l s : Nat) (h : L a ≤ l) : a / 2 ^ (32 * l + s) = 0 := by
  refine Nat.div_eq_of_lt ?_
  have h1 : 4294967296 ^ l = 2 ^ (32 * l) := by rw [Nat.pow_mul]
  have h2 := Nat.lt_of_lt_of_le (lt_L a) (Limb.pow_mono h)
  rw [h1] at h2
  exact Nat.lt_of_lt_of_le h2 (Nat.pow_le_pow_right (by omega) (by omega))
theorem right_div (a l s : Nat) : a / 4294967296 ^ l / 2 ^ s = a / 2 ^ (32 * l + s) := by
  have h1 : 4294967296 ^ l = 2 ^ (32 * l) := by rw [Nat.pow_mul]
  rw [Nat.div_div_eq_div_mul, h1, ← Nat.pow_add]

theorem RtRel.start {g N s : Nat} {old : List Nat} {w wr : World} (hl : old.length = N) (ho : Limb.Ok old) (hr : Row wr g old) (hb : Below w.heap.size w wr) (hg : w.heap.size ≤ g) : RtRel g N s old w 0 wr :=
  ⟨old, hl, ho, hr, hb, hg, fun _ _ => rfl, by rw [upto_zero, Nat.mul_zero, Nat.zero_add, Nat.pow_zero, Nat.one_mul, Nat.zero_add]⟩

end Go.Proofs.Ytahcgbklomfgaaa
/- math/bits: Len32, LeadingZeros32: the library's own contracts, laid at this program. -/
namespace Go.Proofs.Ytahcgbklomfgaaa
open Go.Shelf
def Try.lays128_ren : Go.Shelf.Ren := ⟨fun | 128 => 70 | n => n, fun | 51 => 53 | 3 => 3 | 4 => 4 | 46 => 79 | 5 => 5 | 9 => 9 | n => n, fun | n => n⟩
theorem Try.lays128 : Go.Proofs.Lays.n128 Try.prog Try.lays128_ren := {
  mixed := by kernel_rfl
  f128 := Try.func70.trans (congrArg some (by kernel_rfl))
  t3 := Try.underlying3
  a3 := Try.isAgg3
  z3 := Try.sizeOf3
  v3 := Try.zeroValue3
  t4 := Try.underlying4
  a4 := Try.isAgg4
  z4 := Try.sizeOf4
  v4 := Try.zeroValue4
  t5 := Try.underlying5
  a5 := Try.isAgg5
  z5 := Try.sizeOf5
  v5 := Try.zeroValue5
  t9 := Try.underlying9
  a9 := Try.isAgg9
  z9 := Try.sizeOf9
  v9 := Try.zeroValue9
  t46 := Try.underlying79
  a46 := Try.isAgg79
  z46 := Try.sizeOf79
  v46 := Try.zeroValue79
  t51 := Try.underlying53
  a51 := Try.isAgg53
  z51 := Try.sizeOf53
  v51 := Try.zeroValue53 }
theorem Try.bits_Len32 (x : Int) (w : World) (h0 : 0 ≤ x) (h1 : x ≤ 4294967295) :
    Calls Try.prog 70 #[.int .u32 x] w fun e w' => e = .returned (.int .i64 (Lib.bitLen x.toNat)) ∧ w' = w := Any.bits_Len32 Try.lays128 x w h0 h1
end Go.Proofs.Ytahcgbklomfgaaa
