/- Texts of one seat, put together: Shift MulB. -/
import Derived.Test.YtlihnagfmfpdcaaB08
import Derived.StillTailTactics
import Derived.Deep.RegionHeld3
import Derived.BigRegion
/- nat.shifted, nat.Right. -/
namespace Go.Proofs.Ytlihnagfmfpdcaa
open Go.RowKit
open Limb (limb limb_lt upto upto_succ upto_all upto_zero)

theorem put_beyond' (zs : List Nat) (o : Nat) (cur : List Nat) (k : Nat) (hl : cur.length = k) (ho : o ≤ zs.length) : limb (put zs o cur) (o + k) = limb zs (o + k) := by
  have h1 : (zs.take o).length = o := by rw [List.length_take]; omega
  unfold put limb
  rw [List.getD_eq_getElem?_getD, List.getElem?_append_right (by omega), h1, List.getElem?_append_right (by omega), List.getElem?_drop, List.getD_eq_getElem?_getD]
  congr 2
  omega
def lo (s x : Nat) : Nat := x * 2 ^ s % 4294967296
def hi (s x : Nat) : Nat := x / 2 ^ (32 - s)
theorem two_pows (s : Nat) (hs : s ≤ 32) : 2 ^ (32 - s) * 2 ^ s = 4294967296 := by
  rw [← Nat.pow_add]
  have e : 32 - s + s = 32 := by omega
  rw [e]
theorem lo_hi (s x : Nat) (hs : s ≤ 32) : x * 2 ^ s = lo s x + 4294967296 * hi s x := by
  unfold lo hi
  have hp := two_pows s hs
  have h2 : 0 < 2 ^ s := Nat.pow_pos (by omega)
  have e1 : x * 2 ^ s / 4294967296 = x / 2 ^ (32 - s) := by
    rw [← hp, Nat.mul_comm (2 ^ (32 - s))]
    rw [Nat.mul_comm x, Nat.mul_div_mul_left _ _ h2]
  rw [← e1]
  exact (Nat.mod_add_div _ _).symm
theorem hi_lt (s x : Nat) (hs : s ≤ 32) (hx : x < 4294967296) : hi s x < 2 ^ s := by
  unfold hi
  rw [Nat.div_lt_iff_lt_mul (Nat.pow_pos (by omega)), Nat.mul_comm, two_pows s hs]
  exact hx
theorem lo_mod (s x : Nat) (hs : s ≤ 32) : lo s x % 2 ^ s = 0 := by
  unfold lo
  have e : 4294967296 = 2 ^ s * 2 ^ (32 - s) := by rw [Nat.mul_comm, two_pows s hs]
  rw [e, Nat.mod_mul_right_mod, Nat.mul_mod_left]
theorem lo_lt (s x : Nat) : lo s x < 4294967296 := Nat.mod_lt _ (by omega)
theorem hi_lt32 (s x : Nat) (hx : x < 4294967296) : hi s x < 4294967296 := Nat.lt_of_le_of_lt (Nat.div_le_self _ _) hx
theorem lo_or_hi (s x y : Nat) (hs : s ≤ 32) (hy : y < 4294967296) : bits BinOp.or IntKind.u32 ((lo s x : Nat) : Int) ((hi s y : Nat) : Int) = ((lo s x + hi s y : Nat) : Int) := by
  rw [u32_or_nat _ _ (lo_lt s x) (hi_lt32 s y hy), nat_join s _ _ (lo_mod s x hs) (hi_lt s y hs hy)]
theorem lo_add_hi (s x y : Nat) (hs : s ≤ 32) (hy : y < 4294967296) : lo s x + hi s y < 4294967296 := by
  have h1 := u32_or_nat (lo s x) (hi s y) (lo_lt s x) (hi_lt32 s y hy)
  have h2 : lo s x ||| hi s y < 2 ^ 32 := Nat.or_lt_two_pow (lo_lt s x) (hi_lt32 s y hy)
  rw [nat_join s _ _ (lo_mod s x hs) (hi_lt s y hs hy)] at h2
  exact h2

theorem lo_int (s x : Nat) : (x : Int) * 2 ^ s % 4294967296 = ((lo s x : Nat) : Int) := by
  unfold lo
  rw [Int.natCast_emod, Int.natCast_mul, Int.natCast_pow]
  rfl
theorem hi_int (s x : Nat) : (x : Int) / 2 ^ (32 - s) = ((hi s x : Nat) : Int) := by
  unfold hi
  rw [Int.natCast_ediv, Int.natCast_pow]
  rfl
theorem limb_set_self (xs : List Nat) (i v : Nat) (h : i < xs.length) : limb (xs.set i v) i = v := by
  unfold limb
  rw [List.getD_eq_getElem?_getD, List.getElem?_set_self h]; rfl
theorem limb_set_ne (xs : List Nat) (i j v : Nat) (h : i ≠ j) : limb (xs.set i v) j = limb xs j := by
  unfold limb
  rw [List.getD_eq_getElem?_getD, List.getElem?_set_ne h, ← List.getD_eq_getElem?_getD]
theorem limb_take (xs : List Nat) (n t : Nat) (ht : t < n) : limb (xs.take n) t = limb xs t := by
  unfold limb
  rw [List.getD_eq_getElem?_getD, List.getD_eq_getElem?_getD, List.getElem?_take_of_lt ht]
theorem val_drop_one (xs : List Nat) (j : Nat) (h : j < xs.length) : Limb.val (xs.drop j) = limb xs j + 4294967296 * Limb.val (xs.drop (j + 1)) := by
  rw [List.drop_eq_getElem_cons h]
  unfold limb
  rw [List.getD_eq_getElem?_getD, List.getElem?_eq_getElem h]
  rfl
theorem drop_set_one (xs : List Nat) (j v : Nat) : (xs.set j v).drop (j + 1) = xs.drop (j + 1) := by
  rw [List.drop_set, if_pos (by omega)]

/-- What holds while limb i is the next to be shifted up. -/
def ShRel (g N s : Nat) (old : List Nat) (w : World) (i : Nat) (wr : World) : Prop :=
  ∃ cur : List Nat, cur.length = N ∧ Limb.Ok cur ∧ Row wr g cur ∧ Below w.heap.size w wr ∧ w.heap.size ≤ g ∧ (∀ t, t ≤ i → limb cur t = limb old t) ∧ Limb.val (cur.drop (i + 1)) = 2 ^ s * Limb.val (old.drop (i + 1)) + hi s (limb old i)
theorem sh_alg (P V L x h l : Nat) (hx : x * P = l + 4294967296 * h) : l + L + 4294967296 * (P * V + h) = P * (x + 4294967296 * V) + L := by
  rw [Nat.mul_add, Nat.mul_add, Nat.mul_comm P x, hx, Nat.mul_left_comm P 4294967296 V]
  omega
theorem ShRel.at_ {g N s : Nat} {old : List Nat} {w : World} {i : Nat} {wr : World} (h : ShRel g N s old w i wr) (hi : i < N) :
    ∃ x : Nat, x < 4294967296 ∧ x = limb old i ∧ wr.cell? ⟨g, i, none⟩ = some (.int .u32 (x : Int)) ∧ wr.frozen? ⟨g, i, none⟩ = false := by
  obtain ⟨cur, hl, ho, hr, hb, hg, he, hv⟩ := h
  exact ⟨limb cur i, ho.getD i, he i (Nat.le_refl _), hr.cell (i := i) (by omega), hr.frozen i⟩
theorem ShRel.at_low {g N s : Nat} {old : List Nat} {w : World} {i t : Nat} {wr : World} (h : ShRel g N s old w i wr) (hi : i < N) (ht : t ≤ i) :
    wr.cell? ⟨g, t, none⟩ = some (.int .u32 ((limb old t : Nat) : Int)) := by
  obtain ⟨cur, hl, ho, hr, hb, hg, he, hv⟩ := h
  rw [← he t ht]
  exact hr.cell (i := t) (by omega)
theorem ShRel.drew {g N s : Nat} {old : List Nat} {w : World} {i : Nat} {wr : World} (h : ShRel g N s old w i wr) : ShRel g N s old w i wr.drew := by
  obtain ⟨cur, hl, ho, hr, hb, hg, he, hv⟩ := h
  exact ⟨cur, hl, ho, hr.drew, hb.drew, hg, he, hv⟩
theorem ShRel.step {g N s : Nat} {old : List Nat} {w : World} {j : Nat} {wr : World} (h : ShRel g N s old w (j + 1) wr) (hj : j + 1 < N) (hs : s < 32) (hN : old.length = N) (hoo : Limb.Ok old) :
    ShRel g N s old w j (wr.setCell ⟨g, j + 1, none⟩ (.int .u32 ((lo s (limb old (j + 1)) + hi s (limb old j) : Nat) : Int))) := by
  obtain ⟨cur, hl, ho, hr, hb, hg, he, hv⟩ := h
  have hlt := lo_add_hi s (limb old (j + 1)) (limb old j) (Nat.le_of_lt hs) (hoo.getD j)
  refine ⟨cur.set (j + 1) (lo s (limb old (j + 1)) + hi s (limb old j)), by simp [hl], ho.set _ _ hlt, hr.set_ _ _, hb.setCell hg _, hg, fun t ht => ?_, ?_⟩
  · rw [limb_set_ne _ _ _ _ (by omega)]
    exact he t (by omega)
  · rw [val_drop_one _ (j + 1) (by simp; omega), limb_set_self _ _ _ (by omega), drop_set_one, hv, val_drop_one old (j + 1) (by omega)]
    exact sh_alg _ _ _ _ _ _ (lo_hi s _ (Nat.le_of_lt hs))
theorem ShRel.done {g m l s : Nat} {xs : List Nat} {w : World} {wr : World} (h : ShRel g (m + l + 1) s (put (List.replicate (m + l + 1) 0) l xs) w l wr) (hs : s < 32) (hx : Limb.Ok xs) (hm : xs.length = m) :
    ∃ zs : List Nat, zs.length = m + l + 1 ∧ Limb.Ok zs ∧ Row (wr.setCell ⟨g, l, none⟩ (.int .u32 ((lo s (limb (put (List.replicate (m + l + 1) 0) l xs) l) : Nat) : Int))) g zs ∧ Limb.val zs = Limb.val xs * 2 ^ (32 * l + s) := by
  obtain ⟨cur, hl, ho, hr, hb, hg, he, hv⟩ := h
  have hfit : l + xs.length ≤ (List.replicate (m + l + 1) 0).length := by simp; omega
  have hol : (put (List.replicate (m + l + 1) 0) l xs).length = m + l + 1 := by rw [put_length _ _ _ hfit]; simp
  generalize hold : put (List.replicate (m + l + 1) 0) l xs = old at *
  refine ⟨cur.set l (lo s (limb old l)), by simp [hl], ho.set _ _ (lo_lt _ _), hr.set_ _ _, ?_⟩
  have e1 : Limb.val ((cur.set l (lo s (limb old l))).drop l) = 2 ^ s * Limb.val (old.drop l) := by
    rw [val_drop_one _ l (by simp; omega), limb_set_self _ _ _ (by omega), drop_set_one, hv, val_drop_one old l (by omega)]
    have := sh_alg (2 ^ s) (Limb.val (old.drop (l + 1))) 0 (limb old l) (hi s (limb old l)) (lo s (limb old l)) (lo_hi s _ (Nat.le_of_lt hs))
    omega
  have e2 : old.drop l = xs ++ [0] := by
    rw [← hold]
    unfold put
    rw [List.take_replicate, Nat.min_eq_left (by omega), List.drop_append_of_le_length (by simp), List.drop_of_length_le (by simp), List.nil_append, List.drop_replicate, hm]
    have : m + l + 1 - (l + m) = 1 := by omega
    rw [this]; rfl
  have e3 : Limb.val ((cur.set l (lo s (limb old l))).take l) = 0 := by
    have h1 : ∀ t, limb ((cur.set l (lo s (limb old l))).take l) t = limb ([] : List Nat) t := by
      intro t
      have h0 : limb ([] : List Nat) t = 0 := Limb.limb_beyond (Nat.zero_le _)
      rw [h0]
      by_cases ht : t < l
      · rw [limb_take _ _ _ ht, limb_set_ne _ _ _ _ (by omega), he t (by omega), ← hold]
        unfold limb put
        rw [List.getD_eq_getElem?_getD, List.getElem?_append_left (by simp; omega), List.getElem?_take_of_lt ht, List.getElem?_replicate]
        split <;> rfl
      · exact Limb.limb_beyond (by rw [List.length_take]; omega)
    rw [Limb.val_eq_of_limbs _ _ h1]; rfl
  rw [Limb.val_take_drop _ l (by simp; omega), e3, e1, e2, Limb.val_append]
  have h4 : (4294967296 : Nat) ^ l = 2 ^ (32 * l) := by rw [Nat.pow_mul]
  have h5 : Limb.val [0] = 0 := rfl
  rw [h4, h5, Nat.mul_zero, Nat.add_zero, Nat.pow_add, Nat.zero_add, Nat.mul_comm (Limb.val xs), Nat.mul_assoc]

def ShiftPost (m n N : Nat) (w : World) (e : Ending) (w' : World) : Prop :=
  ∃ zs : List Nat, e = .returned (.slice (some ⟨w.heap.size, 0, none⟩) n n) ∧ zs.length = n ∧ Limb.Ok zs ∧ Row w' w.heap.size zs ∧ Limb.val zs = N ∧ Below w.heap.size w w'

set_option maxHeartbeats 4000000 in
theorem shifted_any (A : Option Addr) (m c n l s : Nat) (xs : List Nat) (w : World) (hx : Nums w A m xs) (hc : m ≤ c) (hc9 : c ≤ 9223372036854775807) (hm : m ≤ 1099511627776) (hn : n = 32 * l + s) (hs : s < 32) (hl : l ≤ 1099511627776) :
    Calls Try.prog 112 #[.slice A m c, .int .i64 (n : Int)] w (ShiftPost m (m + l + 1) (Limb.val xs * 2 ^ (32 * l + s)) w) := by
  have en : (n : Int) / 32 = (l : Int) := by omega
  have em : (n : Int) % 32 = (s : Int) := by omega
  have hn2 : n ≤ 35184372088895 := by omega
  have hml := hx.len
  have HML := Lib.hid hml
  have hok := hx.ok
  clear hn hml
  have f1 : (m + l + 1 = l) = False := by simp; omega
  go_enter Try.func112, Try.ntmps112
  go_wp2_with (first
    | (at_make; refine wpList_make_u32 _ rfl _ _ rfl _ (m + l + 1) rfl rfl (by omega) (by omega) ?_; intro w1 hr1 hb1 hs1)
    | (with_reducible refine wpList_copy_u32 rfl _ _ rfl w.heap.size l _ _ _ _ m c rfl (fun _ => rfl) rfl _ xs hr1 (hx.below hb1) (by omega) (by simp; omega) ?_; intro w2 hr2 ho2))
  have hold : (put (List.replicate (m + l + 1) 0) l xs).length = m + l + 1 := by rw [put_length _ _ _ (by rw [List.length_replicate, HML.out]; omega), List.length_replicate]
  have holok : Limb.Ok (put (List.replicate (m + l + 1) 0) l xs) := put_ok (Limb.Ok.replicate _) _ hok
  have hb2 : Below w.heap.size w w2 := hb1.trans (ho2.below (Nat.le_of_lt hs1) (Nat.le_refl _))
  have htop : limb (put (List.replicate (m + l + 1) 0) l xs) (m + l) = 0 := by
    have h1 := put_beyond' (List.replicate (m + l + 1) 0) l xs m HML.out (by simp; omega)
    refine (congrArg (limb _) (Nat.add_comm m l)).trans (h1.trans ?_)
    unfold limb
    rw [List.getD_eq_getElem?_getD, List.getElem?_replicate]
    split <;> rfl
  have HOL := Lib.hid hold
  have HST : Hid (ShRel w.heap.size (m + l + 1) s (put (List.replicate (m + l + 1) 0) l xs) w (m + l) w2) := by
    refine ⟨_, HOL.out, holok, hr2, hb2, Nat.le_refl _, fun _ _ => rfl, ?_⟩
    rw [List.drop_of_length_le (by rw [HOL.out]; exact Nat.le_refl _), htop]
    have : hi s 0 = 0 := by unfold hi; simp
    rw [this]
    simp [Limb.val]
  clear hold htop hr1 hr2 ho2 hb1 hb2 hs1 hx
  go_loopw [8] (fun i wr => ∃ j : Nat, l ≤ j ∧ j ≤ m + l ∧ i = .int .i64 (j : Int) ∧ Hid (ShRel w.heap.size (m + l + 1) s (put (List.replicate (m + l + 1) 0) l xs) w j wr)) (fun i _ => (intOf i).toNat)
  case atStart => exact ⟨m + l, by omega, Nat.le_refl _, by go_num, HST⟩
  case round =>
    clear HST
    obtain ⟨k, hk1, hk2, rfl, R⟩ := hrel
    by_cases hkl : l < k
    · obtain ⟨j, rfl⟩ : ∃ j, k = j + 1 := ⟨k - 1, by omega⟩
      obtain ⟨x, hxl, hxe, hcx, hfx⟩ := R.out.at_ (by omega)
      have hcy := R.out.at_low (t := j) (by omega) (by omega)
      have HX := Lib.hid hxe
      clear hxe
      have hw1 : IntKind.i64.wrap (32 - (s : Int)) = 32 - (s : Int) := IntWalk.i64_in _ (by omega)
      have hw2 : IntKind.i64.wrap (j : Int) = (j : Int) := IntWalk.i64_in _ (by omega)
      have hw3 : IntKind.i64.wrap ((j : Int) + 1) = (j : Int) + 1 := IntWalk.i64_in _ (by omega)
      go_wp2_with fail
      go_region
      rw [lo_int, hi_int, lo_or_hi s x (limb (put (List.replicate (m + l + 1) 0) l xs) j) (Nat.le_of_lt hs) (holok.getD j), HX.out]
      have hstep := R.out.step (by omega) hs HOL.out holok
      rw [Int.natCast_add] at hstep
      have HSTEP := hide hstep.drew
      clear hstep
      clear R hcy hcx hfx hw1 hw2 hw3
      go_wp2_with fail
      go_roundw
      case rel => exact ⟨j, by omega, by omega, by go_num, HSTEP⟩
      case measure => simp [intOf] <;> omega
    · obtain rfl : k = l := by omega
      clear hkl
      obtain ⟨x, hxl, hxe, hcx, hfx⟩ := R.out.at_ (by omega)
      have HX := Lib.hid hxe
      clear hxe
      go_wp2_with fail
      rw [lo_int, HX.out]
      go_ret
      obtain ⟨zs, z1, z2, z3, z4⟩ := R.out.done hs hok HML.out
      have hb : Below w.heap.size w wr := by obtain ⟨_, _, _, _, hb, _⟩ := R.out; exact hb
      exact ⟨zs, rfl, z1, z2, z3, z4, hb.setCell (Nat.le_refl _) _⟩
end Go.Proofs.Ytlihnagfmfpdcaa
/- nat.product and its three ways. -/
namespace Go.Proofs.Ytlihnagfmfpdcaa
open Go.RowKit
open Limb (limb limb_lt upto upto_succ upto_all upto_zero)

theorem lt_L (a : Nat) : a < 4294967296 ^ L a := Limb.canon_lt a
theorem L_le {a k : Nat} (h : a < 4294967296 ^ k) : L a ≤ k := Limb.canon_len_le a k h
theorem L_mono {a b : Nat} (h : a ≤ b) : L a ≤ L b := Limb.canon_len_mono h
theorem L_zero : L 0 = 0 := rfl
theorem L_mul (a b : Nat) : L (a * b) ≤ L a + L b := L_le (mul_lt_pow a b _ _ (lt_L a) (lt_L b))
theorem canon_drop (a k : Nat) : (Limb.canon a).drop k = Limb.canon (a / 4294967296 ^ k) := by
  induction k generalizing a with
  | zero => simp
  | succ k ih =>
    by_cases h : a = 0
    · subst h; simp [Limb.canon_zero]
    · rw [Limb.canon_pos a h, List.drop_succ_cons, ih, Nat.pow_succ, Nat.mul_comm (4294967296 ^ k), Nat.div_div_eq_div_mul]
theorem val_canon_take (a k : Nat) : Limb.val ((Limb.canon a).take k) = a % 4294967296 ^ k := by
  by_cases h : k ≤ (Limb.canon a).length
  · have e := Limb.val_take_drop (Limb.canon a) k h
    rw [Limb.val_canon, canon_drop, Limb.val_canon] at e
    have e2 := Nat.mod_add_div a (4294967296 ^ k)
    omega
  · rw [List.take_of_length_le (by omega), Limb.val_canon, Nat.mod_eq_of_lt]
    exact Nat.lt_of_lt_of_le (Limb.canon_lt a) (Limb.pow_mono (by omega))
theorem L_div (a k : Nat) : L (a / 4294967296 ^ k) = L a - k := by
  unfold L
  rw [← canon_drop, List.length_drop]
theorem win_zero (zs : List Nat) (o n : Nat) (h : Limb.val zs < 4294967296 ^ o) : Limb.val (win zs o n) = 0 := by
  have e : ∀ i, limb (win zs o n) i = limb ([] : List Nat) i := by
    intro i
    have e0 : limb ([] : List Nat) i = 0 := Limb.limb_beyond (Nat.zero_le _)
    rw [e0]
    unfold win
    by_cases hi : i < n
    · have h1 : limb ((zs.drop o).take n) i = limb zs (o + i) := by
        unfold limb
        rw [List.getD_eq_getElem?_getD, List.getD_eq_getElem?_getD, List.getElem?_take_of_lt hi, List.getElem?_drop]
      rw [h1]
      exact Limb.limb_zero_of_lt zs (o + i) (Nat.lt_of_lt_of_le h (Limb.pow_mono (by omega)))
    · exact Limb.limb_beyond (by rw [List.length_take]; omega)
  rw [Limb.val_eq_of_limbs _ _ e]
  rfl
theorem put_zero_val (zs : List Nat) (o : Nat) (ws : List Nat) (h : o + ws.length ≤ zs.length) (hz : Limb.val zs < 4294967296 ^ o) : Limb.val (put zs o ws) = Limb.val zs + 4294967296 ^ o * Limb.val ws := by
  have e := val_put zs o ws h
  rw [win_zero zs o ws.length hz, Nat.mul_zero] at e
  omega
theorem inc_val (zs : List Nat) (o n x : Nat) (hl : o + n = zs.length) (hlt : Limb.val zs + 4294967296 ^ o * x < 4294967296 ^ zs.length) : Limb.val (put zs o (Limb.fixed n (Limb.val (win zs o n) + x))) = Limb.val zs + 4294967296 ^ o * x := by
  have hf : (Limb.fixed n (Limb.val (win zs o n) + x)).length = n := Limb.fixed_length _ _
  have e := val_put zs o (Limb.fixed n (Limb.val (win zs o n) + x)) (by omega)
  rw [hf, Limb.fixed_val] at e
  have hw : 4294967296 ^ o * Limb.val (win zs o n) ≤ Limb.val zs := by
    have e2 := Limb.val_take_drop zs o (by omega)
    have e3 : win zs o n = zs.drop o := by unfold win; rw [List.take_of_length_le (by rw [List.length_drop]; omega)]
    rw [e3]
    omega
  have hs : Limb.val (win zs o n) + x < 4294967296 ^ n := by
    have h1 : 4294967296 ^ o * (Limb.val (win zs o n) + x) < 4294967296 ^ o * 4294967296 ^ n := by
      rw [← Nat.pow_add, hl, Nat.mul_add]
      omega
    exact Nat.lt_of_mul_lt_mul_left h1
  rw [Nat.mod_eq_of_lt hs, Nat.mul_add] at e
  omega

theorem long_val (a b half n m : Nat) (hn : n = L a) (hm : m = L b) (h : half ≤ n) :
    (a % 4294967296 ^ half * b) + 4294967296 ^ half * (a / 4294967296 ^ half * b) = a * b ∧ a * b < 4294967296 ^ (n + m) ∧ L (a % 4294967296 ^ half * b) ≤ half + m ∧ L (a / 4294967296 ^ half * b) ≤ n - half + m := by
  refine ⟨?_, ?_, ?_, ?_⟩
  · rw [← Nat.mul_assoc, ← Nat.add_mul, Nat.mod_add_div]
  · subst hn hm; exact mul_lt_pow a b _ _ (lt_L a) (lt_L b)
  · have h1 := L_mul (a % 4294967296 ^ half) b
    have h2 : L (a % 4294967296 ^ half) ≤ half := L_le (Nat.mod_lt _ (Nat.pow_pos (by omega)))
    omega
  · have h1 := L_mul (a / 4294967296 ^ half) b
    rw [L_div] at h1
    omega

theorem lowest_canon (A : Option Addr) (n c k a : Nat) (w : World) (hx : Nums w A n (Limb.canon a)) (hk : k ≤ n) (hc : n ≤ c) (hm : c ≤ 9223372036854775807) :
    Calls Try.prog 103 #[.slice A n c, .int .i64 (k : Int)] w (TrimDetPost A (a % 4294967296 ^ k) w) := by
  have h := lowest_any A n c k _ w hx hk hc hm
  rw [val_canon_take] at h
  exact h
theorem cut_canon (A : Option Addr) (n k a : Nat) (w : World) (hx : Nums w A n (Limb.canon a)) (hk : k ≤ n) : Nums w (cutA A (a % 4294967296 ^ k)) (L (a % 4294967296 ^ k)) (Limb.canon (a % 4294967296 ^ k)) := by
  have h := (isCut_det w A _ k (hx.take (k := k) hk)).2.2.1
  rw [val_canon_take] at h
  exact h
theorem rest_canon (A : Option Addr) (n c k a : Nat) (w : World) (hx : Nums w A n (Limb.canon a)) (hk : k < n) (hc : n ≤ c) : Nums w (A.map (·.add k)) (n - k) (Limb.canon (a / 4294967296 ^ k)) := by
  have h := hx.cut (k := k) (cap := c) (by omega) hc
  rw [canon_drop, if_neg (by omega)] at h
  exact h
/-- What is known of nat.product for fewer limbs. -/
def ProductTo (K : Nat) : Prop := ∀ (A B : Option Addr) (n c m d a b : Nat) (w : World), n + m < K → Nums w A n (Limb.canon a) → n ≤ c → c ≤ 9223372036854775807 → Nums w B m (Limb.canon b) → m ≤ d → d ≤ 9223372036854775807 → n + m ≤ 549755813888 →
  Calls Try.prog 52 #[.slice A n c, .slice B m d] w (CutPost (a * b) w)

theorem long_put (n m n2 low : Nat) (h : n2 = (Limb.canon low).length) (hle : n2 ≤ n + m) :
    Limb.Ok (put (List.replicate (n + m) 0) 0 (Limb.canon low)) ∧ (put (List.replicate (n + m) 0) 0 (Limb.canon low)).length = n + m ∧ Limb.val (put (List.replicate (n + m) 0) 0 (Limb.canon low)) = low := by
  refine ⟨put_ok (Limb.Ok.replicate _) _ (Limb.ok_canon _), by rw [put_length _ _ _ (by simp; omega)]; simp, ?_⟩
  rw [put_zero_val _ _ _ (by simp; omega) (by rw [Limb.val_replicate]; exact Nat.pow_pos (by omega)), Limb.val_replicate, Limb.val_canon]
  simp
set_option maxHeartbeats 4000000 in
theorem productOfLong_any (A B : Option Addr) (n c m d a b half : Nat) (w : World) (IH : ProductTo (n + m)) (hx : Nums w A n (Limb.canon a)) (hc : n ≤ c) (hm : c ≤ 9223372036854775807) (hy : Nums w B m (Limb.canon b)) (hd : m ≤ d) (hmd : d ≤ 9223372036854775807) (h39 : n + m ≤ 549755813888)
    (hh : half < n) (hh0 : 0 < half) :
    Calls Try.prog 89 #[.slice A n c, .slice B m d, .int .i64 (half : Int)] w (CutPost (a * b) w) := by
  have HT := hide (long_val a b half n m hx.len.symm hy.len.symm (by omega))
  have IHH := hide IH
  clear IH
  have ll : L (a % 4294967296 ^ half) ≤ half := L_le (Nat.mod_lt _ (Nat.pow_pos (by omega)))
  go_enter Try.func89, Try.ntmps89
  go_wp2_with (at_make; refine wpList_make_u32 _ rfl _ _ rfl _ (n + m) rfl rfl (by omega) (by omega) ?_; intro w1 hr1 hb1 hs1)
  refine (lowest_any A n c half _ w1 (hx.below hb1) (by omega) hc hm).mono ?_
  rintro e w' ⟨rfl, rfl⟩
  rw [val_canon_take]
  go_wp2_with fail
  have hx1 := isCut_det w1 A _ half ((hx.below hb1).take (k := half) (by omega))
  rw [val_canon_take] at hx1
  refine (IHH.out (cutA A (a % 4294967296 ^ half)) B _ _ m d (a % 4294967296 ^ half) b w1 (by omega) hx1.2.2.1 (Nat.le_refl _) (by omega) (hy.below hb1) hd hmd (by omega)).mono ?_
  rintro e w2 ⟨A2, n2, rfl, o2, b2⟩
  have l2 : n2 ≤ half + m := by rw [o2.len]; exact HT.out.2.2.1
  clear hx1
  go_wp2_with (with_reducible refine wpList_copy_u32 rfl _ _ rfl w.heap.size 0 _ _ _ _ n2 n2 rfl (fun _ => rfl) rfl _ _ (hr1.below b2 hs1) o2.nums (by omega) (by simp; omega) ?_; intro w3 hr3 ho3)
  have b3 : Below w.heap.size w w3 := (hb1.next b2).trans (ho3.below (by have := b2.size; omega) (Nat.le_refl _))
  have hx3 := (hx.below b3).cut (k := half) (cap := c) (by omega) hc
  rw [canon_drop] at hx3
  have hsz3 : w.heap.size < w3.heap.size := by have := ho3.size; have := b2.size; omega
  have f1 : (half : Int) ≤ (n : Int) + (m : Int) := by omega
  have f2 : (half : Int) ≤ (n : Int) := by omega
  have f3 : (n + m = half) = False := by simp; omega
  have f4 : (c = half) = False := by simp; omega
  rw [if_neg (by omega)] at hx3
  have hr3 : Row w3 w.heap.size (put (List.replicate (n + m) 0) 0 (Limb.canon (a % 4294967296 ^ half * b))) := hr3
  have l3 : n2 ≤ n + m := by omega
  have HN2 := Lib.hid o2.len
  have HP := hide (long_put n m n2 (a % 4294967296 ^ half * b) HN2.out l3)
  generalize put (List.replicate (n + m) 0) 0 (Limb.canon (a % 4294967296 ^ half * b)) = zs at hr3 HP
  go_region_with (first
    | (go_at_call 52; refine (IHH.out _ B _ _ m d (a / 4294967296 ^ half) b _ (by omega) hx3.drew (by omega) (by omega) (hy.below b3).drew hd hmd (by omega)).mono ?_; rintro e w4 ⟨A4, n4, rfl, o4, b4⟩)
    | (go_at_call 94; (refine (increase_any w.heap.size half (n + m - half) _ zs A4 n4 n4 _ _ (hr3.drew.below b4 hsz3) HP.out.1 (by rw [HP.out.2.1]; omega) (by omega) o4.nums (by rw [o4.len]; exact Nat.le_trans HT.out.2.2.2 (by omega)) (fun h => o4.apart h hsz3)).mono ?_); rintro e w5 ⟨rfl, hr5, ho5⟩))
  go_wp2_with fail
  have hv : Limb.val (put zs half (Limb.fixed (n + m - half) (Limb.val (win zs half (n + m - half)) + Limb.val (Limb.canon (a / 4294967296 ^ half * b))))) = a * b := by
    rw [inc_val zs half _ _ (by rw [HP.out.2.1]; omega) (by rw [HP.out.2.1, HP.out.2.2, Limb.val_canon, HT.out.1]; exact HT.out.2.1), HP.out.2.2, Limb.val_canon, HT.out.1]
  have hlen : (put zs half (Limb.fixed (n + m - half) (Limb.val (win zs half (n + m - half)) + Limb.val (Limb.canon (a / 4294967296 ^ half * b))))).length = n + m := by
    rw [put_length _ _ _ (by rw [Limb.fixed_length, HP.out.2.1]; omega)]; exact HP.out.2.1
  have hok := put_ok HP.out.1 half (Limb.fixed_ok (n + m - half) (Limb.val (win zs half (n + m - half)) + Limb.val (Limb.canon (a / 4294967296 ^ half * b))))
  refine (trimmed_row w.heap.size (n + m) _ (a * b) w.heap.size _ _ hr5 hok (by rw [hlen]; exact Nat.le_refl _) (by omega) (by omega) (Nat.le_refl _) (by rw [List.take_of_length_le (by rw [hlen]; exact Nat.le_refl _)]; exact hv)).mono ?_
  rintro e w6 ⟨A', j, rfl, how, rfl⟩
  clear hv hlen hok
  go_wp2_with fail
  go_ret
  exact ⟨A', j, rfl, how, (b3.drew.next b4).trans (ho5.below (by have := b4.size; simp at this; omega) (Nat.le_refl _))⟩
end Go.Proofs.Ytlihnagfmfpdcaa
