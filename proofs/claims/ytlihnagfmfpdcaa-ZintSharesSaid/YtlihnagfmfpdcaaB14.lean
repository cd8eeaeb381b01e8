/- Texts of one seat, put together: Shift. -/
import Derived.Test.YtlihnagfmfpdcaaB12
import Derived.StillTailTactics
/- nat.shifted, nat.Right. -/
namespace Go.Proofs.Ytlihnagfmfpdcaa
open Go.RowKit
open Limb (limb limb_lt upto upto_succ upto_all upto_zero)

theorem put_beyond' (zs : List Nat) (o : Nat) (cur : List Nat) (k : Nat) (hl : cur.length = k) (ho : o ≤ zs.length) : limb (put zs o cur) (o + k) = limb zs (o + k) := by
  have h1 : (zs.take o).length = o := by rw [List.length_take]; omega
  unfold put limb
  rw [List.getD_eq_getElem?_getD, List.getElem?_append_right (by omega), h1, List.getElem?_append_right (by omega), List.getElem?_drop, List.getD_eq_getElem?_getD]
  congr 2
  omega
def lo (s x : Nat) : Nat := x * 2 ^ s % 4294967296
def hi (s x : Nat) : Nat := x / 2 ^ (32 - s)
theorem two_pows (s : Nat) (hs : s ≤ 32) : 2 ^ (32 - s) * 2 ^ s = 4294967296 := by
  rw [← Nat.pow_add]
  have e : 32 - s + s = 32 := by omega
  rw [e]
theorem lo_hi (s x : Nat) (hs : s ≤ 32) : x * 2 ^ s = lo s x + 4294967296 * hi s x := by
  unfold lo hi
  have hp := two_pows s hs
  have h2 : 0 < 2 ^ s := Nat.pow_pos (by omega)
  have e1 : x * 2 ^ s / 4294967296 = x / 2 ^ (32 - s) := by
    rw [← hp, Nat.mul_comm (2 ^ (32 - s))]
    rw [Nat.mul_comm x, Nat.mul_div_mul_left _ _ h2]
  rw [← e1]
  exact (Nat.mod_add_div _ _).symm
theorem hi_lt (s x : Nat) (hs : s ≤ 32) (hx : x < 4294967296) : hi s x < 2 ^ s := by
  unfold hi
  rw [Nat.div_lt_iff_lt_mul (Nat.pow_pos (by omega)), Nat.mul_comm, two_pows s hs]
  exact hx
theorem lo_mod (s x : Nat) (hs : s ≤ 32) : lo s x % 2 ^ s = 0 := by
  unfold lo
  have e : 4294967296 = 2 ^ s * 2 ^ (32 - s) := by rw [Nat.mul_comm, two_pows s hs]
  rw [e, Nat.mod_mul_right_mod, Nat.mul_mod_left]
theorem lo_lt (s x : Nat) : lo s x < 4294967296 := Nat.mod_lt _ (by omega)
theorem hi_lt32 (s x : Nat) (hx : x < 4294967296) : hi s x < 4294967296 := Nat.lt_of_le_of_lt (Nat.div_le_self _ _) hx
theorem lo_or_hi (s x y : Nat) (hs : s ≤ 32) (hy : y < 4294967296) : bits BinOp.or IntKind.u32 ((lo s x : Nat) : Int) ((hi s y : Nat) : Int) = ((lo s x + hi s y : Nat) : Int) := by
  rw [u32_or_nat _ _ (lo_lt s x) (hi_lt32 s y hy), nat_join s _ _ (lo_mod s x hs) (hi_lt s y hs hy)]
theorem lo_add_hi (s x y : Nat) (hs : s ≤ 32) (hy : y < 4294967296) : lo s x + hi s y < 4294967296 := by
  have h1 := u32_or_nat (lo s x) (hi s y) (lo_lt s x) (hi_lt32 s y hy)
  have h2 : lo s x ||| hi s y < 2 ^ 32 := Nat.or_lt_two_pow (lo_lt s x) (hi_lt32 s y hy)
  rw [nat_join s _ _ (lo_mod s x hs) (hi_lt s y hs hy)] at h2
  exact h2

theorem lo_int (s x : Nat) : (x : Int) * 2 ^ s % 4294967296 = ((lo s x : Nat) : Int) := by
  unfold lo
  rw [Int.natCast_emod, Int.natCast_mul, Int.natCast_pow]
  rfl
theorem hi_int (s x : Nat) : (x : Int) / 2 ^ (32 - s) = ((hi s x : Nat) : Int) := by
  unfold hi
  rw [Int.natCast_ediv, Int.natCast_pow]
  rfl
theorem limb_set_self (xs : List Nat) (i v : Nat) (h : i < xs.length) : limb (xs.set i v) i = v := by
  unfold limb
  rw [List.getD_eq_getElem?_getD, List.getElem?_set_self h]; rfl
theorem limb_set_ne (xs : List Nat) (i j v : Nat) (h : i ≠ j) : limb (xs.set i v) j = limb xs j := by
  unfold limb
  rw [List.getD_eq_getElem?_getD, List.getElem?_set_ne h, ← List.getD_eq_getElem?_getD]
theorem limb_take (xs : List Nat) (n t : Nat) (ht : t < n) : limb (xs.take n) t = limb xs t := by
  unfold limb
  rw [List.getD_eq_getElem?_getD, List.getD_eq_getElem?_getD, List.getElem?_take_of_lt ht]
theorem val_drop_one (xs : List Nat) (j : Nat) (h : j < xs.length) : Limb.val (xs.drop j) = limb xs j + 4294967296 * Limb.val (xs.drop (j + 1)) := by
  rw [List.drop_eq_getElem_cons h]
  unfold limb
  rw [List.getD_eq_getElem?_getD, List.getElem?_eq_getElem h]
  rfl
theorem drop_set_one (xs : List Nat) (j v : Nat) : (xs.set j v).drop (j + 1) = xs.drop (j + 1) := by
  rw [List.drop_set, if_pos (by omega)]

/-- What holds while limb i is the next to be shifted up. -/
def ShRel (g N s : Nat) (old : List Nat) (w : World) (i : Nat) (wr : World) : Prop :=
  ∃ cur : List Nat, cur.length = N ∧ Limb.Ok cur ∧ Row wr g cur ∧ Below w.heap.size w wr ∧ w.heap.size ≤ g ∧ (∀ t, t ≤ i → limb cur t = limb old t) ∧ Limb.val (cur.drop (i + 1)) = 2 ^ s * Limb.val (old.drop (i + 1)) + hi s (limb old i)
theorem sh_alg (P V L x h l : Nat) (hx : x * P = l + 4294967296 * h) : l + L + 4294967296 * (P * V + h) = P * (x + 4294967296 * V) + L := by
  rw [Nat.mul_add, Nat.mul_add, Nat.mul_comm P x, hx, Nat.mul_left_comm P 4294967296 V]
  omega
theorem ShRel.at_ {g N s : Nat} {old : List Nat} {w : World} {i : Nat} {wr : World} (h : ShRel g N s old w i wr) (hi : i < N) :
    ∃ x : Nat, x < 4294967296 ∧ x = limb old i ∧ wr.cell? ⟨g, i, none⟩ = some (.int .u32 (x : Int)) ∧ wr.frozen? ⟨g, i, none⟩ = false := by
  obtain ⟨cur, hl, ho, hr, hb, hg, he, hv⟩ := h
  exact ⟨limb cur i, ho.getD i, he i (Nat.le_refl _), hr.cell (i := i) (by omega), hr.frozen i⟩
theorem ShRel.at_low {g N s : Nat} {old : List Nat} {w : World} {i t : Nat} {wr : World} (h : ShRel g N s old w i wr) (hi : i < N) (ht : t ≤ i) :
    wr.cell? ⟨g, t, none⟩ = some (.int .u32 ((limb old t : Nat) : Int)) := by
  obtain ⟨cur, hl, ho, hr, hb, hg, he, hv⟩ := h
  rw [← he t ht]
  exact hr.cell (i := t) (by omega)
theorem ShRel.drew {g N s : Nat} {old : List Nat} {w : World} {i : Nat} {wr : World} (h : ShRel g N s old w i wr) : ShRel g N s old w i wr.drew := by
  obtain ⟨cur, hl, ho, hr, hb, hg, he, hv⟩ := h
  exact ⟨cur, hl, ho, hr.drew, hb.drew, hg, he, hv⟩
theorem ShRel.step {g N s : Nat} {old : List Nat} {w : World} {j : Nat} {wr : World} (h : ShRel g N s old w (j + 1) wr) (hj : j + 1 < N) (hs : s < 32) (hN : old.length = N) (hoo : Limb.Ok old) :
    ShRel g N s old w j (wr.setCell ⟨g, j + 1, none⟩ (.int .u32 ((lo s (limb old (j + 1)) + hi s (limb old j) : Nat) : Int))) := by
  obtain ⟨cur, hl, ho, hr, hb, hg, he, hv⟩ := h
  have hlt := lo_add_hi s (limb old (j + 1)) (limb old j) (Nat.le_of_lt hs) (hoo.getD j)
  refine ⟨cur.set (j + 1) (lo s (limb old (j + 1)) + hi s (limb old j)), by simp [hl], ho.set _ _ hlt, hr.set_ _ _, hb.setCell hg _, hg, fun t ht => ?_, ?_⟩
  · rw [limb_set_ne _ _ _ _ (by omega)]
    exact he t (by omega)
  · rw [val_drop_one _ (j + 1) (by simp; omega), limb_set_self _ _ _ (by omega), drop_set_one, hv, val_drop_one old (j + 1) (by omega)]
    exact sh_alg _ _ _ _ _ _ (lo_hi s _ (Nat.le_of_lt hs))
theorem ShRel.done {g m l s : Nat} {xs : List Nat} {w : World} {wr : World} (h : ShRel g (m + l + 1) s (put (List.replicate (m + l + 1) 0) l xs) w l wr) (hs : s < 32) (hx : Limb.Ok xs) (hm : xs.length = m) :
    ∃ zs : List Nat, zs.length = m + l + 1 ∧ Limb.Ok zs ∧ Row (wr.setCell ⟨g, l, none⟩ (.int .u32 ((lo s (limb (put (List.replicate (m + l + 1) 0) l xs) l) : Nat) : Int))) g zs ∧ Limb.val zs = Limb.val xs * 2 ^ (32 * l + s) := by
  obtain ⟨cur, hl, ho, hr, hb, hg, he, hv⟩ := h
  have hfit : l + xs.length ≤ (List.replicate (m + l + 1) 0).length := by simp; omega
  have hol : (put (List.replicate (m + l + 1) 0) l xs).length = m + l + 1 := by rw [put_length _ _ _ hfit]; simp
  generalize hold : put (List.replicate (m + l + 1) 0) l xs = old at *
  refine ⟨cur.set l (lo s (limb old l)), by simp [hl], ho.set _ _ (lo_lt _ _), hr.set_ _ _, ?_⟩
  have e1 : Limb.val ((cur.set l (lo s (limb old l))).drop l) = 2 ^ s * Limb.val (old.drop l) := by
    rw [val_drop_one _ l (by simp; omega), limb_set_self _ _ _ (by omega), drop_set_one, hv, val_drop_one old l (by omega)]
    have := sh_alg (2 ^ s) (Limb.val (old.drop (l + 1))) 0 (limb old l) (hi s (limb old l)) (lo s (limb old l)) (lo_hi s _ (Nat.le_of_lt hs))
    omega
  have e2 : old.drop l = xs ++ [0] := by
    rw [← hold]
    unfold put
    rw [List.take_replicate, Nat.min_eq_left (by omega), List.drop_append_of_le_length (by simp), List.drop_of_length_le (by simp), List.nil_append, List.drop_replicate, hm]
    have : m + l + 1 - (l + m) = 1 := by omega
    rw [this]; rfl
  have e3 : Limb.val ((cur.set l (lo s (limb old l))).take l) = 0 := by
    have h1 : ∀ t, limb ((cur.set l (lo s (limb old l))).take l) t = limb ([] : List Nat) t := by
      intro t
      have h0 : limb ([] : List Nat) t = 0 := Limb.limb_beyond (Nat.zero_le _)
      rw [h0]
      by_cases ht : t < l
      · rw [limb_take _ _ _ ht, limb_set_ne _ _ _ _ (by omega), he t (by omega), ← hold]
        unfold limb put
        rw [List.getD_eq_getElem?_getD, List.getElem?_append_left (by simp; omega), List.getElem?_take_of_lt ht, List.getElem?_replicate]
        split <;> rfl
      · exact Limb.limb_beyond (by rw [List.length_take]; omega)
    rw [Limb.val_eq_of_limbs _ _ h1]; rfl
  rw [Limb.val_take_drop _ l (by simp; omega), e3, e1, e2, Limb.val_append]
  have h4 : (4294967296 : Nat) ^ l = 2 ^ (32 * l) := by rw [Nat.pow_mul]
  have h5 : Limb.val [0] = 0 := rfl
  rw [h4, h5, Nat.mul_zero, Nat.add_zero, Nat.pow_add, Nat.zero_add, Nat.mul_comm (Limb.val xs), Nat.mul_assoc]

def ShiftPost (m n N : Nat) (w : World) (e : Ending) (w' : World) : Prop :=
  ∃ zs : List Nat, e = .returned (.slice (some ⟨w.heap.size, 0, none⟩) n n) ∧ zs.length = n ∧ Limb.Ok zs ∧ Row w' w.heap.size zs ∧ Limb.val zs = N ∧ Below w.heap.size w w'

set_option maxHeartbeats 4000000 in
theorem shifted_any (A : Option Addr) (m c n l s : Nat) (xs : List Nat) (w : World) (hx : Nums w A m xs) (hc : m ≤ c) (hc9 : c ≤ 9223372036854775807) (hm : m ≤ 1099511627776) (hn : n = 32 * l + s) (hs : s < 32) (hl : l ≤ 1099511627776) :
    Calls Try.prog 112 #[.slice A m c, .int .i64 (n : Int)] w (ShiftPost m (m + l + 1) (Limb.val xs * 2 ^ (32 * l + s)) w) := by
  have en : (n : Int) / 32 = (l : Int) := by omega
  have em : (n : Int) % 32 = (s : Int) := by omega
  have hn2 : n ≤ 35184372088895 := by omega
  have hml := hx.len
  have HML := Lib.hid hml
  have hok := hx.ok
  clear hn hml
  have f1 : (m + l + 1 = l) = False := by simp; omega
  go_enter Try.func112, Try.ntmps112
  go_wp2_with (first
    | (at_make; refine wpList_make_u32 _ rfl _ _ rfl _ (m + l + 1) rfl rfl (by omega) (by omega) ?_; intro w1 hr1 hb1 hs1)
    | (with_reducible refine wpList_copy_u32 rfl _ _ rfl w.heap.size l _ _ _ _ m c rfl (fun _ => rfl) rfl _ xs hr1 (hx.below hb1) (by omega) (by simp; omega) ?_; intro w2 hr2 ho2))
  have hold : (put (List.replicate (m + l + 1) 0) l xs).length = m + l + 1 := by rw [put_length _ _ _ (by rw [List.length_replicate, HML.out]; omega), List.length_replicate]
  have holok : Limb.Ok (put (List.replicate (m + l + 1) 0) l xs) := put_ok (Limb.Ok.replicate _) _ hok
  have hb2 : Below w.heap.size w w2 := hb1.trans (ho2.below (Nat.le_of_lt hs1) (Nat.le_refl _))
  have htop : limb (put (List.replicate (m + l + 1) 0) l xs) (m + l) = 0 := by
    have h1 := put_beyond' (List.replicate (m + l + 1) 0) l xs m HML.out (by simp; omega)
    refine (congrArg (limb _) (Nat.add_comm m l)).trans (h1.trans ?_)
    unfold limb
    rw [List.getD_eq_getElem?_getD, List.getElem?_replicate]
    split <;> rfl
  have HOL := Lib.hid hold
  have HST : Hid (ShRel w.heap.size (m + l + 1) s (put (List.replicate (m + l + 1) 0) l xs) w (m + l) w2) := by
    refine ⟨_, HOL.out, holok, hr2, hb2, Nat.le_refl _, fun _ _ => rfl, ?_⟩
    rw [List.drop_of_length_le (by rw [HOL.out]; exact Nat.le_refl _), htop]
    have : hi s 0 = 0 := by unfold hi; simp
    rw [this]
    simp [Limb.val]
  clear hold htop hr1 hr2 ho2 hb1 hb2 hs1 hx
  go_loopw [8] (fun i wr => ∃ j : Nat, l ≤ j ∧ j ≤ m + l ∧ i = .int .i64 (j : Int) ∧ Hid (ShRel w.heap.size (m + l + 1) s (put (List.replicate (m + l + 1) 0) l xs) w j wr)) (fun i _ => (intOf i).toNat)
  case atStart => exact ⟨m + l, by omega, Nat.le_refl _, by go_num, HST⟩
  case round =>
    clear HST
    obtain ⟨k, hk1, hk2, rfl, R⟩ := hrel
    by_cases hkl : l < k
    · obtain ⟨j, rfl⟩ : ∃ j, k = j + 1 := ⟨k - 1, by omega⟩
      obtain ⟨x, hxl, hxe, hcx, hfx⟩ := R.out.at_ (by omega)
      have hcy := R.out.at_low (t := j) (by omega) (by omega)
      have HX := Lib.hid hxe
      clear hxe
      have hw1 : IntKind.i64.wrap (32 - (s : Int)) = 32 - (s : Int) := IntWalk.i64_in _ (by omega)
      have hw2 : IntKind.i64.wrap (j : Int) = (j : Int) := IntWalk.i64_in _ (by omega)
      have hw3 : IntKind.i64.wrap ((j : Int) + 1) = (j : Int) + 1 := IntWalk.i64_in _ (by omega)
      go_wp2_with fail
      go_region
      rw [lo_int, hi_int, lo_or_hi s x (limb (put (List.replicate (m + l + 1) 0) l xs) j) (Nat.le_of_lt hs) (holok.getD j), HX.out]
      have hstep := R.out.step (by omega) hs HOL.out holok
      rw [Int.natCast_add] at hstep
      have HSTEP := hide hstep.drew
      clear hstep
      clear R hcy hcx hfx hw1 hw2 hw3
      go_wp2_with fail
      go_roundw
      case rel => exact ⟨j, by omega, by omega, by go_num, HSTEP⟩
      case measure => simp [intOf] <;> omega
    · obtain rfl : k = l := by omega
      clear hkl
      obtain ⟨x, hxl, hxe, hcx, hfx⟩ := R.out.at_ (by omega)
      have HX := Lib.hid hxe
      clear hxe
      go_wp2_with fail
      rw [lo_int, HX.out]
      go_ret
      obtain ⟨zs, z1, z2, z3, z4⟩ := R.out.done hs hok HML.out
      have hb : Below w.heap.size w wr := by obtain ⟨_, _, _, _, hb, _⟩ := R.out; exact hb
      exact ⟨zs, rfl, z1, z2, z3, z4, hb.setCell (Nat.le_refl _) _⟩
end Go.Proofs.Ytlihnagfmfpdcaa
