/- Texts of one seat, put together: Right Bits. -/
import Derived.Test.YtakcgkohnomgjaaGreatDoorC08
import Derived.Test.YtakcgkohnomgjaaGreatDoorC06
import Derived.Shelf.Small.Bits
import Derived.Lib.ItoaNum
import Derived.Test.YtakcgkohnomgjaaGreatDoorC02
set_option linter.unusedVariables false
set_option linter.unusedSimpArgs false
/- nat.Right. -/
namespace Go.Proofs.YtakcgkohnomgjaaGreatDoor
open Go.RowKit
open Limb (limb limb_lt upto upto_succ upto_all upto_zero)

/-- What holds while limb i is the next to be shifted down. -/
def RtRel (g N s : Nat) (old : List Nat) (w : World) (i : Nat) (wr : World) : Prop :=
  ∃ cur : List Nat, cur.length = N ∧ Limb.Ok cur ∧ Row wr g cur ∧ Below w.heap.size w wr ∧ w.heap.size ≤ g ∧ (∀ t, i ≤ t → limb cur t = limb old t) ∧ 2 ^ s * upto cur i + limb old 0 % 2 ^ s = upto old i + 4294967296 ^ i * (limb old i % 2 ^ s)
theorem RtRel.drew {g N s : Nat} {old : List Nat} {w : World} {i : Nat} {wr : World} (h : RtRel g N s old w i wr) : RtRel g N s old w i wr.drew := by
  obtain ⟨cur, hl, ho, hr, hb, hg, he, hv⟩ := h
  exact ⟨cur, hl, ho, hr.drew, hb.drew, hg, he, hv⟩
theorem RtRel.at_ {g N s : Nat} {old : List Nat} {w : World} {i t : Nat} {wr : World} (h : RtRel g N s old w i wr) (ht : i ≤ t) (hN : t < N) :
    wr.cell? ⟨g, t, none⟩ = some (.int .u32 ((limb old t : Nat) : Int)) ∧ wr.frozen? ⟨g, t, none⟩ = false := by
  obtain ⟨cur, hl, ho, hr, hb, hg, he, hv⟩ := h
  rw [← he t ht]
  exact ⟨hr.cell (i := t) (by omega), hr.frozen t⟩
theorem upto_set (cur : List Nat) (i v : Nat) : upto (cur.set i v) i = upto cur i := by
  unfold upto
  rw [List.take_set_of_le (Nat.le_refl i)]
theorem lo_pow (s y : Nat) (hs : s ≤ 32) : 2 ^ s * lo (32 - s) y = 4294967296 * (y % 2 ^ s) := by
  unfold lo
  have e : 4294967296 = 2 ^ (32 - s) * 2 ^ s := (two_pows s hs).symm
  have h1 : y * 2 ^ (32 - s) % 4294967296 = 2 ^ (32 - s) * (y % 2 ^ s) := by
    rw [e, Nat.mul_comm y, Nat.mul_mod_mul_left]
  rw [h1, ← Nat.mul_assoc, Nat.mul_comm (2 ^ s), two_pows s hs]
theorem hi_sub (s x : Nat) (hs : s ≤ 32) : hi (32 - s) x = x / 2 ^ s := by
  unfold hi
  have : 32 - (32 - s) = s := by omega
  rw [this]
theorem rt_alg (P U V B x y r0 h l : Nat) (hv : P * U + r0 = V + B * (x % P)) (hl : P * l = 4294967296 * y) (hh : h = x / P) : P * (U + B * (h + l)) + r0 = V + B * x + B * 4294967296 * y := by
  have e1 := Nat.div_add_mod x P
  rw [← hh] at e1
  have e2 : P * (B * (h + l)) = B * (P * h) + B * (P * l) := by rw [Nat.mul_left_comm P B, Nat.mul_add, Nat.mul_add]
  rw [Nat.mul_add, e2, hl]
  have e3 : B * (P * h + x % P) = B * x := by rw [e1]
  rw [Nat.mul_add] at e3
  rw [Nat.mul_assoc]
  omega
theorem RtRel.step {g N s : Nat} {old : List Nat} {w : World} {i : Nat} {wr : World} (h : RtRel g N s old w i wr) (hi' : i + 1 < N) (hs : s ≤ 32) (hoo : Limb.Ok old) :
    RtRel g N s old w (i + 1) (wr.setCell ⟨g, i, none⟩ (.int .u32 ((hi (32 - s) (limb old i) + lo (32 - s) (limb old (i + 1)) : Nat) : Int))) := by
  obtain ⟨cur, hl, ho, hr, hb, hg, he, hv⟩ := h
  have hlt := lo_add_hi (32 - s) (limb old (i + 1)) (limb old i) (by omega) (hoo.getD i)
  refine ⟨cur.set i (hi (32 - s) (limb old i) + lo (32 - s) (limb old (i + 1))), by simp [hl], ho.set _ _ (by omega), hr.set_ _ _, hb.setCell hg _, hg, fun t ht => ?_, ?_⟩
  · rw [limb_set_ne _ _ _ _ (by omega)]
    exact he t (by omega)
  · rw [upto_succ, upto_set, limb_set_self _ _ _ (by omega), upto_succ, Nat.pow_succ]
    exact rt_alg _ _ _ _ _ _ _ _ _ hv (lo_pow s _ hs) (hi_sub s _ hs)
theorem RtRel.done {g N s : Nat} {old : List Nat} {w : World} {i : Nat} {wr : World} (h : RtRel g N s old w i wr) (hi' : i + 1 = N) (hs : s ≤ 32) (hoo : Limb.Ok old) (hN : old.length = N) :
    ∃ zs : List Nat, zs.length = N ∧ Limb.Ok zs ∧ Row (wr.setCell ⟨g, i, none⟩ (.int .u32 ((hi (32 - s) (limb old i) : Nat) : Int))) g zs ∧ Limb.val zs = Limb.val old / 2 ^ s := by
  obtain ⟨cur, hl, ho, hr, hb, hg, he, hv⟩ := h
  refine ⟨cur.set i (hi (32 - s) (limb old i)), by simp [hl], ho.set _ _ (hi_lt32 _ _ (hoo.getD i)), hr.set_ _ _, ?_⟩
  have e1 : Limb.val (cur.set i (hi (32 - s) (limb old i))) = upto cur i + 4294967296 ^ i * hi (32 - s) (limb old i) := by
    rw [← upto_all _ (i + 1) (by simp; omega), upto_succ, upto_set, limb_set_self _ _ _ (by omega)]
  have e2 : Limb.val old = upto old i + 4294967296 ^ i * limb old i := by rw [← upto_succ, upto_all _ _ (by omega)]
  have e3 := rt_alg (2 ^ s) _ _ _ _ 0 _ (hi (32 - s) (limb old i)) 0 hv (by simp) (hi_sub s _ hs)
  rw [Nat.add_zero, Nat.mul_zero, Nat.add_zero, ← e1, ← e2] at e3
  have hp : 0 < 2 ^ s := Nat.pow_pos (by omega)
  have e4 := Nat.mod_lt (limb old 0) hp
  rw [← e3, Nat.mul_add_div hp, Nat.div_eq_of_lt e4, Nat.add_zero]
theorem hi_or_lo (s x y : Nat) (hs : s ≤ 32) (hy : y < 4294967296) : bits BinOp.or IntKind.u32 ((hi s y : Nat) : Int) ((lo s x : Nat) : Int) = ((hi s y + lo s x : Nat) : Int) := by
  rw [u32_or_nat _ _ (hi_lt32 s y hy) (lo_lt s x), Nat.or_comm, nat_join s _ _ (lo_mod s x hs) (hi_lt s y hs hy), Nat.add_comm]
theorem hi_int' (s x : Nat) (hs : s ≤ 32) : (x : Int) / 2 ^ s = ((hi (32 - s) x : Nat) : Int) := by
  rw [hi_sub s x hs, Int.natCast_ediv, Int.natCast_pow]
  rfl
theorem lo_int' (s x : Nat) : (x : Int) * 2 ^ (32 - s) % 4294967296 = ((lo (32 - s) x : Nat) : Int) := lo_int (32 - s) x
theorem right_zero (a l s : Nat) (h : L a ≤ l) : a / 2 ^ (32 * l + s) = 0 := by
  refine Nat.div_eq_of_lt ?_
  have h1 : 4294967296 ^ l = 2 ^ (32 * l) := by rw [Nat.pow_mul]
  have h2 := Nat.lt_of_lt_of_le (lt_L a) (Limb.pow_mono h)
  rw [h1] at h2
  exact Nat.lt_of_lt_of_le h2 (Nat.pow_le_pow_right (by omega) (by omega))
theorem right_div (a l s : Nat) : a / 4294967296 ^ l / 2 ^ s = a / 2 ^ (32 * l + s) := by
  have h1 : 4294967296 ^ l = 2 ^ (32 * l) := by rw [Nat.pow_mul]
  rw [Nat.div_div_eq_div_mul, h1, ← Nat.pow_add]

theorem RtRel.start {g N s : Nat} {old : List Nat} {w wr : World} (hl : old.length = N) (ho : Limb.Ok old) (hr : Row wr g old) (hb : Below w.heap.size w wr) (hg : w.heap.size ≤ g) : RtRel g N s old w 0 wr :=
  ⟨old, hl, ho, hr, hb, hg, fun _ _ => rfl, by rw [upto_zero, Nat.mul_zero, Nat.zero_add, Nat.pow_zero, Nat.one_mul, Nat.zero_add]⟩

set_option maxHeartbeats 4000000 in
theorem right_int (A : Option Addr) (m c n l s : Nat) (z : Int) (xs : List Nat) (w : World) (hx : Nums w A m xs) (hc : m ≤ c) (hc9 : c ≤ 9223372036854775807) (hm : m ≤ 1099511627776) (hn : n = 32 * l + s) (hs : s < 32) (hn63 : n ≤ 9223372036854775807) (hz : max z 0 = (n : Int)) :
    Calls Tryz.prog 158 #[.slice A m c, .int .i64 z] w (CutPost (Limb.val xs / 2 ^ (32 * l + s)) w) := by
  have hcut := isCut_det w A xs m hx
  have hdet := trimmed_det A m c xs w hx hc hc9
  generalize Limb.val xs = a at *
  obtain ⟨-, hle, hN, -⟩ := hcut
  have hmx : ∀ (w : World) (ts : Array TypeId) (t : TypeId) (k k' : IntKind), (Builtin.max_ ts t #[.int k z, .int k' 0]).run Tryz.prog w = .ok (.int k (n : Int)) w := fun w ts t k k' => by
    rw [run_max_int2]; congr 2; split <;> omega
  clear hz
  have en : (n : Int) / 32 = (l : Int) := by omega
  have em : (n : Int) % 32 = (s : Int) := by omega
  clear hn
  by_cases hll : L a ≤ l
  · have h0 := right_zero a l s hll
    have H0 := Lib.hid h0
    clear h0
    go_enter Tryz.func158, Tryz.ntmps158
    go_wp2_with fail
    refine hdet.mono ?_
    rintro e w' ⟨rfl, rfl⟩
    go_wp2_with fail
    go_ret
    exact ⟨none, 0, rfl, by rw [H0.out]; exact Own.zero _ _ _ _ (by omega), Below.refl _ _⟩
  · have hN2 := hN.cut (k := l) (cap := L a) (by omega) (Nat.le_refl _)
    rw [canon_drop, if_neg (by omega)] at hN2
    have f1 : (L a = l) = False := by simp; omega
    have hlen := hN2.len
    have HLN := Lib.hid hlen
    clear hlen
    go_enter Tryz.func158, Tryz.ntmps158
    go_wp2_with fail
    refine hdet.mono ?_
    rintro e w' ⟨rfl, rfl⟩
    go_wp2_with (first
      | (at_make; refine wpList_make_u32 _ rfl _ _ rfl _ (L a - l) rfl rfl (by omega) (by omega) ?_; intro w1 hr1 hb1 hs1)
      | (with_reducible refine wpList_copy_u32 rfl _ _ rfl w.heap.size 0 _ _ _ _ (L a - l) (L a - l) rfl (fun _ => rfl) rfl _ (Limb.canon (a / 4294967296 ^ l)) hr1 (hN2.below hb1) (Nat.le_refl _) (by simp) ?_; intro w2 hr2 ho2))
    have hput : put (List.replicate (L a - l) 0) 0 (Limb.canon (a / 4294967296 ^ l)) = Limb.canon (a / 4294967296 ^ l) := by
      unfold put
      rw [← HLN.out]; simp
    rw [hput] at hr2
    have hb2 : Below w.heap.size w w2 := hb1.trans (ho2.below (Nat.le_of_lt hs1) (Nat.le_refl _))
    have hok := Limb.ok_canon (a / 4294967296 ^ l)
    have HST := hide (RtRel.start (s := s) HLN.out hok hr2 hb2 (Nat.le_refl _))
    have HV : Hid (Limb.val (Limb.canon (a / 4294967296 ^ l)) / 2 ^ s = a / 2 ^ (32 * l + s)) := by show _ = _; rw [Limb.val_canon, right_div]
    generalize Limb.canon (a / 4294967296 ^ l) = old at *
    clear hput hr1 hr2 ho2 hb1 hb2 hs1 hx hN hN2 hdet
    go_loopw [9, 36] (fun _ i wr => ∃ k : Nat, k + 1 ≤ L a - l ∧ i = .int .i64 (k : Int) ∧ Hid (RtRel w.heap.size (L a - l) s old w k wr)) (fun _ i _ => L a - l - (intOf i).toNat)
    case atStart => exact ⟨0, by omega, rfl, HST⟩
    case round =>
      clear HST
      obtain ⟨k, hk1, rfl, R⟩ := hrel
      by_cases hkl : k + 1 < L a - l
      · obtain ⟨hcx, hfx⟩ := R.out.at_ (t := k) (Nat.le_refl _) (by omega)
        obtain ⟨hcy, _⟩ := R.out.at_ (t := k + 1) (by omega) (by omega)
        have hw1 : IntKind.i64.wrap (32 - (s : Int)) = 32 - (s : Int) := IntWalk.i64_in _ (by omega)
        have hw3 : IntKind.i64.wrap ((k : Int) + 1) = (k : Int) + 1 := IntWalk.i64_in _ (by omega)
        go_wp2_with fail
        go_region
        rw [hi_int' s _ (Nat.le_of_lt hs), lo_int', hi_or_lo (32 - s) (limb old (k + 1)) (limb old k) (by omega) (hok.getD k)]
        have hstep := R.out.step hkl (Nat.le_of_lt hs) hok
        have HSTEP := hide hstep.drew
        clear R hcy hcx hfx hw1 hw3 hstep
        go_wp2_with fail
        go_roundw
        case rel => exact ⟨k + 1, by omega, by go_num, by simpa only [Int.natCast_add] using HSTEP⟩
        case measure => simp [intOf] <;> omega
      · obtain rfl : k = L a - l - 1 := by omega
        clear hkl
        obtain ⟨hcx, hfx⟩ := R.out.at_ (t := L a - l - 1) (Nat.le_refl _) (by omega)
        have hdone := R.out.done (by omega) (Nat.le_of_lt hs) hok HLN.out
        have hb : Below w.heap.size w wr := by obtain ⟨_, _, _, _, hb, _⟩ := R.out; exact hb
        obtain ⟨zs, z1, z2, z3, z4⟩ := hdone
        have Z1 := Lib.hid z1
        have Z4 := Lib.hid z4
        clear z1 z4
        go_wp2_with fail
        rw [hi_int' s _ (Nat.le_of_lt hs)]
        refine (trimmed_row w.heap.size (L a - l) _ (a / 2 ^ (32 * l + s)) w.heap.size zs _ z3 z2 (by rw [Z1.out]; exact Nat.le_refl _) (by omega) (by omega) (Nat.le_refl _) (by rw [List.take_of_length_le (by rw [Z1.out]; exact Nat.le_refl _), Z4.out]; exact HV.out)).mono ?_
        rintro e w4 ⟨A', j, rfl, how, rfl⟩
        go_wp2_with fail
        go_ret
        exact ⟨A', j, rfl, how, hb.setCell (Nat.le_refl _) _⟩
theorem right_any (A : Option Addr) (m c n l s : Nat) (xs : List Nat) (w : World) (hx : Nums w A m xs) (hc : m ≤ c) (hc9 : c ≤ 9223372036854775807) (hm : m ≤ 1099511627776) (hn : n = 32 * l + s) (hs : s < 32) (hn63 : n ≤ 9223372036854775807) :
    Calls Tryz.prog 158 #[.slice A m c, .int .i64 (n : Int)] w (CutPost (Limb.val xs / 2 ^ (32 * l + s)) w) :=
  right_int A m c n l s (n : Int) xs w hx hc hc9 hm hn hs hn63 (by omega)
/-- Right at any int; a negative one counts as 0. -/
theorem right_z (A : Option Addr) (m c : Nat) (z : Int) (xs : List Nat) (w : World) (hx : Nums w A m xs) (hc : m ≤ c) (hc9 : c ≤ 9223372036854775807) (hm : m ≤ 1099511627776) (hz : z ≤ 9223372036854775807) :
    Calls Tryz.prog 158 #[.slice A m c, .int .i64 z] w (CutPost (Limb.val xs / 2 ^ z.toNat) w) := by
  have h := right_int A m c z.toNat (z.toNat / 32) (z.toNat % 32) z xs w hx hc hc9 hm (by omega) (by omega) (by omega) (by omega)
  have e : 32 * (z.toNat / 32) + z.toNat % 32 = z.toNat := by omega
  rw [e] at h
  exact h
end Go.Proofs.YtakcgkohnomgjaaGreatDoor
/- math/bits: Len32, LeadingZeros32: the library's own contracts, laid at this program. -/
namespace Go.Proofs.YtakcgkohnomgjaaGreatDoor
open Go.Shelf
def Tryz.lays128_ren : Go.Shelf.Ren := ⟨fun | 128 => 118 | n => n, fun | 51 => 86 | 3 => 3 | 4 => 4 | 46 => 132 | 5 => 5 | 9 => 9 | n => n, fun | n => n⟩
theorem Tryz.lays128 : Go.Proofs.Lays.n128 Tryz.prog Tryz.lays128_ren := {
  mixed := by kernel_rfl
  f128 := Tryz.func118.trans (congrArg some (by kernel_rfl))
  t3 := Tryz.underlying3
  a3 := Tryz.isAgg3
  z3 := Tryz.sizeOf3
  v3 := Tryz.zeroValue3
  t4 := Tryz.underlying4
  a4 := Tryz.isAgg4
  z4 := Tryz.sizeOf4
  v4 := Tryz.zeroValue4
  t5 := Tryz.underlying5
  a5 := Tryz.isAgg5
  z5 := Tryz.sizeOf5
  v5 := Tryz.zeroValue5
  t9 := Tryz.underlying9
  a9 := Tryz.isAgg9
  z9 := Tryz.sizeOf9
  v9 := Tryz.zeroValue9
  t46 := Tryz.underlying132
  a46 := Tryz.isAgg132
  z46 := Tryz.sizeOf132
  v46 := Tryz.zeroValue132
  t51 := Tryz.underlying86
  a51 := Tryz.isAgg86
  z51 := Tryz.sizeOf86
  v51 := Tryz.zeroValue86 }
theorem Tryz.bits_Len32 (x : Int) (w : World) (h0 : 0 ≤ x) (h1 : x ≤ 4294967295) :
    Calls Tryz.prog 118 #[.int .u32 x] w fun e w' => e = .returned (.int .i64 (Lib.bitLen x.toNat)) ∧ w' = w := Any.bits_Len32 Tryz.lays128 x w h0 h1
def Tryz.lays133_ren : Go.Shelf.Ren := ⟨fun | 133 => 155 | 128 => 118 | n => n, fun | 51 => 86 | 3 => 3 | 4 => 4 | 46 => 132 | 5 => 5 | 9 => 9 | n => n, fun | n => n⟩
theorem Tryz.lays133 : Go.Proofs.Lays.n133 Tryz.prog Tryz.lays133_ren := {
  mixed := by kernel_rfl
  f128 := Tryz.func118.trans (congrArg some (by kernel_rfl))
  f133 := Tryz.func155.trans (congrArg some (by kernel_rfl))
  t3 := Tryz.underlying3
  a3 := Tryz.isAgg3
  z3 := Tryz.sizeOf3
  v3 := Tryz.zeroValue3
  t4 := Tryz.underlying4
  a4 := Tryz.isAgg4
  z4 := Tryz.sizeOf4
  v4 := Tryz.zeroValue4
  t5 := Tryz.underlying5
  a5 := Tryz.isAgg5
  z5 := Tryz.sizeOf5
  v5 := Tryz.zeroValue5
  t9 := Tryz.underlying9
  a9 := Tryz.isAgg9
  z9 := Tryz.sizeOf9
  v9 := Tryz.zeroValue9
  t46 := Tryz.underlying132
  a46 := Tryz.isAgg132
  z46 := Tryz.sizeOf132
  v46 := Tryz.zeroValue132
  t51 := Tryz.underlying86
  a51 := Tryz.isAgg86
  z51 := Tryz.sizeOf86
  v51 := Tryz.zeroValue86 }
theorem Tryz.bits_LeadingZeros32 (x : Int) (w : World) (h0 : 0 ≤ x) (h1 : x ≤ 4294967295) :
    Calls Tryz.prog 155 #[.int .u32 x] w fun e w' => e = .returned (.int .i64 (32 - (Lib.bitLen x.toNat : Int))) ∧ w' = w := Any.bits_LeadingZeros32 Tryz.lays133 x w h0 h1
end Go.Proofs.YtakcgkohnomgjaaGreatDoor
