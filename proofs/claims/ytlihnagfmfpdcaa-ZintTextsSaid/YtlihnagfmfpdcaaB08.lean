/- Texts of one seat, put together: Mul Word Guess. -/
import Derived.Test.YtlihnagfmfpdcaaB05
import Derived.Test.YtlihnagfmfpdcaaB07
/- nat.lowest, nat.addProduct, nat.productByLimbs. -/
namespace Go.Proofs.Ytlihnagfmfpdcaa
open Go.RowKit
open Limb (limb limb_lt upto upto_succ upto_all upto_zero)

theorem val_put (zs : List Nat) (o : Nat) (ws : List Nat) (h : o + ws.length ≤ zs.length) :
    Limb.val (put zs o ws) + 4294967296 ^ o * Limb.val (win zs o ws.length) = Limb.val zs + 4294967296 ^ o * Limb.val ws := by
  have hl : (zs.take o).length = o := by rw [List.length_take]; omega
  have e1 : Limb.val (put zs o ws) = Limb.val (zs.take o) + 4294967296 ^ o * (Limb.val ws + 4294967296 ^ ws.length * Limb.val (zs.drop (o + ws.length))) := by
    unfold put
    rw [Limb.val_append, hl, Limb.val_append]
  have e2 : Limb.val zs = Limb.val (zs.take o) + 4294967296 ^ o * (Limb.val (win zs o ws.length) + 4294967296 ^ ws.length * Limb.val (zs.drop (o + ws.length))) := by
    rw [Limb.val_take_drop zs o (by omega), Limb.val_take_drop (zs.drop o) ws.length (by rw [List.length_drop]; omega), List.drop_drop]
    rfl
  rw [e1, e2, Nat.mul_add, Nat.mul_add]
  omega

set_option maxHeartbeats 400000 in
theorem lowest_any (A : Option Addr) (n c k : Nat) (xs : List Nat) (w : World) (hx : Nums w A n xs) (hk : k ≤ n) (hc : n ≤ c) (hm : c ≤ 9223372036854775807) :
    Calls Try.prog 103 #[.slice A n c, .int .i64 (k : Int)] w (TrimDetPost A (Limb.val (xs.take k)) w) := by
  go_enter Try.func103, Try.ntmps103
  go_wp2_with fail
  refine (trimmed_det A k k (xs.take k) w (hx.take hk) (Nat.le_refl _) (by omega)).mono ?_
  rintro e w' ⟨rfl, rfl⟩
  go_wp2_with fail
  go_ret
  exact ⟨rfl, rfl⟩

/-! ### addProduct -/
def APRel (g o m f : Nat) (zs xs : List Nat) (w : World) (k c : Nat) (wr : World) : Prop :=
  ∃ cur : List Nat, cur.length = m ∧ Limb.Ok cur ∧ Row wr g (put zs o cur) ∧ Only g w wr ∧ Limb.val cur + 4294967296 ^ k * c = Limb.val (win zs o m) + upto xs k * f
theorem APRel.start (g o m f : Nat) (zs xs : List Nat) (w : World) (hz : Limb.Ok zs) (hr : Row w g zs) (hn : o + m ≤ zs.length) : APRel g o m f zs xs w 0 0 w :=
  ⟨win zs o m, win_length zs o m hn, win_ok hz o m, by unfold win; rw [put_self zs o m hn]; exact hr, Only.refl g w, by simp [upto_zero]⟩
theorem APRel.only {g o m f : Nat} {zs xs : List Nat} {w : World} {k c : Nat} {wr : World} (h : APRel g o m f zs xs w k c wr) : Only g w wr := by
  obtain ⟨_, _, _, _, hon, _⟩ := h; exact hon
theorem APRel.at_ {g o m f : Nat} {zs xs : List Nat} {w : World} {k c : Nat} {wr : World} (h : APRel g o m f zs xs w k c wr) (hn : o + m ≤ zs.length) (hk : k < m) :
    ∃ z : Nat, z < 4294967296 ∧ wr.cell? ⟨g, o + k, none⟩ = some (.int .u32 (z : Int)) ∧ wr.frozen? ⟨g, o + k, none⟩ = false ∧
      ∀ s c' : Nat, s < 4294967296 → s + 4294967296 * c' = z + limb xs k * f + c → APRel g o m f zs xs w (k + 1) c' (wr.setCell ⟨g, o + k, none⟩ (.int .u32 (s : Int))) := by
  obtain ⟨cur, hl, ho, hr, hon, hv⟩ := h
  have hfit : o + cur.length ≤ zs.length := by omega
  refine ⟨cur.getD k 0, ho.getD k, ?_, hr.frozen _, fun s c' hs he => ?_⟩
  · rw [hr.cell (i := o + k) (by rw [put_length _ _ _ hfit]; omega), put_getD zs o cur hfit k (by omega)]
  · refine ⟨cur.set k s, by simp [hl], ho.set k s hs, ?_, hon.setCell _ _, ?_⟩
    · rw [← put_set zs o cur hfit k s (by omega)]
      exact hr.set_ _ _
    · rw [Limb.step_set cur k s (limb xs k * f) c c' (by omega) _ hv he, upto_succ, Nat.add_mul, Nat.mul_assoc, Nat.add_assoc]

def APPost (g o m f : Nat) (zs xs : List Nat) (w : World) (e : Ending) (w' : World) : Prop :=
  ∃ (cur : List Nat) (cy : Nat), e = .returned (.int .u32 (cy : Int)) ∧ cy < 4294967296 ∧ cur.length = m ∧ Limb.Ok cur ∧ Row w' g (put zs o cur) ∧ Only g w w' ∧ Hid (Limb.val cur + 4294967296 ^ m * cy = Limb.val (win zs o m) + Limb.val xs * f)

set_option maxHeartbeats 1000000 in
theorem addProduct_any (g o m c f : Nat) (zs : List Nat) (A : Option Addr) (d : Nat) (xs : List Nat) (w : World) (hr : Row w g zs) (hz : Limb.Ok zs) (hn : o + m ≤ zs.length) (hc : m ≤ 4611686018427387904) (hcc : m ≤ c)
    (hx : Nums w A m xs) (hap : 0 < m → Apart A g) (hf : f < 4294967296) :
    Calls Try.prog 102 #[.slice (some ⟨g, o, none⟩) m c, .slice A m d, .int .u32 (f : Int)] w (APPost g o m f zs xs w) := by
  have R := hide (APRel.start g o m f zs xs w hz hr hn)
  clear hr hz
  go_enter Try.func102, Try.ntmps102
  go_wp2_with fail
  go_loopw [7, 12] (fun c i wr => ∃ k z : Nat, k ≤ m ∧ z < 4294967296 ∧ i = .int .i64 (k : Int) ∧ c = .int .u64 (z : Int) ∧ Hid (APRel g o m f zs xs w k z wr)) (fun _ i _ => m - (intOf i).toNat)
  case atStart => exact ⟨0, 0, Nat.zero_le _, by omega, rfl, rfl, R.out⟩
  case round =>
    clear R
    obtain ⟨k, z, hk, hz1, rfl, rfl, R⟩ := hrel
    by_cases hkm : k < m
    · have hxr := hx.grown R.out.only (hap (by omega))
      obtain ⟨b1, o1, y, rfl, hyb, hye, hyc⟩ := hxr.at_ hkm
      obtain ⟨zz, hzz, hcell, hfroz, hstep⟩ := R.out.at_ hn hkm
      have hpn := prod_le _ _ hyb hf
      obtain ⟨hp1, hp2, hp3⟩ := prod_int _ _ hyb hf
      have HP := Lib.hid hp3
      have HY := Lib.hid hye
      have HS := hide hstep
      clear hye hstep hp3 hxr
      go_wp2_with fail
      have es : ((z : Int) + ((y : Int) * (f : Int) + (zz : Int))) % 4294967296 = (((z + (y * f + zz)) % 4294967296 : Nat) : Int) := by have := HP.out; omega
      have ec : ((z : Int) + ((y : Int) * (f : Int) + (zz : Int))) / 4294967296 = (((z + (y * f + zz)) / 4294967296 : Nat) : Int) := by have := HP.out; omega
      rw [es, ec]
      clear es ec
      go_roundw
      case rel => exact ⟨k + 1, _, by omega, by omega, by go_num, rfl, HS.out _ _ (by omega) (by have e := HY.out; unfold limb; rw [← e]; omega)⟩
      case measure => simp [intOf]; omega
    · obtain rfl : k = m := by omega
      clear hkm
      go_wp2_with fail
      go_ret
      obtain ⟨cur, hl, ho, hr, hon, hv⟩ := R.out
      exact ⟨cur, z, rfl, hz1, hl, ho, hr, hon, by show _ = _; rw [hv, upto_all xs k (by rw [hx.len]; omega)]⟩

/-! ### productByLimbs -/
theorem mul_lt_pow (a b n m : Nat) (ha : a < 4294967296 ^ n) (hb : b < 4294967296 ^ m) : a * b < 4294967296 ^ (n + m) := by
  rw [Nat.pow_add]
  exact Nat.mul_lt_mul'' ha hb
theorem upto_lt (ys : List Nat) (h : Limb.Ok ys) (k : Nat) : upto ys k < 4294967296 ^ k := by
  unfold upto
  have h1 := Limb.val_lt (ys.take k) (h.take k)
  exact Nat.lt_of_lt_of_le h1 (Limb.pow_mono (by rw [List.length_take]; omega))
theorem pb_alg (V P Q W C2 c cy ay T new old : Nat) (h1 : new + Q * old = P + Q * cy) (h0 : old = 0) (h2 : P + c * W = V + c * C2) (h3 : C2 + T * cy = W + ay) (h4 : Q = c * T) : new = V + c * ay := by
  subst h0
  subst h4
  have e : c * (C2 + T * cy) = c * (W + ay) := by rw [h3]
  rw [Nat.mul_add, Nat.mul_add, ← Nat.mul_assoc] at e
  rw [Nat.mul_zero] at h1
  omega
def PBRel (g n m : Nat) (xs ys : List Nat) (w : World) (k : Nat) (wr : World) : Prop :=
  ∃ cur : List Nat, cur.length = n + m ∧ Limb.Ok cur ∧ Row wr g cur ∧ Below w.heap.size w wr ∧ Limb.val cur = Limb.val xs * upto ys k
theorem pb_step (cur cur2 xs ys : List Nat) (n m k cy : Nat) (hl : cur.length = n + m) (hx : Limb.val xs < 4294967296 ^ n) (hy : Limb.Ok ys) (hk : k < m) (hv : Limb.val cur = Limb.val xs * upto ys k) (hl2 : cur2.length = n)
    (h : Limb.val cur2 + 4294967296 ^ n * cy = Limb.val (win cur k n) + Limb.val xs * limb ys k) : Limb.val ((put cur k cur2).set (k + n) cy) = Limb.val xs * upto ys (k + 1) := by
  have hfit : k + cur2.length ≤ cur.length := by omega
  have e1 := val_put cur k cur2 hfit
  rw [hl2] at e1
  have hlt : Limb.val cur < 4294967296 ^ (k + n) := by
    rw [hv, Nat.add_comm k n]; exact mul_lt_pow _ _ _ _ hx (upto_lt ys hy k)
  have e2 := Limb.val_set (put cur k cur2) (k + n) cy (by rw [put_length _ _ _ hfit]; omega)
  have e3 : (put cur k cur2).getD (k + n) 0 = 0 := by
    have h0 := Limb.limb_zero_of_lt cur (k + n) hlt
    unfold limb at h0
    unfold put
    have hl3 : (cur.take k).length = k := by rw [List.length_take]; omega
    rw [List.getD_eq_getElem?_getD, List.getElem?_append_right (by omega), hl3, List.getElem?_append_right (by omega), List.getElem?_drop, ← List.getD_eq_getElem?_getD, ← h0]
    congr 1
    omega
  have := pb_alg _ _ _ _ _ _ _ _ _ _ _ e2 e3 e1 h (Nat.pow_add 4294967296 k n)
  rw [this, hv, upto_succ, Nat.mul_add, Nat.mul_left_comm]

theorem Nums.lt {w : World} {A : Option Addr} {n : Nat} {xs : List Nat} (h : Nums w A n xs) : Limb.val xs < 4294967296 ^ n := by
  have := Limb.val_lt xs h.ok; rwa [h.len] at this

set_option maxHeartbeats 1000000 in
theorem productByLimbs_any (A B : Option Addr) (n c m d : Nat) (xs ys : List Nat) (w : World) (hx : Nums w A n xs) (hcn : n ≤ c) (hc9 : c ≤ 9223372036854775807) (hn40 : n ≤ 1099511627776) (hy : Nums w B m ys) (hdm : m ≤ d) (hd9 : d ≤ 9223372036854775807) (hmn : m ≤ n) :
    Calls Try.prog 88 #[.slice A n c, .slice B m d] w (CutPost (Limb.val xs * Limb.val ys) w) := by
  go_enter Try.func88, Try.ntmps88
  go_wp2_with (at_make; refine wpList_make_u32 _ rfl _ _ rfl _ (n + m) rfl rfl (by omega) (by omega) ?_; intro w1 hr1 hb1 hs1)
  have R : Hid (PBRel w.heap.size n m xs ys w 0 w1) := ⟨List.replicate (n + m) 0, by simp, Limb.Ok.replicate _, hr1, hb1, by rw [Limb.val_replicate, upto_zero, Nat.mul_zero]⟩
  clear hr1
  go_loopw [16] (fun i wr => ∃ k : Nat, k ≤ m ∧ i = .int .i64 (k : Int) ∧ w.heap.size < wr.heap.size ∧ Hid (PBRel w.heap.size n m xs ys w k wr)) (fun i _ => m - (intOf i).toNat)
  case atStart => exact ⟨0, Nat.zero_le _, rfl, hs1, R.out⟩
  case round =>
    clear R hb1 hs1
    obtain ⟨k, hk, rfl, hsz, R⟩ := hrel
    obtain ⟨cur, hl, ho, hr, hb, hv⟩ := R.out
    have HL := Lib.hid hl
    have HV := Lib.hid hv
    clear hv R
    by_cases hkm : k < m
    · obtain ⟨b1, o1, y, rfl, hyb, hye, hyc⟩ := (hy.below hb).at_ hkm
      have HY := Lib.hid hye
      clear hye hl
      go_wp2_with fail
      refine (addProduct_any w.heap.size k n _ y cur A c xs wr hr ho (by rw [HL.out]; omega) (by omega) (by omega) (hx.below hb) (fun h => hx.apart h (Nat.le_refl _)) hyb).mono ?_
      rintro e w2 ⟨cur2, cy, rfl, hcy, hl2, ho2, hr2, hon2, HE⟩
      have HL2 := Lib.hid hl2
      clear hl2
      have hfit : k + cur2.length ≤ cur.length := by rw [HL.out, HL2.out]; omega
      have hc2 := hr2.cell (i := k + n) (by rw [put_length _ _ _ hfit, HL.out]; omega)
      have hf2 := hr2.frozen (k + n)
      go_wp2_with fail
      go_roundw
      case rel =>
        refine ⟨k + 1, by omega, by go_num, by have := hon2.size; simp [World.setCell]; omega, _, ?_, (put_ok ho k ho2).set (k + n) cy hcy, hr2.set_ _ _, (hb.trans (hon2.below (by omega) (Nat.le_refl _))).setCell (Nat.le_refl _) _, ?_⟩
        · rw [List.length_set, put_length _ _ _ hfit]; exact HL.out
        · exact pb_step cur cur2 xs ys n m k cy HL.out hx.lt hy.ok hkm HV.out HL2.out (by have e := HY.out; unfold limb; rw [← e]; exact HE.out)
      case measure => simp [intOf]; omega
    · obtain rfl : k = m := by omega
      clear hkm
      go_wp2_with fail
      refine (trimmed_row w.heap.size (n + k) _ (Limb.val xs * Limb.val ys) w.heap.size cur wr hr ho (by rw [hl]; omega) (by omega) (by omega) (Nat.le_refl _) (by rw [List.take_of_length_le (by omega), HV.out, upto_all ys k (by rw [hy.len]; omega)])).mono ?_
      rintro e w4 ⟨A', j, rfl, how, rfl⟩
      go_wp2_with fail
      go_ret
      exact ⟨A', j, rfl, how, hb⟩
end Go.Proofs.Ytlihnagfmfpdcaa
/- nat.word, nat.divideBy, bits.Len32, LeadingZeros32, nat.guessTimes, nat.subProduct. -/
namespace Go.Proofs.Ytlihnagfmfpdcaa
open Go.RowKit
open Limb (limb limb_lt upto upto_succ upto_all upto_zero)

theorem join64 (a b : Nat) (ha : a < 4294967296) (hb : b < 4294967296) : bits BinOp.or IntKind.u64 ((a : Int)) ((b : Int) * 4294967296) = (a : Int) + (b : Int) * 4294967296 := by
  have h1 : (b : Int) * 4294967296 = ((b * 4294967296 : Nat) : Int) := by omega
  rw [h1, u64_or_nat a (b * 4294967296) (by omega) (by omega), Nat.or_comm, nat_join 32 (b * 4294967296) a (by show b * 4294967296 % 4294967296 = 0; omega) (by show a < 4294967296; exact ha)]
  omega

theorem join64' (a b : Nat) (ha : a < 4294967296) (hb : b < 4294967296) : bits BinOp.or IntKind.u64 ((b : Int) * 4294967296) ((a : Int)) = (b : Int) * 4294967296 + (a : Int) := by
  have h1 : (b : Int) * 4294967296 = ((b * 4294967296 : Nat) : Int) := by omega
  rw [h1, u64_or_nat (b * 4294967296) a (by omega) (by omega), nat_join 32 (b * 4294967296) a (by show b * 4294967296 % 4294967296 = 0; omega) (by show a < 4294967296; exact ha)]
  omega
theorem or64_zero (a : Nat) (ha : a < 4294967296) : bits BinOp.or IntKind.u64 0 (a : Int) = (a : Int) := by
  have h := u64_or_nat 0 a (by omega) (by omega)
  rw [Nat.zero_or] at h
  exact h
set_option maxHeartbeats 1000000 in
theorem word_any (A : Option Addr) (n c : Nat) (xs : List Nat) (w : World) (hx : Nums w A n xs) (hn : n ≤ 2) :
    Calls Try.prog 87 #[.slice A n c] w (U64Post (Limb.val xs : Nat) w) := by
  go_enter Try.func87, Try.ntmps87
  go_wp2_with fail
  go_loop [3, 8] (fun v i => ∃ k z : Nat, k ≤ n ∧ i = .int .i64 (k : Int) ∧ v = .int .u64 (z : Int) ∧ Hid (z = upto xs k)) (fun _ i => n - (intOf i).toNat)
  case atStart => exact ⟨0, 0, Nat.zero_le _, rfl, rfl, by show _ = _; rw [upto_zero]⟩
  case round =>
    obtain ⟨k, z, hk, rfl, rfl, HZ⟩ := hrel
    by_cases hkn : k < n
    · obtain ⟨b, o, x, rfl, hxl, hxe, hc⟩ := hx.at_ hkn
      have HX := Lib.hid hxe
      clear hxe
      obtain rfl | rfl : k = 0 ∨ k = 1 := by omega
      · have hz0 : z = 0 := by rw [HZ.out, upto_zero]
        subst hz0
        rw [Nat.add_zero] at hc
        go_wp2_with fail
        rw [or64_zero x hxl]
        go_round
        case rel => exact ⟨1, x, by omega, rfl, rfl, by show _ = _; rw [upto_succ, upto_zero]; unfold limb; rw [← HX.out]; omega⟩
        case measure => simp [intOf]; omega
      · have hzl : z < 4294967296 := by rw [HZ.out]; exact upto_lt xs hx.ok 1
        go_wp2_with fail
        rw [join64 z x hzl hxl]
        go_round
        case rel => exact ⟨2, z + x * 4294967296, by omega, rfl, by go_num, by show _ = _; rw [upto_succ, ← HZ.out]; unfold limb; rw [← HX.out]; omega⟩
        case measure => simp [intOf]; omega
    · go_wp2_with fail
      go_ret
      have hkn2 : k = n := by omega
      exact ⟨by rw [HZ.out, upto_all xs k (by rw [hx.len]; omega)]; rfl, rfl⟩
end Go.Proofs.Ytlihnagfmfpdcaa
/- nat.guessTimes. -/
namespace Go.Proofs.Ytlihnagfmfpdcaa
open Go.RowKit
open Limb (limb limb_lt upto upto_succ upto_all upto_zero)

/-- The best guess below 2^32 for three limbs by two. -/
def IsGuess (r0 r1 r2 b0 b1 q : Nat) : Prop := q < 4294967296 ∧ q * (b1 * 4294967296 + b0) ≤ (r2 * 4294967296 + r1) * 4294967296 + r0 ∧
  ∀ p, p < 4294967296 → p * (b1 * 4294967296 + b0) ≤ (r2 * 4294967296 + r1) * 4294967296 + r0 → p ≤ q
/-- What holds of a guess and its rest. -/
def Guessing (r0 r1 r2 b0 b1 q t : Nat) : Prop := q * b1 + t = r2 * 4294967296 + r1 ∧ ∀ p, p < 4294967296 → p * (b1 * 4294967296 + b0) ≤ (r2 * 4294967296 + r1) * 4294967296 + r0 → p ≤ q

theorem two_limbs (q b0 b1 : Nat) : q * (b1 * 4294967296 + b0) = q * b1 * 4294967296 + q * b0 := by rw [Nat.mul_add, Nat.mul_assoc]
theorem guess_start (r0 r1 r2 b0 b1 : Nat) (h0 : r0 < 4294967296) (hb : 0 < b1) : Guessing r0 r1 r2 b0 b1 ((r2 * 4294967296 + r1) / b1) ((r2 * 4294967296 + r1) % b1) := by
  refine ⟨by rw [Nat.mul_comm]; exact Nat.div_add_mod _ _, fun p _ hp => ?_⟩
  rw [two_limbs] at hp
  rw [Nat.le_div_iff_mul_le hb]
  generalize p * b1 = u at *
  omega
theorem guess_first (r1 r2 b1 : Nat) (h1 : r1 < 4294967296) (h2 : r2 ≤ b1) (hb : 2147483648 ≤ b1) : (r2 * 4294967296 + r1) / b1 ≤ 4294967297 := by
  have h : (r2 * 4294967296 + r1) / b1 < 4294967298 := by
    rw [Nat.div_lt_iff_lt_mul (by omega)]
    omega
  omega
theorem guess_done (r0 r1 r2 b0 b1 q t : Nat) (h : Guessing r0 r1 r2 b0 b1 q t) (hq : q < 4294967296) (hle : q * b0 ≤ t * 4294967296 + r0) : IsGuess r0 r1 r2 b0 b1 q := by
  refine ⟨hq, ?_, h.2⟩
  rw [two_limbs, ← h.1, Nat.add_mul]
  omega
theorem guess_big (r0 r1 r2 b0 b1 q t : Nat) (h : Guessing r0 r1 r2 b0 b1 q t) (hq : 4294967296 ≤ q) : Guessing r0 r1 r2 b0 b1 (q - 1) (t + b1) := by
  obtain ⟨h1, h2⟩ := h
  obtain ⟨j, rfl⟩ : ∃ j, q = j + 1 := ⟨q - 1, by omega⟩
  refine ⟨?_, fun p hp hle => by omega⟩
  rw [Nat.add_sub_cancel, ← h1, Nat.succ_mul]
  omega
theorem guess_more (r0 r1 r2 b0 b1 q t : Nat) (h : Guessing r0 r1 r2 b0 b1 q t) (hgt : t * 4294967296 + r0 < q * b0) : 1 ≤ q ∧ Guessing r0 r1 r2 b0 b1 (q - 1) (t + b1) := by
  obtain ⟨h1, h2⟩ := h
  have hq : 1 ≤ q := by
    rcases Nat.eq_zero_or_pos q with h0 | h0
    · subst h0; rw [Nat.zero_mul] at hgt; omega
    · exact h0
  obtain ⟨j, rfl⟩ : ∃ j, q = j + 1 := ⟨q - 1, by omega⟩
  refine ⟨hq, ?_, fun p hp hle => ?_⟩
  · rw [Nat.add_sub_cancel, ← h1, Nat.succ_mul]
    omega
  · have h3 := h2 p hp hle
    rcases Nat.lt_or_ge p (j + 1) with h4 | h4
    · omega
    · have h5 : p = j + 1 := by omega
      subst h5
      exfalso
      rw [two_limbs, ← h1, Nat.add_mul ((j + 1) * b1)] at hle
      omega
theorem guess_break (r0 r1 r2 b0 b1 q t : Nat) (h : Guessing r0 r1 r2 b0 b1 q t) (hq : q < 4294967296) (h0 : b0 < 4294967296) (ht : 4294967296 ≤ t) : IsGuess r0 r1 r2 b0 b1 q := by
  refine guess_done r0 r1 r2 b0 b1 q t h hq ?_
  have := prod_le q b0 hq h0
  omega
theorem guess_nobreak (r0 r1 r2 b0 b1 q t : Nat) (h : Guessing r0 r1 r2 b0 b1 q t) (h1 : r1 < 4294967296) (h2 : r2 ≤ b1) (hq : 4294967296 ≤ q) : t < 4294967296 := by
  have e := h.1
  have h3 := Nat.mul_le_mul_right b1 hq
  have h4 : 4294967296 * b1 = b1 * 4294967296 := Nat.mul_comm _ _
  omega

def GuessPost (r0 r1 r2 b0 b1 : Nat) (w : World) (e : Ending) (w' : World) : Prop := ∃ q : Nat, e = .returned (.int .u64 (q : Int)) ∧ q < 4294967296 ∧ Hid (IsGuess r0 r1 r2 b0 b1 q) ∧ ∃ k, w' = w.drewN k

set_option maxHeartbeats 4000000 in
theorem guessTimes_any (g o c g2 o2 c2 r0 r1 r2 b0 b1 : Nat) (w : World) (hr0 : w.cell? ⟨g, o, none⟩ = some (.int .u32 (r0 : Int))) (hr1 : w.cell? ⟨g, o + 1, none⟩ = some (.int .u32 (r1 : Int))) (hr2 : w.cell? ⟨g, o + 2, none⟩ = some (.int .u32 (r2 : Int)))
    (hb0 : w.cell? ⟨g2, o2, none⟩ = some (.int .u32 (b0 : Int))) (hb1 : w.cell? ⟨g2, o2 + 1, none⟩ = some (.int .u32 (b1 : Int))) (l0 : r0 < 4294967296) (l1 : r1 < 4294967296) (l2 : r2 < 4294967296) (k0 : b0 < 4294967296) (k1 : b1 < 4294967296) (hn : 2147483648 ≤ b1) (hle : r2 ≤ b1) :
    Calls Try.prog 116 #[.slice (some ⟨g, o, none⟩) 3 c, .slice (some ⟨g2, o2, none⟩) 2 c2] w (GuessPost r0 r1 r2 b0 b1 w) := by
  have hj := join64' r1 r2 l1 l2
  have HS := hide (guess_start r0 r1 r2 b0 b1 l0 (by omega))
  have HF := hide (guess_first r1 r2 b1 l1 hle hn)
  have hq : ((r2 : Int) * 4294967296 + (r1 : Int)) / (b1 : Int) = (((r2 * 4294967296 + r1) / b1 : Nat) : Int) := by rw [Int.natCast_ediv, Int.natCast_add, Int.natCast_mul]; rfl
  have hm : ((r2 : Int) * 4294967296 + (r1 : Int)) % (b1 : Int) = (((r2 * 4294967296 + r1) % b1 : Nat) : Int) := by rw [Int.natCast_emod, Int.natCast_add, Int.natCast_mul]; rfl
  have HQ := Lib.hid hq
  have HM := Lib.hid hm
  clear hq hm
  go_enter Try.func116, Try.ntmps116
  go_wp2_with fail
  go_quiet (fail)
  go_wp2_with fail
  go_quiet (fail)
  go_wp2_with fail
  go_loopw [6, 7] (fun x y wr => ∃ q t : Nat, q ≤ 4294967297 ∧ t < 4294967296 ∧ x = .int .u64 (q : Int) ∧ y = .int .u64 (t : Int) ∧ Hid (Guessing r0 r1 r2 b0 b1 q t) ∧ ∃ k, wr = w.drewN k) (fun x _ _ => (intOf x).toNat)
  case atStart => exact ⟨_, _, HF.out, Nat.lt_of_lt_of_le (Nat.mod_lt _ (by omega)) (by omega), by rw [HQ.out], by rw [HM.out], HS.out, by first | exact ⟨_, rfl⟩ | (simp only [World.drewN_drewN]; exact ⟨_, rfl⟩)⟩
  case round =>
    clear HS HF HQ HM hj
    obtain ⟨q, t, hq1, ht1, rfl, rfl, HG, k, rfl⟩ := hrel
    have hj2 := join64' r0 t l0 ht1
    by_cases hqb : q < 4294967296
    · have h1 : ((q : Int) / 4294967296 != 0) = false := by simp; omega
      obtain ⟨hp1, hp2, hp3⟩ := prod_int q b0 hqb k0
      have HP := Lib.hid hp3
      clear hp3
      by_cases hgt : t * 4294967296 + r0 < q * b0
      · have h2 : (t : Int) * 4294967296 + (r0 : Int) < (q : Int) * (b0 : Int) := by have := HP.out; omega
        have HM2 := hide (guess_more r0 r1 r2 b0 b1 q t HG.out hgt)
        have hq0 : 1 ≤ q := HM2.out.1
        clear hgt
        by_cases hbk : t + b1 < 4294967296
        · have h3 : (((t : Int) + (b1 : Int)) / 4294967296 != 0) = false := by simp; omega
          go_wp2_with fail
          go_quiet (fail)
          go_wp2_with fail
          go_roundw
          case rel => exact ⟨q - 1, t + b1, by omega, hbk, by go_num, by go_num, HM2.out.2, by first | exact ⟨_, rfl⟩ | (simp only [World.drewN_drewN]; exact ⟨_, rfl⟩)⟩
          case measure => simp [intOf]; omega
        · have h3 : (((t : Int) + (b1 : Int)) / 4294967296 != 0) = true := by simp; omega
          go_wp2_with fail
          go_quiet (fail)
          go_wp2_with fail
          go_ret
          exact ⟨q - 1, by go_num, (by omega), guess_break r0 r1 r2 b0 b1 (q - 1) (t + b1) HM2.out.2 (by omega) k0 (by omega), by first | exact ⟨_, rfl⟩ | (simp only [World.drewN_drewN]; exact ⟨_, rfl⟩)⟩
      · have h2 : ¬ (t : Int) * 4294967296 + (r0 : Int) < (q : Int) * (b0 : Int) := by have := HP.out; omega
        have HD := hide (guess_done r0 r1 r2 b0 b1 q t HG.out hqb (by omega))
        clear hgt
        go_wp2_with fail
        go_quiet (fail)
        go_wp2_with fail
        go_ret
        exact ⟨q, rfl, hqb, HD.out, by first | exact ⟨_, rfl⟩ | (simp only [World.drewN_drewN]; exact ⟨_, rfl⟩)⟩
    · have h1 : ((q : Int) / 4294967296 != 0) = true := by simp; omega
      have HB2 := hide (guess_big r0 r1 r2 b0 b1 q t HG.out (by omega))
      have HNB := hide (fun h : 4294967296 ≤ q - 1 => guess_nobreak r0 r1 r2 b0 b1 (q - 1) (t + b1) HB2.out l1 hle h)
      by_cases hbk : t + b1 < 4294967296
      · have h3 : (((t : Int) + (b1 : Int)) / 4294967296 != 0) = false := by simp; omega
        go_wp2_with fail
        go_quiet (fail)
        go_wp2_with fail
        go_roundw
        case rel => exact ⟨q - 1, t + b1, by omega, hbk, by go_num, by go_num, HB2.out, by first | exact ⟨_, rfl⟩ | (simp only [World.drewN_drewN]; exact ⟨_, rfl⟩)⟩
        case measure => simp [intOf]; omega
      · have h3 : (((t : Int) + (b1 : Int)) / 4294967296 != 0) = true := by simp; omega
        go_wp2_with fail
        go_quiet (fail)
        go_wp2_with fail
        go_ret
        exact ⟨q - 1, by go_num, (by rcases Nat.lt_or_ge (q - 1) 4294967296 with h | h; exact h; exact absurd (HNB.out h) hbk), guess_break r0 r1 r2 b0 b1 (q - 1) (t + b1) HB2.out (by rcases Nat.lt_or_ge (q - 1) 4294967296 with h | h; exact h; exact absurd (HNB.out h) hbk) k0 (by omega), by first | exact ⟨_, rfl⟩ | (simp only [World.drewN_drewN]; exact ⟨_, rfl⟩)⟩
end Go.Proofs.Ytlihnagfmfpdcaa
