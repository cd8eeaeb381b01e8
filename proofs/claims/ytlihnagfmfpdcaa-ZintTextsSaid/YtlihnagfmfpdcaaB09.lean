/- Texts of one seat, put together: DivA. -/
import Derived.Test.YtlihnagfmfpdcaaB08
/- nat.subProduct, nat.divideBy. -/
namespace Go.Proofs.Ytlihnagfmfpdcaa
open Go.RowKit
open Limb (limb limb_lt upto upto_succ upto_all upto_zero)

/-! ### subProduct -/
def SPRel (g o m f : Nat) (zs xs : List Nat) (w : World) (k c : Nat) (wr : World) : Prop :=
  ∃ cur : List Nat, cur.length = m ∧ Limb.Ok cur ∧ Row wr g (put zs o cur) ∧ Only g w wr ∧ Limb.val cur + upto xs k * f = Limb.val (win zs o m) + 4294967296 ^ k * c
theorem SPRel.start (g o m f : Nat) (zs xs : List Nat) (w : World) (hz : Limb.Ok zs) (hr : Row w g zs) (hn : o + m ≤ zs.length) : SPRel g o m f zs xs w 0 0 w :=
  ⟨win zs o m, win_length zs o m hn, win_ok hz o m, by unfold win; rw [put_self zs o m hn]; exact hr, Only.refl g w, by simp [upto_zero]⟩
theorem SPRel.only {g o m f : Nat} {zs xs : List Nat} {w : World} {k c : Nat} {wr : World} (h : SPRel g o m f zs xs w k c wr) : Only g w wr := by
  obtain ⟨_, _, _, _, hon, _⟩ := h; exact hon
theorem SPRel.at_ {g o m f : Nat} {zs xs : List Nat} {w : World} {k c : Nat} {wr : World} (h : SPRel g o m f zs xs w k c wr) (hn : o + m ≤ zs.length) (hk : k < m) :
    ∃ z : Nat, z < 4294967296 ∧ wr.cell? ⟨g, o + k, none⟩ = some (.int .u32 (z : Int)) ∧ wr.frozen? ⟨g, o + k, none⟩ = false ∧
      ∀ s c' : Nat, s < 4294967296 → s + limb xs k * f + c = z + 4294967296 * c' → SPRel g o m f zs xs w (k + 1) c' (wr.setCell ⟨g, o + k, none⟩ (.int .u32 (s : Int))) := by
  obtain ⟨cur, hl, ho, hr, hon, hv⟩ := h
  have hfit : o + cur.length ≤ zs.length := by omega
  refine ⟨cur.getD k 0, ho.getD k, ?_, hr.frozen _, fun s c' hs he => ?_⟩
  · rw [hr.cell (i := o + k) (by rw [put_length _ _ _ hfit]; omega), put_getD zs o cur hfit k (by omega)]
  · refine ⟨cur.set k s, by simp [hl], ho.set k s hs, ?_, hon.setCell _ _, ?_⟩
    · rw [← put_set zs o cur hfit k s (by omega)]
      exact hr.set_ _ _
    · rw [← Limb.step_unset cur k s (limb xs k * f) c c' (by omega) _ _ hv he, upto_succ, Nat.add_mul, Nat.mul_assoc]

def SPPost (g o m f : Nat) (zs xs : List Nat) (w : World) (e : Ending) (w' : World) : Prop :=
  ∃ (cur : List Nat) (cy : Nat), e = .returned (.int .u32 (cy : Int)) ∧ cy < 4294967296 ∧ cur.length = m ∧ Limb.Ok cur ∧ Row w' g (put zs o cur) ∧ Only g w w' ∧ Hid (Limb.val cur + Limb.val xs * f = Limb.val (win zs o m) + 4294967296 ^ m * cy)

theorem sp_carry (z y f : Nat) (hz : z < 4294967296) (hy : y < 4294967296) (hf : f < 4294967296) : z + y * f ≤ 18446744069414584320 := by
  have h := Nat.mul_le_mul (show y ≤ 4294967295 by omega) (show f ≤ 4294967295 by omega)
  omega

set_option maxHeartbeats 1000000 in
theorem subProduct_any (g o m c f : Nat) (zs : List Nat) (A : Option Addr) (d : Nat) (xs : List Nat) (w : World) (hr : Row w g zs) (hz : Limb.Ok zs) (hn : o + m ≤ zs.length) (hc : m ≤ 4611686018427387904) (hcc : m ≤ c)
    (hx : Nums w A m xs) (hap : 0 < m → Apart A g) (hf : f < 4294967296) :
    Calls Try.prog 117 #[.slice (some ⟨g, o, none⟩) m c, .slice A m d, .int .u32 (f : Int)] w (SPPost g o m f zs xs w) := by
  have R := hide (SPRel.start g o m f zs xs w hz hr hn)
  clear hr hz
  go_enter Try.func117, Try.ntmps117
  go_wp2_with fail
  go_loopw [7, 13] (fun c i wr => ∃ k z : Nat, k ≤ m ∧ z < 4294967296 ∧ i = .int .i64 (k : Int) ∧ c = .int .u64 (z : Int) ∧ Hid (SPRel g o m f zs xs w k z wr)) (fun _ i _ => m - (intOf i).toNat)
  case atStart => exact ⟨0, 0, Nat.zero_le _, by omega, rfl, rfl, R.out⟩
  case round =>
    clear R
    obtain ⟨k, z, hk, hz1, rfl, rfl, R⟩ := hrel
    by_cases hkm : k < m
    · have hxr := hx.grown R.out.only (hap (by omega))
      obtain ⟨b1, o1, y, rfl, hyb, hye, hyc⟩ := hxr.at_ hkm
      obtain ⟨zz, hzz, hcell, hfroz, hstep⟩ := R.out.at_ hn hkm
      have hsc := sp_carry z y f hz1 hyb hf
      obtain ⟨hp1, hp2, hp3⟩ := prod_int _ _ hyb hf
      have HP := Lib.hid hp3
      have HY := Lib.hid hye
      have HS := hide hstep
      have HSC := hide hsc
      clear hye hstep hp3 hxr hsc
      by_cases hlt : zz < (z + y * f) % 4294967296
      · have h1 : (zz : Int) < ((z : Int) + (y : Int) * (f : Int)) % 4294967296 := by have := HP.out; omega
        go_wp2_with fail
        have es : ((zz : Int) - ((z : Int) + (y : Int) * (f : Int))) % 4294967296 = ((zz + 4294967296 - (z + y * f) % 4294967296 : Nat) : Int) := by have := HP.out; omega
        have ec : ((z : Int) + (y : Int) * (f : Int)) / 4294967296 + 1 = (((z + y * f) / 4294967296 + 1 : Nat) : Int) := by have := HP.out; omega
        rw [es, ec]
        clear es ec
        go_roundw
        case rel => exact ⟨k + 1, _, by omega, by have := HSC.out; omega, by go_num, rfl, HS.out _ _ (by omega) (by have e := HY.out; unfold limb; rw [← e]; omega)⟩
        case measure => simp [intOf]; omega
      · have h1 : ¬ (zz : Int) < ((z : Int) + (y : Int) * (f : Int)) % 4294967296 := by have := HP.out; omega
        go_wp2_with fail
        have es : (zz : Int) - ((z : Int) + (y : Int) * (f : Int)) % 4294967296 = ((zz - (z + y * f) % 4294967296 : Nat) : Int) := by have := HP.out; omega
        have ec : ((z : Int) + (y : Int) * (f : Int)) / 4294967296 = (((z + y * f) / 4294967296 : Nat) : Int) := by have := HP.out; omega
        rw [es, ec]
        clear es ec
        go_roundw
        case rel => exact ⟨k + 1, _, by omega, by have := HSC.out; omega, by go_num, rfl, HS.out _ _ (by omega) (by have e := HY.out; unfold limb; rw [← e]; omega)⟩
        case measure => simp [intOf]; omega
    · obtain rfl : k = m := by omega
      clear hkm
      go_wp2_with fail
      go_ret
      obtain ⟨cur, hl, ho, hr, hon, hv⟩ := R.out
      exact ⟨cur, z, rfl, hz1, hl, ho, hr, hon, by show _ = _; rw [← upto_all xs k (by rw [hx.len]; omega)]; exact hv⟩

/-! ### divideBy -/
def DBRel (g m f : Nat) (zs : List Nat) (w : World) (k z : Nat) (wr : World) : Prop :=
  ∃ cur : List Nat, cur.length = m ∧ Limb.Ok cur ∧ Row wr g (put zs 0 cur) ∧ Only g w wr ∧ (∀ i, i < k → limb cur i = limb zs i) ∧ z < f ∧ Limb.val ((win zs 0 m).drop k) = f * Limb.val (cur.drop k) + z
theorem DBRel.start (g m f : Nat) (zs : List Nat) (w : World) (hz : Limb.Ok zs) (hr : Row w g zs) (hn : m ≤ zs.length) (hf : 0 < f) : DBRel g m f zs w m 0 w := by
  refine ⟨win zs 0 m, win_length zs 0 m (by omega), win_ok hz 0 m, by unfold win; rw [put_self zs 0 m (by omega)]; exact hr, Only.refl g w, fun i hi => ?_, hf, ?_⟩
  · unfold limb win
    rw [List.drop_zero, List.getD_eq_getElem?_getD, List.getD_eq_getElem?_getD, List.getElem?_take_of_lt hi]
  · rw [List.drop_of_length_le (by rw [win_length zs 0 m (by omega)]; exact Nat.le_refl _)]
    simp [Limb.val]
theorem limb_win (zs : List Nat) (m i : Nat) (hi : i < m) : limb (win zs 0 m) i = limb zs i := by
  unfold limb win
  rw [List.drop_zero, List.getD_eq_getElem?_getD, List.getD_eq_getElem?_getD, List.getElem?_take_of_lt hi]
theorem val_drop_limb (xs : List Nat) (j : Nat) (h : j < xs.length) : Limb.val (xs.drop j) = limb xs j + 4294967296 * Limb.val (xs.drop (j + 1)) := by
  rw [List.drop_eq_getElem_cons h]
  unfold limb
  rw [List.getD_eq_getElem?_getD, List.getElem?_eq_getElem h]
  rfl
theorem drop_set_succ (xs : List Nat) (j v : Nat) : (xs.set j v).drop (j + 1) = xs.drop (j + 1) := by
  rw [List.drop_set]
  rw [if_pos (by omega)]
theorem db_alg (f z x V Q q t : Nat) (h : V = f * Q + z) (h2 : f * q + t = z * 4294967296 + x) : x + 4294967296 * V = f * (q + 4294967296 * Q) + t := by
  subst h
  rw [Nat.mul_add, Nat.mul_add, Nat.mul_left_comm f 4294967296 Q]
  omega
theorem DBRel.at_ {g m f : Nat} {zs : List Nat} {w : World} {k z : Nat} {wr : World} (h : DBRel g m f zs w (k + 1) z wr) (hn : m ≤ zs.length) (hk : k < m) (hok : Limb.Ok zs) :
    ∃ x : Nat, x < 4294967296 ∧ wr.cell? ⟨g, k, none⟩ = some (.int .u32 (x : Int)) ∧ wr.frozen? ⟨g, k, none⟩ = false ∧ z < f ∧
      ∀ q t : Nat, q < 4294967296 → t < f → f * q + t = z * 4294967296 + x → DBRel g m f zs w k t (wr.setCell ⟨g, k, none⟩ (.int .u32 (q : Int))) := by
  obtain ⟨cur, hl, ho, hr, hon, he, hzf, hv⟩ := h
  have hfit : 0 + cur.length ≤ zs.length := by omega
  have hwl := win_length zs 0 m (by omega)
  refine ⟨cur.getD k 0, ho.getD k, ?_, hr.frozen _, hzf, fun q t hq ht hqt => ?_⟩
  · have := hr.cell (i := k) (by rw [put_length _ _ _ hfit]; omega)
    have e2 := put_getD zs 0 cur hfit k (by omega)
    rw [Nat.zero_add] at e2
    rw [this, e2]
  · refine ⟨cur.set k q, by simp [hl], ho.set k q hq, ?_, hon.setCell _ _, fun i hi => ?_, ht, ?_⟩
    · have e2 := put_set zs 0 cur hfit k q (by omega)
      rw [Nat.zero_add] at e2
      rw [← e2]
      exact hr.set_ _ _
    · rw [← he i (by omega)]
      unfold limb
      rw [List.getD_eq_getElem?_getD, List.getElem?_set_ne (by omega), ← List.getD_eq_getElem?_getD]
    · rw [val_drop_limb (win zs 0 m) k (by omega), limb_win zs m k hk, ← he k (by omega), val_drop_limb (cur.set k q) k (by simp; omega), drop_set_succ]
      have e3 : limb (cur.set k q) k = q := by
        unfold limb
        rw [List.getD_eq_getElem?_getD, List.getElem?_set_self (by omega)]; rfl
      rw [e3]
      exact db_alg f z _ _ _ q t hv hqt
def DBPost (g m f : Nat) (zs : List Nat) (w : World) (e : Ending) (w' : World) : Prop :=
  e = .returned (.int .u32 ((Limb.val (win zs 0 m) % f : Nat) : Int)) ∧ Row w' g (put zs 0 (Limb.fixed m (Limb.val (win zs 0 m) / f))) ∧ Only g w w'

set_option maxHeartbeats 1000000 in
theorem divideBy_any (g m c f : Nat) (zs : List Nat) (w : World) (hr : Row w g zs) (hz : Limb.Ok zs) (hn : m ≤ zs.length) (hc : m ≤ 4611686018427387904) (hf0 : 0 < f) (hf : f < 4294967296) :
    Calls Try.prog 59 #[.slice (some ⟨g, 0, none⟩) m c, .int .u32 (f : Int)] w (DBPost g m f zs w) := by
  have R := hide (DBRel.start g m f zs w hz hr hn hf0)
  clear hr
  go_enter Try.func59, Try.ntmps59
  go_wp2_with fail
  go_loopw [5, 6] (fun c i wr => ∃ k z : Nat, k ≤ m ∧ z < f ∧ i = .int .i64 ((k : Int) - 1) ∧ c = .int .u64 (z : Int) ∧ Hid (DBRel g m f zs w k z wr)) (fun _ i _ => ((intOf i) + 1).toNat)
  case atStart => exact ⟨m, 0, Nat.le_refl _, hf0, rfl, rfl, R.out⟩
  case round =>
    clear R
    obtain ⟨k, z, hk, hzf, rfl, rfl, R⟩ := hrel
    rcases Nat.eq_zero_or_pos k with hk0 | hk0
    · subst hk0
      go_wp2_with fail
      go_ret
      obtain ⟨cur, hl, ho, hr, hon, _, _, hv⟩ := R.out
      rw [List.drop_zero, List.drop_zero] at hv
      have e1 : Limb.val (win zs 0 m) % f = z := by rw [hv, Nat.mul_add_mod, Nat.mod_eq_of_lt hzf]
      have e2 : Limb.val (win zs 0 m) / f = Limb.val cur := by rw [hv, Nat.mul_add_div hf0, Nat.div_eq_of_lt hzf]; omega
      have e3 : cur = Limb.fixed m (Limb.val (win zs 0 m) / f) := Limb.eq_fixed m _ 0 ho hl (by rw [e2]; simp)
      exact ⟨by rw [e1]; rfl, by rw [← e3]; exact hr, hon⟩
    · obtain ⟨j, rfl⟩ : ∃ j, k = j + 1 := ⟨k - 1, by omega⟩
      have e1 : (((j + 1 : Nat) : Int) - 1) = (j : Int) := by omega
      rw [e1]
      clear e1
      obtain ⟨x, hxl, hcell, hfroz, _, hstep⟩ := R.out.at_ hn (by omega) hz
      have HS := hide hstep
      have hj := join64' x z hxl (by omega)
      have hdm := Nat.div_add_mod (z * 4294967296 + x) f
      have HDM := Lib.hid hdm
      have hml := Nat.mod_lt (z * 4294967296 + x) hf0
      have hdl : (z * 4294967296 + x) / f < 4294967296 := by
        rw [Nat.div_lt_iff_lt_mul hf0]
        have := Nat.mul_le_mul_left 4294967296 (show z + 1 ≤ f from hzf)
        omega
      have hdi : ((z : Int) * 4294967296 + (x : Int)) / (f : Int) = (((z * 4294967296 + x) / f : Nat) : Int) := by rw [Int.natCast_ediv, Int.natCast_add, Int.natCast_mul]; rfl
      have hmi : ((z : Int) * 4294967296 + (x : Int)) % (f : Int) = (((z * 4294967296 + x) % f : Nat) : Int) := by rw [Int.natCast_emod, Int.natCast_add, Int.natCast_mul]; rfl
      generalize (z * 4294967296 + x) / f = q at *
      generalize (z * 4294967296 + x) % f = t at *
      clear hstep hdm
      go_wp2_with fail
      go_roundw
      case rel => exact ⟨j, t, by omega, hml, by go_num, by rw [hmi], HS.out q t hdl hml HDM.out⟩
      case measure => simp [intOf] <;> omega
end Go.Proofs.Ytlihnagfmfpdcaa
