/- nat.scale, nat.allDigits. -/
import Derived.Test.YtlihnagfmfpdcaaDiv
import Derived.Test.YtlihnagfmfpdcaaDecMath
import Derived.Lib.Strings
namespace Go.Proofs.Ytlihnagfmfpdcaa
open Go.RowKit
open Limb (limb limb_lt upto upto_succ upto_all upto_zero)

def ScRel (g f p : Nat) (zs : List Nat) (w : World) (k c : Nat) (wr : World) : Prop :=
  ∃ cur : List Nat, cur.length = zs.length ∧ Limb.Ok cur ∧ Row wr g cur ∧ Only g w wr ∧ (∀ t, k ≤ t → limb cur t = limb zs t) ∧ upto cur k + 4294967296 ^ k * c = upto zs k * f + p
theorem ScRel.start (g f p : Nat) (zs : List Nat) (w : World) (hz : Limb.Ok zs) (hr : Row w g zs) : ScRel g f p zs w 0 p w :=
  ⟨zs, rfl, hz, hr, Only.refl g w, fun _ _ => rfl, by rw [upto_zero, Nat.pow_zero]; omega⟩
theorem sc_alg (U V B z f p s c c' : Nat) (h : U + B * c = V * f + p) (hs : s + 4294967296 * c' = z * f + c) : U + B * s + B * 4294967296 * c' = (V + B * z) * f + p := by
  have e1 : B * (s + 4294967296 * c') = B * (z * f + c) := by rw [hs]
  rw [Nat.mul_add, Nat.mul_add] at e1
  rw [Nat.add_mul, Nat.mul_assoc B z f, Nat.mul_assoc B 4294967296 c']
  omega
theorem ScRel.at_ {g f p : Nat} {zs : List Nat} {w : World} {k c : Nat} {wr : World} (h : ScRel g f p zs w k c wr) (hk : k < zs.length) (hok : Limb.Ok zs) :
    ∃ z : Nat, z < 4294967296 ∧ wr.cell? ⟨g, k, none⟩ = some (.int .u32 (z : Int)) ∧ wr.frozen? ⟨g, k, none⟩ = false ∧
      ∀ s c' : Nat, s < 4294967296 → s + 4294967296 * c' = z * f + c → ScRel g f p zs w (k + 1) c' (wr.setCell ⟨g, k, none⟩ (.int .u32 (s : Int))) := by
  obtain ⟨cur, hl, ho, hr, hon, he, hv⟩ := h
  refine ⟨limb zs k, limb_lt hok k, ?_, hr.frozen _, fun s c' hs hsc => ?_⟩
  · rw [hr.cell (i := k) (by omega), ← he k (Nat.le_refl _)]; rfl
  · refine ⟨cur.set k s, by simp [hl], ho.set k s hs, hr.set_ _ _, hon.setCell _ _, fun t ht => ?_, ?_⟩
    · rw [limb_set_ne _ _ _ _ (by omega)]; exact he t (by omega)
    · rw [upto_succ, upto_succ, upto_set, limb_set_self _ _ _ (by omega), Nat.pow_succ]
      exact sc_alg _ _ _ _ _ _ _ _ _ hv hsc
def ScPost (g f p : Nat) (zs : List Nat) (w : World) (e : Ending) (w' : World) : Prop :=
  ∃ (cur : List Nat) (cy : Nat), e = .returned (.tuple #[]) ∧ cur.length = zs.length ∧ Limb.Ok cur ∧ Row w' g cur ∧ Only g w w' ∧ Hid (Limb.val cur + 4294967296 ^ zs.length * cy = Limb.val zs * f + p)

set_option maxHeartbeats 1000000 in
theorem scale_any (g c f p : Nat) (zs : List Nat) (w : World) (hr : Row w g zs) (hz : Limb.Ok zs) (hc : zs.length ≤ 4611686018427387904) (hf : f < 4294967296) (hp : p < 4294967296) :
    Calls Try.prog 57 #[.slice (some ⟨g, 0, none⟩) zs.length c, .int .u32 (f : Int), .int .u32 (p : Int)] w (ScPost g f p zs w) := by
  have R := hide (ScRel.start g f p zs w hz hr)
  obtain ⟨m, hm⟩ : ∃ m, zs.length = m := ⟨_, rfl⟩
  have HM := hide hm
  rw [hm] at hc ⊢
  clear hr hm
  go_enter Try.func57, Try.ntmps57
  go_wp2_with fail
  go_loopw [6, 13] (fun c i wr => ∃ k z : Nat, k ≤ m ∧ z < 4294967296 ∧ i = .int .i64 (k : Int) ∧ c = .int .u64 (z : Int) ∧ Hid (ScRel g f p zs w k z wr)) (fun _ i _ => m - (intOf i).toNat)
  case atStart => exact ⟨0, p, Nat.zero_le _, hp, rfl, rfl, R⟩
  case round =>
    clear R
    obtain ⟨k, z, hk, hz1, rfl, rfl, R⟩ := hrel
    by_cases hkm : k < m
    · obtain ⟨zz, hzz, hcell, hfroz, hstep⟩ := R.out.at_ (by rw [HM.out]; exact hkm) hz
      have hpn := prod_le _ _ hzz hf
      obtain ⟨hp1, hp2, hp3⟩ := prod_int _ _ hzz hf
      have HP := Lib.hid hp3
      have HS := hide hstep
      clear hstep hp3
      go_wp2_with fail
      have es : ((z : Int) + (zz : Int) * (f : Int)) % 4294967296 = (((zz * f + z) % 4294967296 : Nat) : Int) := by have := HP.out; omega
      have ec : ((z : Int) + (zz : Int) * (f : Int)) / 4294967296 = (((zz * f + z) / 4294967296 : Nat) : Int) := by have := HP.out; omega
      rw [es, ec]
      clear es ec
      go_roundw
      case rel => exact ⟨k + 1, _, by omega, by omega, by go_num, rfl, HS.out _ _ (by omega) (by omega)⟩
      case measure => simp [intOf]; omega
    · obtain rfl : k = m := by omega
      clear hkm
      go_wp2_with fail
      go_end0
      obtain ⟨cur, hl, ho, hr, hon, -, hv⟩ := R.out
      exact ⟨cur, z, rfl, hl, ho, hr, hon, by show _ = _; rw [upto_all cur k (by rw [hl, HM.out]; exact Nat.le_refl _), upto_all zs k (by rw [HM.out]; exact Nat.le_refl _)] at hv; rw [HM.out]; exact hv⟩

/-- Byte i of a text. -/
def byteAt (s : ByteArray) (i : Nat) : Nat := if h : i < s.size then (s[i]'h).toNat else 0
theorem byteAt_eq (s : ByteArray) (i : Nat) (h : i < s.size) : byteAt s i = (s[i]'h).toNat := by unfold byteAt; rw [dif_pos h]
theorem byteAt_lt (s : ByteArray) (i : Nat) : byteAt s i < 256 := by
  unfold byteAt
  split
  · exact UInt8.toNat_lt _
  · omega
def allDig (s : ByteArray) : Prop := ∀ i, i < s.size → 48 ≤ byteAt s i ∧ byteAt s i ≤ 57
theorem isEmpty_size (s : ByteArray) : s.toList.isEmpty = decide (s.size = 0) := by
  rw [Lib.toList_data]
  have h : s.data.toList.length = s.size := by simp
  cases hl : s.data.toList with
  | nil => rw [hl] at h; simp at h; simp [← h]
  | cons x xs => rw [hl] at h; simp at h; rw [decide_eq_false (by omega)]; rfl
set_option maxHeartbeats 1000000 in
theorem allDigits_any (s : ByteArray) (b : Bool) (w : World) (hs : s.size ≤ 4611686018427387904) (hb : b = true ↔ allDig s ∧ s.size ≠ 0) :
    Calls Try.prog 56 #[.string s] w (BoolPost b w) := by
  have HB := hide hb
  clear hb
  go_enter Try.func56, Try.ntmps56
  go_wp2_with fail
  go_loop [3, 6] (fun _ i => ∃ k : Nat, k ≤ s.size ∧ i = .int .i64 (k : Int) ∧ Hid (∀ j, j < k → 48 ≤ byteAt s j ∧ byteAt s j ≤ 57)) (fun _ i => s.size - (intOf i).toNat)
  case atStart => exact ⟨0, Nat.zero_le _, rfl, fun j hj => absurd hj (by omega)⟩
  case round =>
    obtain ⟨k, hk, rfl, HD⟩ := hrel
    by_cases hkn : k < s.size
    · have hbe := byteAt_eq s k hkn
      by_cases hd : 48 ≤ byteAt s k ∧ byteAt s k ≤ 57
      · have hd2 := hide hd
        rw [hbe] at hd
        have g1 : (48 : Int) ≤ ((s[k]'hkn).toNat : Int) := by omega
        have g2 : ((s[k]'hkn).toNat : Int) ≤ 57 := by omega
        clear hd hbe
        go_wp2_with fail
        go_round
        case rel => exact ⟨k + 1, by omega, by go_num, fun j hj => by
          rcases Nat.eq_or_lt_of_le (Nat.le_of_lt_succ hj) with h | h
          · subst h; exact hd2.out
          · exact HD.out j h⟩
        case measure => simp [intOf]; omega
      · have hb0 : b = false := by
          cases b with
          | false => rfl
          | true => exact absurd ((HB.out.1 rfl).1 k hkn) hd
        subst hb0
        rw [hbe] at hd
        by_cases g1 : (48 : Int) ≤ ((s[k]'hkn).toNat : Int)
        · have g2 : ¬ ((s[k]'hkn).toNat : Int) ≤ 57 := by omega
          clear hd hbe
          go_wp2_with fail
          go_ret
          exact ⟨rfl, 0, rfl⟩
        · clear hd hbe
          go_wp2_with fail
          go_ret
          exact ⟨rfl, 0, rfl⟩
    · obtain rfl : k = s.size := by omega
      go_wp2_with fail
      go_ret
      refine ⟨?_, 0, rfl⟩
      show Ending.returned (.bool (!s.toList.isEmpty)) = _
      rw [isEmpty_size]
      by_cases h0 : s.size = 0
      · have hb0 : b = false := by
          cases b with
          | false => rfl
          | true => exact absurd h0 (HB.out.1 rfl).2
        rw [hb0, decide_eq_true h0]; rfl
      · rw [HB.out.2 ⟨fun i hi => HD.out i hi, h0⟩, decide_eq_false h0]; rfl
end Go.Proofs.Ytlihnagfmfpdcaa
