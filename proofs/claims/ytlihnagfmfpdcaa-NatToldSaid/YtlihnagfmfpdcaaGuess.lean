/- nat.guessTimes. -/
import Derived.Test.YtlihnagfmfpdcaaWord
namespace Go.Proofs.Ytlihnagfmfpdcaa
open Go.RowKit
open Limb (limb limb_lt upto upto_succ upto_all upto_zero)

/-- The best guess below 2^32 for three limbs by two. -/
def IsGuess (r0 r1 r2 b0 b1 q : Nat) : Prop := q < 4294967296 ∧ q * (b1 * 4294967296 + b0) ≤ (r2 * 4294967296 + r1) * 4294967296 + r0 ∧
  ∀ p, p < 4294967296 → p * (b1 * 4294967296 + b0) ≤ (r2 * 4294967296 + r1) * 4294967296 + r0 → p ≤ q
/-- What holds of a guess and its rest. -/
def Guessing (r0 r1 r2 b0 b1 q t : Nat) : Prop := q * b1 + t = r2 * 4294967296 + r1 ∧ ∀ p, p < 4294967296 → p * (b1 * 4294967296 + b0) ≤ (r2 * 4294967296 + r1) * 4294967296 + r0 → p ≤ q

theorem two_limbs (q b0 b1 : Nat) : q * (b1 * 4294967296 + b0) = q * b1 * 4294967296 + q * b0 := by rw [Nat.mul_add, Nat.mul_assoc]
theorem guess_start (r0 r1 r2 b0 b1 : Nat) (h0 : r0 < 4294967296) (hb : 0 < b1) : Guessing r0 r1 r2 b0 b1 ((r2 * 4294967296 + r1) / b1) ((r2 * 4294967296 + r1) % b1) := by
  refine ⟨by rw [Nat.mul_comm]; exact Nat.div_add_mod _ _, fun p _ hp => ?_⟩
  rw [two_limbs] at hp
  rw [Nat.le_div_iff_mul_le hb]
  generalize p * b1 = u at *
  omega
theorem guess_first (r1 r2 b1 : Nat) (h1 : r1 < 4294967296) (h2 : r2 ≤ b1) (hb : 2147483648 ≤ b1) : (r2 * 4294967296 + r1) / b1 ≤ 4294967297 := by
  have h : (r2 * 4294967296 + r1) / b1 < 4294967298 := by
    rw [Nat.div_lt_iff_lt_mul (by omega)]
    omega
  omega
theorem guess_done (r0 r1 r2 b0 b1 q t : Nat) (h : Guessing r0 r1 r2 b0 b1 q t) (hq : q < 4294967296) (hle : q * b0 ≤ t * 4294967296 + r0) : IsGuess r0 r1 r2 b0 b1 q := by
  refine ⟨hq, ?_, h.2⟩
  rw [two_limbs, ← h.1, Nat.add_mul]
  omega
theorem guess_big (r0 r1 r2 b0 b1 q t : Nat) (h : Guessing r0 r1 r2 b0 b1 q t) (hq : 4294967296 ≤ q) : Guessing r0 r1 r2 b0 b1 (q - 1) (t + b1) := by
  obtain ⟨h1, h2⟩ := h
  obtain ⟨j, rfl⟩ : ∃ j, q = j + 1 := ⟨q - 1, by omega⟩
  refine ⟨?_, fun p hp hle => by omega⟩
  rw [Nat.add_sub_cancel, ← h1, Nat.succ_mul]
  omega
theorem guess_more (r0 r1 r2 b0 b1 q t : Nat) (h : Guessing r0 r1 r2 b0 b1 q t) (hgt : t * 4294967296 + r0 < q * b0) : 1 ≤ q ∧ Guessing r0 r1 r2 b0 b1 (q - 1) (t + b1) := by
  obtain ⟨h1, h2⟩ := h
  have hq : 1 ≤ q := by
    rcases Nat.eq_zero_or_pos q with h0 | h0
    · subst h0; rw [Nat.zero_mul] at hgt; omega
    · exact h0
  obtain ⟨j, rfl⟩ : ∃ j, q = j + 1 := ⟨q - 1, by omega⟩
  refine ⟨hq, ?_, fun p hp hle => ?_⟩
  · rw [Nat.add_sub_cancel, ← h1, Nat.succ_mul]
    omega
  · have h3 := h2 p hp hle
    rcases Nat.lt_or_ge p (j + 1) with h4 | h4
    · omega
    · have h5 : p = j + 1 := by omega
      subst h5
      exfalso
      rw [two_limbs, ← h1, Nat.add_mul ((j + 1) * b1)] at hle
      omega
theorem guess_break (r0 r1 r2 b0 b1 q t : Nat) (h : Guessing r0 r1 r2 b0 b1 q t) (hq : q < 4294967296) (h0 : b0 < 4294967296) (ht : 4294967296 ≤ t) : IsGuess r0 r1 r2 b0 b1 q := by
  refine guess_done r0 r1 r2 b0 b1 q t h hq ?_
  have := prod_le q b0 hq h0
  omega
theorem guess_nobreak (r0 r1 r2 b0 b1 q t : Nat) (h : Guessing r0 r1 r2 b0 b1 q t) (h1 : r1 < 4294967296) (h2 : r2 ≤ b1) (hq : 4294967296 ≤ q) : t < 4294967296 := by
  have e := h.1
  have h3 := Nat.mul_le_mul_right b1 hq
  have h4 : 4294967296 * b1 = b1 * 4294967296 := Nat.mul_comm _ _
  omega

def GuessPost (r0 r1 r2 b0 b1 : Nat) (w : World) (e : Ending) (w' : World) : Prop := ∃ q : Nat, e = .returned (.int .u64 (q : Int)) ∧ q < 4294967296 ∧ Hid (IsGuess r0 r1 r2 b0 b1 q) ∧ ∃ k, w' = w.drewN k

set_option maxHeartbeats 4000000 in
theorem guessTimes_any (g o c g2 o2 c2 r0 r1 r2 b0 b1 : Nat) (w : World) (hr0 : w.cell? ⟨g, o, none⟩ = some (.int .u32 (r0 : Int))) (hr1 : w.cell? ⟨g, o + 1, none⟩ = some (.int .u32 (r1 : Int))) (hr2 : w.cell? ⟨g, o + 2, none⟩ = some (.int .u32 (r2 : Int)))
    (hb0 : w.cell? ⟨g2, o2, none⟩ = some (.int .u32 (b0 : Int))) (hb1 : w.cell? ⟨g2, o2 + 1, none⟩ = some (.int .u32 (b1 : Int))) (l0 : r0 < 4294967296) (l1 : r1 < 4294967296) (l2 : r2 < 4294967296) (k0 : b0 < 4294967296) (k1 : b1 < 4294967296) (hn : 2147483648 ≤ b1) (hle : r2 ≤ b1) :
    Calls Try.prog 116 #[.slice (some ⟨g, o, none⟩) 3 c, .slice (some ⟨g2, o2, none⟩) 2 c2] w (GuessPost r0 r1 r2 b0 b1 w) := by
  have hj := join64' r1 r2 l1 l2
  have HS := hide (guess_start r0 r1 r2 b0 b1 l0 (by omega))
  have HF := hide (guess_first r1 r2 b1 l1 hle hn)
  have hq : ((r2 : Int) * 4294967296 + (r1 : Int)) / (b1 : Int) = (((r2 * 4294967296 + r1) / b1 : Nat) : Int) := by rw [Int.natCast_ediv, Int.natCast_add, Int.natCast_mul]; rfl
  have hm : ((r2 : Int) * 4294967296 + (r1 : Int)) % (b1 : Int) = (((r2 * 4294967296 + r1) % b1 : Nat) : Int) := by rw [Int.natCast_emod, Int.natCast_add, Int.natCast_mul]; rfl
  have HQ := Lib.hid hq
  have HM := Lib.hid hm
  clear hq hm
  go_enter Try.func116, Try.ntmps116
  go_wp2_with fail
  go_quiet (fail)
  go_wp2_with fail
  go_quiet (fail)
  go_wp2_with fail
  go_loopw [6, 7] (fun x y wr => ∃ q t : Nat, q ≤ 4294967297 ∧ t < 4294967296 ∧ x = .int .u64 (q : Int) ∧ y = .int .u64 (t : Int) ∧ Hid (Guessing r0 r1 r2 b0 b1 q t) ∧ ∃ k, wr = w.drewN k) (fun x _ _ => (intOf x).toNat)
  case atStart => exact ⟨_, _, HF.out, Nat.lt_of_lt_of_le (Nat.mod_lt _ (by omega)) (by omega), by rw [HQ.out], by rw [HM.out], HS.out, by first | exact ⟨_, rfl⟩ | (simp only [World.drewN_drewN]; exact ⟨_, rfl⟩)⟩
  case round =>
    clear HS HF HQ HM hj
    obtain ⟨q, t, hq1, ht1, rfl, rfl, HG, k, rfl⟩ := hrel
    have hj2 := join64' r0 t l0 ht1
    by_cases hqb : q < 4294967296
    · have h1 : ((q : Int) / 4294967296 != 0) = false := by simp; omega
      obtain ⟨hp1, hp2, hp3⟩ := prod_int q b0 hqb k0
      have HP := Lib.hid hp3
      clear hp3
      by_cases hgt : t * 4294967296 + r0 < q * b0
      · have h2 : (t : Int) * 4294967296 + (r0 : Int) < (q : Int) * (b0 : Int) := by have := HP.out; omega
        have HM2 := hide (guess_more r0 r1 r2 b0 b1 q t HG.out hgt)
        have hq0 : 1 ≤ q := HM2.out.1
        clear hgt
        by_cases hbk : t + b1 < 4294967296
        · have h3 : (((t : Int) + (b1 : Int)) / 4294967296 != 0) = false := by simp; omega
          go_wp2_with fail
          go_quiet (fail)
          go_wp2_with fail
          go_roundw
          case rel => exact ⟨q - 1, t + b1, by omega, hbk, by go_num, by go_num, HM2.out.2, by first | exact ⟨_, rfl⟩ | (simp only [World.drewN_drewN]; exact ⟨_, rfl⟩)⟩
          case measure => simp [intOf]; omega
        · have h3 : (((t : Int) + (b1 : Int)) / 4294967296 != 0) = true := by simp; omega
          go_wp2_with fail
          go_quiet (fail)
          go_wp2_with fail
          go_ret
          exact ⟨q - 1, by go_num, (by omega), guess_break r0 r1 r2 b0 b1 (q - 1) (t + b1) HM2.out.2 (by omega) k0 (by omega), by first | exact ⟨_, rfl⟩ | (simp only [World.drewN_drewN]; exact ⟨_, rfl⟩)⟩
      · have h2 : ¬ (t : Int) * 4294967296 + (r0 : Int) < (q : Int) * (b0 : Int) := by have := HP.out; omega
        have HD := hide (guess_done r0 r1 r2 b0 b1 q t HG.out hqb (by omega))
        clear hgt
        go_wp2_with fail
        go_quiet (fail)
        go_wp2_with fail
        go_ret
        exact ⟨q, rfl, hqb, HD.out, by first | exact ⟨_, rfl⟩ | (simp only [World.drewN_drewN]; exact ⟨_, rfl⟩)⟩
    · have h1 : ((q : Int) / 4294967296 != 0) = true := by simp; omega
      have HB2 := hide (guess_big r0 r1 r2 b0 b1 q t HG.out (by omega))
      have HNB := hide (fun h : 4294967296 ≤ q - 1 => guess_nobreak r0 r1 r2 b0 b1 (q - 1) (t + b1) HB2.out l1 hle h)
      by_cases hbk : t + b1 < 4294967296
      · have h3 : (((t : Int) + (b1 : Int)) / 4294967296 != 0) = false := by simp; omega
        go_wp2_with fail
        go_quiet (fail)
        go_wp2_with fail
        go_roundw
        case rel => exact ⟨q - 1, t + b1, by omega, hbk, by go_num, by go_num, HB2.out, by first | exact ⟨_, rfl⟩ | (simp only [World.drewN_drewN]; exact ⟨_, rfl⟩)⟩
        case measure => simp [intOf]; omega
      · have h3 : (((t : Int) + (b1 : Int)) / 4294967296 != 0) = true := by simp; omega
        go_wp2_with fail
        go_quiet (fail)
        go_wp2_with fail
        go_ret
        exact ⟨q - 1, by go_num, (by rcases Nat.lt_or_ge (q - 1) 4294967296 with h | h; exact h; exact absurd (HNB.out h) hbk), guess_break r0 r1 r2 b0 b1 (q - 1) (t + b1) HB2.out (by rcases Nat.lt_or_ge (q - 1) 4294967296 with h | h; exact h; exact absurd (HNB.out h) hbk) k0 (by omega), by first | exact ⟨_, rfl⟩ | (simp only [World.drewN_drewN]; exact ⟨_, rfl⟩)⟩
end Go.Proofs.Ytlihnagfmfpdcaa
