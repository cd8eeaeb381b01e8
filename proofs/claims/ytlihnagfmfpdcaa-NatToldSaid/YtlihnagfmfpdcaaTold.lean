/- plumblinelaw01.NatTold: the walk. -/
import Derived.Test.YtlihnagfmfpdcaaTelling
import Derived.Test.YtlihnagfmfpdcaaDecOrd
import Derived.Test.YtlihnagfmfpdcaaMoveMath
namespace Go.Proofs.Ytlihnagfmfpdcaa
open Go.RowKit

theorem parse_low (N k : Nat) (w : World) (h : N < 10 ^ k) (h1 : 1 ≤ k) (h2 : k ≤ 4000) : Calls Try.prog 16 #[.string (Dec.str (Dec.low N k))] w (LeftPost N w) := by
  have := parse_ok (Dec.str (Dec.low N k)) w (by rw [low_size]; exact h2) (low_allDig N k) (by rw [low_size]; omega)
  rw [low_num N k h] at this
  exact this
def IntBelow (v : Int) (w : World) (e : Ending) (w' : World) : Prop := e = .returned (.int .i64 v) ∧ Below w.heap.size w w'
theorem pow_add_lt {N D : Nat} (h : N < 10 ^ D) (t : Nat) : N < 10 ^ (D + t) := Nat.lt_of_lt_of_le h (Nat.pow_le_pow_right (by omega) (by omega))
/-- How two numbers and their texts stand to each other. -/
def Order (N M : Nat) (s t : ByteArray) (v : Int) : Prop := (N < M ∧ v = -1) ∨ (N = M ∧ v = 0) ∨ (M < N ∧ v = 1)
set_option maxRecDepth 100000 in
set_option maxHeartbeats 8000000 in
theorem natTold_walk (A : Option Addr) (n c : Nat) (xs : List Nat) (B : Option Addr) (m d : Nat) (ys : List Nat) (z : Int) (w : World) (hx : Nums w A n xs) (hc : n ≤ c) (hm : c ≤ 9223372036854775807) (hy : Nums w B m ys) (hd : m ≤ d) (hmd : d ≤ 9223372036854775807) (hlo : -9223372036854775808 ≤ z) (hhi : z ≤ 9223372036854775807) :
    Calls Try.prog 5 #[.slice A n c, .slice B m d, .int .i64 z] w (YesPost w) := by
  by_cases hs : n ≤ 100 ∧ m ≤ 100
  · obtain ⟨hn, hmk⟩ := hs
    obtain ⟨q, hq, hz⟩ : ∃ q : Nat, q ≤ 31 ∧ bits BinOp.and IntKind.i64 z 31 = (q : Int) := ⟨(z % 32).toNat, by omega, by rw [i64_low31]; omega⟩
    have HT := hide (fun W (h : Below w.heap.size w W) => natText_any A n c xs W (hx.below h) hc hm (by omega))
    have HU := hide (fun W (h : Below w.heap.size w W) => natText_any B m d ys W (hy.below h) hd hmd (by omega))
    have HCA := hide (fun A1 n1 W (h : Below w.heap.size w W) (h1 : Nums W A1 n1 (Limb.canon (Limb.val xs))) (h2 : n1 ≤ 9223372036854775807) => (show Calls Try.prog 22 #[.slice A1 n1 n1, .slice A n c] W (IntBelow 0 W) from (cmp_any A1 A n1 n1 n c _ _ W h1 (Nat.le_refl _) h2 (hx.below h) hc hm).mono (by
      rintro e w' ⟨rfl, k, rfl⟩
      rw [Limb.val_canon, cmpN_eq']
      exact ⟨rfl, bl_drewN W k⟩)))
    have HCB := hide (fun W (h : Below w.heap.size w W) => (show Calls Try.prog 22 #[.slice A n c, .slice B m d] W (IntBelow (cmpN (Limb.val xs) (Limb.val ys)) W) from (cmp_any A B n c m d _ _ W (hx.below h) hc hm (hy.below h) hd hmd).mono (by
      rintro e w' ⟨rfl, k, rfl⟩
      exact ⟨rfl, bl_drewN W k⟩)))
    have hNlt := hide (lt_pow hx hn)
    generalize Limb.val xs = N at *
    generalize Limb.val ys = M at *
    clear hx hy
    go_enter Try.func5, Try.ntmps5
    go_wp2_with fail
    refine (telling_any w).mono ?_
    rintro e w1 ⟨rfl, b1⟩
    go_wp2_with fail
    refine (adding_any w1).mono ?_
    rintro e w2 ⟨rfl, b2⟩
    go_wp2_with fail
    refine (short_yes A B n c m d 100 w2 (by omega) (by omega) (by omega)).mono ?_
    rintro e w' ⟨rfl, rfl⟩
    have t2 := b1.next b2
    clear b1 b2
    go_wp2_with fail
    refine (HT.out w2 t2).mono ?_
    rintro e w3 ⟨rfl, b3⟩
    have t3 := t2.next b3
    go_wp2_with fail
    refine (HU.out w3 t3).mono ?_
    rintro e w4 ⟨rfl, b4⟩
    have t4 := t3.next b4
    have hD1 := Dec.dlen_pos N
    have hD2 := dlen_room hNlt.out
    have hND := hide (Dec.dlen_is N).2.1
    have hless := hide (fun h => text_less (N := N) (M := M) h)
    have hsame := hide (fun h => text_same (N := N) (M := M) h)
    have hlens := hide (fun h => dlen_less (N := N) (M := M) h)
    have hfb := hide (fun h => first_byte (N := N) h)
    have hsN := Dec.text_size N
    have hsM := Dec.text_size M
    have hlow := hide (show Dec.text N = Dec.str (Dec.low N (Dec.dlen N)) from rfl)
    have hE2 := Dec.dlen_pos M
    have hnm := hide (fun (h : N = M) => congrArg Dec.dlen h)
    have hE3 := hide (Dec.dlen_is M).2.2
    generalize Dec.text N = sN at *
    generalize Dec.text M = sM at *
    generalize Dec.dlen N = D at *
    generalize Dec.dlen M = E at *
    have hp0 := parse_low N D w4 hND.out hD1 (by omega)
    rw [← hlow.out] at hp0
    clear b3 b4 t2 t3
    go_wp2_with fail
    refine hp0.mono ?_
    rintro e w5 ⟨A5, n5, rfl, o5, b5⟩
    have t5 := t4.next b5
    have l5 := own_c o5
    clear hp0
    go_wp2_with fail
    go_loop [11, 12] (fun v i => ∃ t : Nat, t ≤ q ∧ i = .int .i64 (t : Int) ∧ v = .string (Dec.str (Dec.low N (D + t)))) (fun _ i => q - (intOf i).toNat)
    case atStart => exact ⟨0, Nat.zero_le _, rfl, by rw [hlow.out]; rfl⟩
    case round =>
      obtain ⟨t, ht, rfl, rfl⟩ := hrel
      by_cases htq : t < q
      · have hn1 := hide (low_nought N (D + t) (pow_add_lt hND.out t))
        have hsz : (⟨#[48]⟩ : ByteArray).size + (Dec.str (Dec.low N (D + t))).size ≤ 9223372036854775807 := by
          rw [low_size]
          show 1 + _ ≤ _
          omega
        generalize Dec.str (Dec.low N (D + t)) = sb at *
        go_wp2_with fail
        rw [hn1.out]
        go_round
        case rel => exact ⟨t + 1, by omega, by go_num, rfl⟩
        case measure => simp [intOf]; omega
      · obtain rfl : t = q := by omega
        clear htq
        go_wp2_with fail
        refine (parse_low N (D + t) w5 (pow_add_lt hND.out t) (by omega) (by omega)).mono ?_
        rintro e w6 ⟨A6, n6, rfl, o6, b6⟩
        have t6 := t5.next b6
        have l6 := own_c o6
        generalize Dec.str (Dec.low N (D + t)) = sb at *
        go_wp2_with fail
        refine (HCA.out A5 n5 w6 t6 (o5.nums.below b6) (by omega)).mono ?_
        rintro e w7 ⟨rfl, b7⟩
        have t7 := t6.next b7
        go_wp2_with fail
        refine (HCA.out A6 n6 w7 t7 (o6.nums.below b7) (by omega)).mono ?_
        rintro e w8 ⟨rfl, b8⟩
        have t8 := t7.next b8
        have hfirst : (¬ (1 : Int) < (D : Int)) ∨ ((1 : Int) < (D : Int) ∧ ∃ h0 : 0 < sN.size, (((sN[0]'h0).toNat : Int) == 48) = false) := by
          rcases Nat.lt_or_ge 1 D with h | h
          · refine Or.inr ⟨by omega, by omega, ?_⟩
            have h2 := hfb.out h
            rw [byteAt_eq sN 0 (by omega)] at h2
            simp only [beq_eq_false_iff_ne]
            omega
          · exact Or.inl (by omega)
        have hord : (D = E ∧ ((N < M ∧ Op.bytesLess sN.toList sM.toList = true ∧ (sN.toList == sM.toList) = false) ∨ (N = M ∧ Op.bytesLess sN.toList sM.toList = false ∧ (sN.toList == sM.toList) = true) ∨ (M < N ∧ Op.bytesLess sN.toList sM.toList = false ∧ (sN.toList == sM.toList) = false))) ∨ ((D < E ∧ N < M) ∨ (E < D ∧ M < N)) := by
          by_cases hDE : D = E
          · left
            have h1 := hless.out hDE
            have h2 := hsame.out hDE
            refine ⟨hDE, ?_⟩
            rw [h1, h2]
            rcases Nat.lt_trichotomy N M with h | h | h
            · exact Or.inl ⟨h, by simp [h], by simp; omega⟩
            · exact Or.inr (Or.inl ⟨h, by simp; omega, by simp [h]⟩)
            · exact Or.inr (Or.inr ⟨h, by simp; omega, by simp; omega⟩)
          · right
            have h1 := hlens.out hDE
            rw [decide_eq_decide] at h1
            have h2 : N ≠ M → True := fun _ => trivial
            rcases Nat.lt_or_ge D E with h | h
            · exact Or.inl ⟨h, h1.1 h⟩
            · right
              refine ⟨by omega, ?_⟩
              rcases Nat.lt_trichotomy N M with h3 | h3 | h3
              · have := h1.2 h3; omega
              · exact absurd (hnm.out h3) hDE
              · exact h3
        have HLOW := hlow
        clear hless hsame hlens hfb hlow HT HU HCA o5 o6 hE2 hE3 hnm
        rcases hord with ⟨rfl, ⟨hlt, e1, e2⟩ | ⟨hlt, e1, e2⟩ | ⟨hlt, e1, e2⟩⟩ | ⟨hDE, hlt⟩ | ⟨hDE, hlt⟩
        · rw [cmpN_lt' hlt] at HCB
          rcases hfirst with hf | ⟨hf, h0, hf0⟩
          all_goals
            go_wp2_with fail
            refine (HCB.out w8 t8).mono ?_
            rintro e w9 ⟨rfl, b9⟩
            have t9 := t8.next b9
            go_wp2_with fail
            refine (HCB.out w9 t9).mono ?_
            rintro e w10 ⟨rfl, b10⟩
            have t10 := t9.next b10
            go_wp2_with fail
            go_ret
            exact ⟨rfl, t10⟩
        · rw [hlt, cmpN_eq'] at HCB
          clear hlt
          rcases hfirst with hf | ⟨hf, h0, hf0⟩
          all_goals
            go_wp2_with fail
            refine (HCB.out w8 t8).mono ?_
            rintro e w9 ⟨rfl, b9⟩
            have t9 := t8.next b9
            go_wp2_with fail
            refine (HCB.out w9 t9).mono ?_
            rintro e w10 ⟨rfl, b10⟩
            have t10 := t9.next b10
            go_wp2_with fail
            go_ret
            exact ⟨rfl, t10⟩
        · rw [cmpN_gt' hlt] at HCB
          rcases hfirst with hf | ⟨hf, h0, hf0⟩
          all_goals
            go_wp2_with fail
            refine (HCB.out w8 t8).mono ?_
            rintro e w9 ⟨rfl, b9⟩
            have t9 := t8.next b9
            go_wp2_with fail
            refine (HCB.out w9 t9).mono ?_
            rintro e w10 ⟨rfl, b10⟩
            have t10 := t9.next b10
            go_wp2_with fail
            go_ret
            exact ⟨rfl, t10⟩
        · rw [cmpN_lt' hlt] at HCB
          have hne : ((D : Int) == (E : Int)) = false := by simp; omega
          clear hlt
          rcases hfirst with hf | ⟨hf, h0, hf0⟩
          all_goals
            go_wp2_with fail
            refine (HCB.out w8 t8).mono ?_
            rintro e w9 ⟨rfl, b9⟩
            have t9 := t8.next b9
            go_wp2_with fail
            go_ret
            exact ⟨rfl, t9⟩
        · rw [cmpN_gt' hlt] at HCB
          have hne : ((D : Int) == (E : Int)) = false := by simp; omega
          have hge : ¬ ((D : Int) < (E : Int)) := by omega
          have hgd : decide (D < E) = false := by simp; omega
          clear hlt
          rcases hfirst with hf | ⟨hf, h0, hf0⟩
          all_goals
            go_wp2_with fail
            refine (HCB.out w8 t8).mono ?_
            rintro e w9 ⟨rfl, b9⟩
            have t9 := t8.next b9
            go_wp2_with fail
            go_ret
            exact ⟨rfl, t9⟩
  · have hno : (100 : Int) < (n : Int) ∨ (100 : Int) < (m : Int) := by omega
    clear hs
    go_enter Try.func5, Try.ntmps5
    go_wp2_with fail
    refine (telling_any w).mono ?_
    rintro e w1 ⟨rfl, b1⟩
    go_wp2_with fail
    refine (adding_any w1).mono ?_
    rintro e w2 ⟨rfl, b2⟩
    go_wp2_with fail
    refine (short_no A B n c m d 100 w2 (by omega) (by omega) (by omega) (by omega)).mono ?_
    rintro e w' ⟨rfl, rfl⟩
    have t2 := b1.next b2
    go_wp2_with fail
    go_ret
    exact ⟨rfl, t2⟩
end Go.Proofs.Ytlihnagfmfpdcaa
