/- nat.Root. -/
import Derived.Test.YtodbhaecomfmgaaMove
import Derived.Test.YtodbhaecomfmgaaMulD
namespace Go.Proofs.Ytodbhaecomfmgaa
open Go.RowKit
open Limb (limb limb_lt upto upto_succ upto_all upto_zero)

def WRootPost (N : Nat) (w : World) (e : Ending) (w' : World) : Prop := ∃ r : Nat, e = .returned (.int .u64 (r : Int)) ∧ r < 4294967296 ∧ Hid (r * r ≤ N ∧ Limb.RootUp N r) ∧ w = w'
set_option maxHeartbeats 1000000 in
theorem rootOfWord_any (N : Nat) (w : World) (h : N < 18446744073709551616) :
    Calls Try.prog 108 #[.int .u64 (N : Int)] w (WRootPost N w) := by
  go_enter Try.func108, Try.ntmps108
  go_wp2_with fail
  go_loopw [3, 4, 5, 6] (fun v _ _ i wr => ∃ (k r : Nat), k ≤ 32 ∧ i = .int .i64 (k : Int) ∧ v = .int .u64 (r : Int) ∧ Hid (Limb.WordRoot N r (2 ^ (32 - k))) ∧ wr = w) (fun _ _ _ i _ => 32 - (intOf i).toNat)
  case atStart => exact ⟨0, 0, by omega, rfl, rfl, Limb.wordRoot_start N h, rfl⟩
  case round =>
    obtain ⟨k, r, hk, rfl, rfl, HW, rfl⟩ := hrel
    by_cases hkl : k < 32
    · obtain ⟨j, hj⟩ : ∃ j, k + j = 31 := ⟨31 - k, by omega⟩
      have hj2 : (31 : Int) - (k : Int) = (j : Int) := by omega
      have e1 : 32 - k = j + 1 := by omega
      rw [e1, Nat.pow_succ, Nat.mul_comm] at HW
      have hp : 0 < 2 ^ j := Nat.pow_pos (by omega)
      obtain ⟨q1, q2⟩ := Limb.wordRoot_sq N r (2 ^ j) HW.out hp
      have hr0 : r % 2 ^ (j + 1) = 0 := by rw [Nat.pow_succ, Nat.mul_comm]; exact HW.out.2.2.1
      have q3 : bits BinOp.or IntKind.u64 (r : Int) ((2 ^ j : Nat) : Int) = ((r + 2 ^ j : Nat) : Int) := by
        rw [u64_or_nat r (2 ^ j) (by omega) (by omega), nat_join (j + 1) r (2 ^ j) hr0 (Nat.pow_lt_pow_right (by omega) (by omega))]
      have w1 : IntKind.u64.wrap ((2 : Int) ^ j) = ((2 ^ j : Nat) : Int) := by
        rw [show (2 : Int) ^ j = ((2 ^ j : Nat) : Int) by rw [Int.natCast_pow]; rfl]
        exact IntWalk.u64_in _ (by omega)
      have q4 : IntKind.u64.wrap (((r + 2 ^ j : Nat) : Int) * ((r + 2 ^ j : Nat) : Int)) = (((r + 2 ^ j) * (r + 2 ^ j) : Nat) : Int) := by
        rw [Int.natCast_mul]
        exact IntWalk.u64_in _ (by rw [← Int.natCast_mul]; omega)
      have e2 : 32 - (k + 1) = j := by omega
      have hyes : Hid ((r + 2 ^ j) * (r + 2 ^ j) ≤ N → Limb.WordRoot N (r + 2 ^ j) (2 ^ (32 - (k + 1)))) := hide (fun hle => by rw [e2]; exact Limb.wordRoot_yes N r (2 ^ j) HW.out hle)
      have hno : Hid (N < (r + 2 ^ j) * (r + 2 ^ j) → Limb.WordRoot N r (2 ^ (32 - (k + 1)))) := hide (fun hgt => by rw [e2]; exact Limb.wordRoot_no N r (2 ^ j) HW.out hgt)
      clear HW hr0 e1 e2
      generalize hsq : (r + 2 ^ j) * (r + 2 ^ j) = S at *
      generalize hnx : r + 2 ^ j = nx at *
      have HSQ := hide hsq
      have HNX := hide hnx
      clear hsq hnx
      generalize 2 ^ j = p at *
      by_cases hle : S ≤ N
      · go_wp2_with fail
        go_roundw
        case rel => exact ⟨k + 1, nx, by omega, by go_num, rfl, hide (hyes.out hle), trivial⟩
        case measure => simp [intOf]; omega
      · go_wp2_with fail
        go_roundw
        case rel => exact ⟨k + 1, r, by omega, by go_num, rfl, hide (hno.out (by omega)), trivial⟩
        case measure => simp [intOf]; omega
    · obtain rfl : k = 32 := by omega
      have hend := hide (Limb.wordRoot_end N r HW.out)
      have hlt : r < 4294967296 := by have := HW.out.2.2.2; omega
      go_wp2_with fail
      go_ret
      exact ⟨r, rfl, hlt, hend, rfl⟩

def RootPost (a : Nat) (w : World) (e : Ending) (w' : World) : Prop := ∃ A n R, e = .returned (.slice A n n) ∧ Own w' w.heap.size A n n R ∧ Hid (R * R ≤ a ∧ Limb.RootUp a R) ∧ Below w.heap.size w w'
def RootFor (k : Nat) : Prop := ∀ (A : Option Addr) (n c : Nat) (xs : List Nat) (w : World), Limb.val xs < k → Nums w A n xs → n ≤ c → c ≤ 9223372036854775807 → n ≤ 1073741824 → Calls Try.prog 38 #[.slice A n c] w (RootPost (Limb.val xs) w)
theorem own_len {w : World} {base : Nat} {A : Option Addr} {n c N k : Nat} (o : Own w base A n c N) (h : N < 4294967296 ^ k) : n ≤ k := short_canon o.nums h
set_option maxHeartbeats 4000000 in
theorem root_any (k : Nat) : RootFor k := by
  induction k with
  | zero => intro A n c xs w h; omega
  | succ k IH =>
  intro A n c xs w hk hx hc hm hb
  have hcut := isCut_det w A xs n hx
  have hdet := trimmed_det A n c xs w hx hc hm
  have hlt := hide hx.lt
  generalize Limb.val xs = a at *
  obtain ⟨-, hle, hN, -⟩ := hcut
  by_cases h2 : L a ≤ 2
  · have hw := word_any (cutA A a) (L a) (L a) _ w hN h2
    rw [Limb.val_canon] at hw
    have ha : a < 18446744073709551616 := by have := lt_two a h2; omega
    go_enter Try.func38, Try.ntmps38
    go_wp2_with fail
    refine hdet.mono ?_
    rintro e w' ⟨rfl, rfl⟩
    go_wp2_with fail
    refine hw.mono ?_
    rintro e w' ⟨rfl, rfl⟩
    go_wp2_with fail
    refine (rootOfWord_any a w ha).mono ?_
    rintro e w' ⟨r, rfl, hr, HR, rfl⟩
    go_wp2_with fail
    refine (of_any r _ (by omega)).mono ?_
    rintro e w1 ⟨A1, n1, rfl, o1, b1⟩
    go_wp2_with fail
    go_ret
    exact ⟨A1, n1, r, rfl, o1, HR, b1⟩
  · have hbig : 18446744073709551616 ≤ a := by
      rcases Nat.lt_or_ge a 18446744073709551616 with h | h
      · exact absurd (L_le (k := 2) (by omega)) h2
      · exact h
    have hbits := bits_any (cutA A a) (L a) (L a) _ w hN (Nat.le_refl _) (by omega) (by omega)
    rw [Limb.val_canon] at hbits
    unfold BitsPost at hbits
    have hbl64 : 64 ≤ Limb.bl a := by
      rcases Nat.lt_or_ge (Limb.bl a) 64 with h | h
      · have h1 := Limb.lt_bl a
        have h3 : 2 ^ Limb.bl a ≤ 2 ^ 63 := Nat.pow_le_pow_right (by omega) (by omega)
        omega
      · exact h
    have hbln : Limb.bl a ≤ 32 * n := Limb.bl_le _ _ (by rw [← Limb.two_pow32]; exact hlt.out)
    generalize Limb.bl a = q at *
    obtain ⟨h, hh, hh1, hh2⟩ : ∃ h : Nat, (q : Int) / 4 = (h : Int) ∧ 16 ≤ h ∧ h ≤ 8 * n := ⟨q / 4, by omega, by omega, by omega⟩
    have hsmall : a / 2 ^ (2 * h) < k := by
      have h4 : a / 2 ^ (2 * h) ≤ a / 2 := Nat.div_le_div_left (by
        have : 2 ^ 1 ≤ 2 ^ (2 * h) := Nat.pow_le_pow_right (by omega) (by omega)
        omega) (by omega)
      omega
    have hright := right_z (cutA A a) (L a) (L a) ((2 * h : Nat) : Int) _ w hN (Nat.le_refl _) (by omega) (by omega) (by omega)
    rw [Limb.val_canon, Int.toNat_natCast] at hright
    have e2h : ((2 * h : Nat) : Int) = 2 * (h : Int) := by omega
    rw [e2h] at hright
    have HS := hide hsmall
    clear e2h hsmall hbl64
    go_enter Try.func38, Try.ntmps38
    go_wp2_with fail
    refine hdet.mono ?_
    rintro e w' ⟨rfl, rfl⟩
    go_wp2_with fail
    refine hbits.mono ?_
    rintro e w' ⟨rfl, rfl⟩
    go_wp2_with fail
    refine hright.mono ?_
    rintro e w1 ⟨A1, n1, rfl, o1, b1⟩
    have l1 : n1 ≤ n := own_len o1 (Nat.lt_of_le_of_lt (Nat.div_le_self _ _) hlt.out)
    go_wp2_with fail
    refine (IH A1 n1 n1 _ w1 (by rw [Limb.val_canon]; exact HS.out) o1.nums (Nat.le_refl _) (by omega) (by omega)).mono ?_
    rintro e w2 ⟨A2, n2, R2, rfl, o2, HR2, b2⟩
    rw [Limb.val_canon] at HR2
    have l2 : n2 ≤ n1 := own_len o2 (by
      have h1 := HR2.out.1
      have h3 : R2 ≤ R2 * R2 := Nat.le_mul_self R2
      have h4 := lt_L (a / 2 ^ (2 * h))
      have h5 : L (a / 2 ^ (2 * h)) = n1 := o1.len.symm
      rw [h5] at h4
      omega)
    have HU0 := hide (Limb.root_start a R2 h HR2.out.2)
    clear HR2
    go_wp2_with fail
    refine (of_any 1 _ (by omega)).mono ?_
    rintro e w3 ⟨A3, n3, rfl, o3, b3⟩
    have l3 : n3 ≤ 1 := short_canon o3.nums (by omega)
    go_wp2_with fail
    refine (add_any A2 A3 n2 n2 n3 n3 _ _ w3 (o2.nums.below b3) (Nat.le_refl _) (by omega) (by omega) o3.nums (Nat.le_refl _) (by omega) (by omega)).mono ?_
    rintro e w4 ⟨A4, n4, rfl, o4, b4⟩
    rw [Limb.val_canon, Limb.val_canon] at o4
    have l4 : n4 ≤ n2 + 1 := own_len o4 (by
      have h4 := lt_L R2
      have h5 : L R2 = n2 := o2.len.symm
      rw [h5] at h4
      rw [Nat.pow_succ]
      omega)
    obtain ⟨l, s, hs, hij⟩ : ∃ j s : Nat, s < 32 ∧ h = 32 * j + s := ⟨h / 32, h % 32, by omega, by omega⟩
    have hsh := shifted_any A4 n4 n4 h l s _ w4 o4.nums (Nat.le_refl _) (by omega) (by omega) hij hs (by omega)
    rw [Limb.val_canon, ← hij] at hsh
    have hl : l ≤ n := by omega
    clear hij hs
    have t4 := ((b1.next b2).next b3).next b4
    clear o1 o2 o3 o4 b1 b2 b3 b4
    go_wp2_with fail
    refine hsh.mono ?_
    rintro e w5 ⟨zs, rfl, hlz, hoz, hrz, hvz, b5⟩
    have HVZ := hide hvz
    have hzlt := Limb.val_lt zs hoz
    rw [HVZ.out] at hzlt
    have HLZ := hide hlz
    clear hvz hlz
    go_wp2_with fail
    refine (trimmed_row w4.heap.size (n4 + l + 1) (n4 + l + 1) ((R2 + 1) * 2 ^ h) w4.heap.size zs w5 hrz hoz (by rw [HLZ.out]; exact Nat.le_refl _) (Nat.le_refl _) (by omega) (Nat.le_refl _) (by rw [List.take_of_length_le (by rw [HLZ.out]; exact Nat.le_refl _), HVZ.out])).mono ?_
    rintro e w' ⟨A6, n6, rfl, o6, rfl⟩
    have o6' := o6.mono t4.size
    have t5 := t4.next b5
    rw [HLZ.out] at hzlt
    have HZ := hide hzlt
    generalize (R2 + 1) * 2 ^ h = r0 at *
    clear o6 hzlt hrz hoz HVZ HLZ hsh t4 b5
    go_wp2_with fail
    go_loopg [4] r0 (fun r v wr => ∃ (m : Nat) (B : Option Addr), v = .slice B m m ∧ Own wr w.heap.size B m m r ∧ Hid (Limb.RootUp a r) ∧ r ≤ r0 ∧ Below w.heap.size w wr)
    case atStart => exact ⟨n6, A6, rfl, o6', HU0, Nat.le_refl _, t5⟩
    case round =>
      clear o6' HU0 t5
      obtain ⟨m, B, rfl, oB, HU, hr0, tr⟩ := hrel
      have hpos : 1 ≤ gk := HU.out 1 (by omega)
      have lm : m ≤ n4 + l + 1 := own_len oB (Nat.lt_of_le_of_lt hr0 HZ.out)
      have hdv := divide_any (cutA A a) B (L a) (L a) m m a gk wr (hN.below tr) (Nat.le_refl _) (by omega) oB.nums (Nat.le_refl _) (by omega) (by omega) (by omega) (by omega)
      go_wp2_with fail
      refine hdv.mono ?_
      rintro e w7 ⟨A7, n7, c7, B7, m7, d7, rfl, o7, _, b7⟩
      have l7 : n7 ≤ n := own_len o7 (Nat.lt_of_le_of_lt (Nat.div_le_self _ _) hlt.out)
      have l7c := o7.2.2.1
      have l7d := o7.2.1
      clear hdv
      go_wp2_with fail
      refine (add_any B A7 m m n7 c7 _ _ w7 (oB.nums.below b7) (Nat.le_refl _) (by omega) (by omega) o7.nums l7d (by omega) (by omega)).mono ?_
      rintro e w8 ⟨A8, n8, rfl, o8, b8⟩
      rw [Limb.val_canon, Limb.val_canon] at o8
      have l8 : n8 ≤ n + n4 + l + 2 := own_len o8 (add_lt _ _ (n + n4 + l + 1) (Nat.lt_of_le_of_lt hr0 (Nat.lt_of_lt_of_le HZ.out (Limb.pow_mono (by omega)))) (Nat.lt_of_le_of_lt (Nat.div_le_self _ _) (Nat.lt_of_lt_of_le hlt.out (Limb.pow_mono (by omega)))))
      have hrt := right_z A8 n8 n8 1 _ w8 o8.nums (Nat.le_refl _) (by omega) (by omega) (by omega)
      rw [Limb.val_canon, show 2 ^ (1 : Int).toNat = 2 from rfl] at hrt
      go_wp2_with fail
      refine hrt.mono ?_
      rintro e w9 ⟨A9, n9, rfl, o9, b9⟩
      clear hrt
      have l9 : n9 ≤ n + n4 + l + 2 := own_len o9 (Nat.lt_of_le_of_lt (Nat.div_le_self _ _) (add_lt _ _ (n + n4 + l + 1) (Nat.lt_of_le_of_lt hr0 (Nat.lt_of_lt_of_le HZ.out (Limb.pow_mono (by omega)))) (Nat.lt_of_le_of_lt (Nat.div_le_self _ _) (Nat.lt_of_lt_of_le hlt.out (Limb.pow_mono (by omega))))))
      have b79 := (b7.next b8).next b9
      have HUN := hide (Limb.root_step a gk hpos HU.out)
      have HST := hide (Limb.root_stop a gk hpos)
      have t9 := tr.next b79
      have o9' := o9.mono ((tr.next b7).next b8).size
      have oB9 := oB.below b79
      clear oB o7 o8 o9 b7 b8 b9 b79 tr
      generalize (gk + a / gk) / 2 = nx at *
      have hcm := cmp_any A9 B n9 n9 m m _ _ w9 o9'.nums (Nat.le_refl _) (by omega) oB9.nums (Nat.le_refl _) (by omega)
      rw [Limb.val_canon, Limb.val_canon] at hcm
      go_wp2_with fail
      refine hcm.mono ?_
      rintro e w' ⟨rfl, j, rfl⟩
      clear hcm
      by_cases hge : gk ≤ nx
      · have hc0 := cmpN_ge hge
        generalize cmpN nx gk = cv at *
        go_wp2_with fail
        go_ret
        exact ⟨B, m, gk, rfl, oB9.below (bl_drewN _ j), hide ⟨HST.out hge, HU.out⟩, t9.next (bl_drewN _ j)⟩
      · have hc0 := cmpN_lt (show nx < gk by omega)
        generalize cmpN nx gk = cv at *
        go_wp2_with fail
        go_roundg nx
        case rel => exact ⟨n9, A9, rfl, o9'.below (bl_drewN _ j), HUN, by omega, t9.next (bl_drewN _ j)⟩
        case measure => omega
end Go.Proofs.Ytodbhaecomfmgaa
