/- Texts of one seat, put together: RefText TextZ ExactZ. -/
import Derived.Test.YtlihnagfmfpdcaaB28
import Derived.Test.YtlihnagfmfpdcaaB22
import Derived.Test.YtlihnagfmfpdcaaB27
/- plumblineref01.Text. -/
namespace Go.Proofs.Ytlihnagfmfpdcaa
open Go.RowKit
open Limb (limb limb_lt upto upto_succ upto_all upto_zero)

theorem Lst.row {w : World} {base : Nat} {v : Value} {xs : List Nat} (h : Lst w base v xs) (hn : 0 < xs.length) : ∃ g c, v = .slice (some ⟨g, 0, none⟩) xs.length c ∧ base ≤ g ∧ xs.length ≤ c ∧ c ≤ 9223372036854775807 := by
  obtain ⟨⟨hl, hc⟩, ho⟩ := h
  rcases hc with ⟨rfl, h0⟩ | ⟨g, cap, cur, rfl, hb, hh, h1, h2, h3, h4⟩
  · omega
  · unfold maxLen at h2
    exact ⟨g, cap, rfl, hb, h1, h2⟩
theorem Lst.cellAt {w : World} {base g c : Nat} {xs : List Nat} (h : Lst w base (.slice (some ⟨g, 0, none⟩) xs.length c) xs) (i : Nat) (hi : i < xs.length) :
    w.cell? ⟨g, i, none⟩ = some (.int .u32 ((xs.getD i 0 : Nat) : Int)) ∧ w.frozen? ⟨g, i, none⟩ = false := by
  refine ⟨?_, h.1.frozenAt i⟩
  rw [h.1.cellAt i (by omega), u32s_get xs i hi]
theorem Lst.storeAt {w : World} {base g c : Nat} {xs : List Nat} (h : Lst w base (.slice (some ⟨g, 0, none⟩) xs.length c) xs) (i y : Nat) (hy : y < 4294967296) :
    Lst (w.setCell ⟨g, i, none⟩ (.int .u32 (y : Int))) base (.slice (some ⟨g, 0, none⟩) (xs.set i y).length c) (xs.set i y) := by
  have h1 := h.1.stored i (.int .u32 (y : Int))
  refine ⟨?_, h.2.set i y hy⟩
  rw [List.length_set]
  have e : u32s (xs.set i y) = (u32s xs).set i (.int .u32 (y : Int)) := by simp [u32s, List.map_set]
  rw [e]
  exact h1.1
theorem conv_one (W : World) (v : Int) : (convert 63 9 (.slice (some ⟨W.heap.size, 0, none⟩) 1 1)).run Try.prog (W.alloc (.cells #[.int .u8 v] 5)) = .ok (.string (strOfNums [v])) (W.alloc (.cells #[.int .u8 v] 5)) :=
  run_convert_bytes_arg _ _ 5 Try.underlying63 Try.underlying5 W.heap.size 0 1 1 [v] rfl (fun i hi => by
    obtain rfl : i = 0 := by omega
    simp) _ Try.underlying9
theorem str_cons (x : Nat) (xs : List Nat) : strOfNums [(x : Int)] ++ Dec.str xs = Dec.str (x :: xs) := by
  unfold Dec.str strOfNums
  apply ByteArray.ext
  simp
/-- The loop that divides by ten. -/
def DTRel (X m base : Nat) (v : Value) (w : World) (k z : Nat) (wr : World) : Prop :=
  ∃ cur : List Nat, cur.length = m ∧ Lst wr base v cur ∧ Below base w wr ∧ z < 10 ∧ Limb.val ((Limb.canon X).drop k) = 10 * Limb.val (cur.drop k) + z
theorem DTRel.start {X m base : Nat} {v : Value} {w wr : World} (h : Lst wr base v (List.replicate m 0)) (hb : Below base w wr) (hm : m = (Limb.canon X).length) : DTRel X m base v w m 0 wr :=
  ⟨_, List.length_replicate, h, hb, by omega, by rw [List.drop_of_length_le (by omega), List.drop_of_length_le (by rw [List.length_replicate]; exact Nat.le_refl _)]; rfl⟩
theorem DTRel.step {X m base : Nat} {v : Value} {w : World} {k z : Nat} {wr : World} (h : DTRel X m base v w (k + 1) z wr) (hm : m = (Limb.canon X).length) (hk : k < m) :
    ∃ g c, v = .slice (some ⟨g, 0, none⟩) m c ∧ (∃ b : Nat, wr.cell? ⟨g, k, none⟩ = some (.int .u32 (b : Int))) ∧ wr.frozen? ⟨g, k, none⟩ = false ∧ z < 10 ∧ 
      ∀ q t : Nat, q < 4294967296 → t < 10 → 10 * q + t = z * 4294967296 + limb (Limb.canon X) k → DTRel X m base v w k t (wr.setCell ⟨g, k, none⟩ (.int .u32 (q : Int))) := by
  obtain ⟨cur, hl, hL, hB, hz, hv⟩ := h
  obtain ⟨g, c, rfl, hb, -, -⟩ := hL.row (by omega)
  have hc := hL.cellAt k (by omega)
  refine ⟨g, c, by rw [hl], ⟨_, hc.1⟩, hc.2, hz, fun q t hq ht hqt => ⟨cur.set k q, by simp [hl], ?_, hB.setCell hb _, ht, ?_⟩⟩
  · have := hL.storeAt k q hq
    rw [List.length_set] at this
    exact this
  rw [val_drop_limb (Limb.canon X) k (by omega), val_drop_limb (cur.set k _) k (by simp; omega), drop_set_succ]
  have e3 : limb (cur.set k q) k = q := by
    unfold limb
    rw [List.getD_eq_getElem?_getD, List.getElem?_set_self (by omega)]; rfl
  rw [e3]
  exact db_alg 10 z _ _ _ q t hv hqt
theorem DTRel.old {X m base : Nat} {v : Value} {w : World} {k z : Nat} {wr : World} (h : DTRel X m base v w k z wr) : Below base w wr := by
  obtain ⟨cur, _, _, hB, _⟩ := h
  exact hB
theorem DTRel.done {X m base : Nat} {v : Value} {w : World} {z : Nat} {wr : World} (h : DTRel X m base v w 0 z wr) : ∃ B c ys, v = .slice B m c ∧ Nums wr B m ys ∧ Below base w wr ∧ Limb.val ys = X / 10 ∧ z = X % 10 := by
  obtain ⟨cur, hl, hL, hB, hz, hv⟩ := h
  obtain ⟨B, c, rfl, hN, -, -⟩ := hL.form
  rw [List.drop_zero, List.drop_zero, Limb.val_canon] at hv
  refine ⟨B, c, cur, by rw [hl], by rw [hl] at hN; exact hN, hB, by omega, by omega⟩
theorem dlen_room {N m : Nat} (h : N < 4294967296 ^ m) : Dec.dlen N ≤ 10 * m + 1 := by
  obtain ⟨h1, h2, h3⟩ := Dec.dlen_is N
  rcases h3 with h3 | h3
  · omega
  · have := Dec.digits_room N m _ h h3
    omega
theorem empty_bytes {N : Nat} : (Dec.str (Dec.low N 0)).toList = [] := by
  rw [Lib.toList_data, Dec.str_data]; rfl
theorem ten_split (z x : Nat) (hz : z < 10) (hx : x < 4294967296) : ∃ q t : Nat, q < 4294967296 ∧ t < 10 ∧ 10 * q + t = z * 4294967296 + x ∧ ((z : Int) * 4294967296 + (x : Int)) / 10 = (q : Int) ∧ ((z : Int) * 4294967296 + (x : Int)) % 10 = (t : Int) :=
  ⟨(z * 4294967296 + x) / 10, (z * 4294967296 + x) % 10, by omega, by omega, by omega, by omega, by omega⟩
theorem len_more {N i : Nat} (h : N / 10 ^ i ≠ 0) : i + 1 ≤ Dec.dlen N := by
  obtain ⟨h1, h2, h3⟩ := Dec.dlen_is N
  rcases Nat.lt_or_ge i (Dec.dlen N) with h4 | h4
  · exact h4
  · exact absurd (Nat.div_eq_of_lt (Nat.lt_of_lt_of_le h2 (Nat.pow_le_pow_right (by omega) h4))) h
def RTx (N : Nat) (w : World) (i k : Nat) (va vb : Value) (wr : World) : Prop :=
  ∃ (X m c : Nat) (B : Option Addr), va = .slice B m c ∧ vb = .string (Dec.str (Dec.low N i)) ∧ X = N / 10 ^ i ∧ k = X + (if i = 0 then 1 else 0) ∧ i ≤ Dec.dlen N ∧ Nums wr B m (Limb.canon X) ∧ m ≤ c ∧ c ≤ 9223372036854775807 ∧ m ≤ 1099511627776 ∧ Below w.heap.size w wr
set_option maxHeartbeats 4000000 in
theorem refText_any (A : Option Addr) (n c : Nat) (xs : List Nat) (w : World) (hx : Nums w A n xs) (hn : n ≤ 1099511627776) :
    Calls Try.prog 20 #[.slice A n c] w (TextPost (Limb.val xs) w) := by
  have ht := rtrim_any A n c xs w hx hn
  have hNlt := hide hx.lt
  generalize Limb.val xs = N at *
  go_enter Try.func20, Try.ntmps20
  go_wp2_with fail
  refine ht.mono ?_
  rintro e w1 ⟨A1, n1, c1, rfl, o1, l1, m1, b1⟩
  have hn1 : n1 ≤ n := short_canon o1 hNlt.out
  clear ht hx
  go_wp2_with fail
  go_loopg [3, 4] (N + 1) (fun k va vb wr => ∃ i, Hid (RTx N w i k va vb wr))
  case atStart => exact ⟨0, N, n1, c1, A1, rfl, rfl, by simp, by simp, Nat.zero_le _, o1, l1, m1, by omega, b1⟩
  case round =>
    clear o1 l1 m1 b1 hn1
    obtain ⟨i, X, m, c, B, rfl, rfl, hX, hk, hid, hB, hmc, hc9, hm, t1⟩ := hrel
    have HX := hide hX
    have HM := hide hB.len
    have HKK := hide hk
    have HID := hide hid
    clear hX hk hid
    by_cases hend : i ≠ 0 ∧ X = 0
    · obtain ⟨hi0, rfl⟩ := hend
      obtain rfl : m = 0 := HM.out.symm
      have hD := hide (show i = Dec.dlen N by
        have h1 := HX.out
        have h2 : N < 10 ^ i := by
          rcases Nat.lt_or_ge N (10 ^ i) with h2 | h2
          · exact h2
          · have := Nat.div_pos h2 (Nat.pow_pos (by omega)); omega
        have := dlen_le h2 (by omega)
        have := HID.out
        omega)
      have hne1 : (Dec.str (Dec.low N i)).toList.isEmpty = false := by
        rw [isEmpty_size, Dec.str_size, Dec.low_length]; simpa using hi0
      obtain ⟨sb, hsb⟩ : ∃ sb, sb = Dec.str (Dec.low N i) := ⟨_, rfl⟩
      rw [← hsb] at hne1 ⊢
      have HSB := hide hsb
      clear hsb hi0
      go_wp2_with fail
      go_ret
      exact ⟨by rw [HSB.out, hD.out]; rfl, t1⟩
    · have hlow := hide (show Dec.low N (i + 1) = (48 + X % 10) :: Dec.low N i by rw [Dec.low, HX.out])
      have hmore := hide (show i + 1 ≤ Dec.dlen N by
        by_cases hi0 : i = 0
        · have := Dec.dlen_pos N; omega
        · exact len_more (by rw [← HX.out]; exact fun h => hend ⟨hi0, h⟩))
      have hmeas := hide (show X / 10 + (if i + 1 = 0 then 1 else 0) < gk by
        rw [HKK.out, if_neg (by omega)]
        by_cases hi0 : i = 0
        · rw [if_pos hi0]; omega
        · rw [if_neg hi0]; have : X ≠ 0 := fun h => hend ⟨hi0, h⟩; omega)
      have hstr := str_cons (48 + X % 10) (Dec.low N i)
      rw [← hlow.out] at hstr
      obtain ⟨sb, hsb⟩ : ∃ sb, sb = Dec.str (Dec.low N i) := ⟨_, rfl⟩
      have hdisj : (sb.toList = [] ∧ sb.toList.isEmpty = true) ∨ (sb.toList.isEmpty = false ∧ 0 < m) := by
        rw [hsb]
        by_cases hi0 : i = 0
        · subst hi0; left; exact ⟨empty_bytes, by rw [empty_bytes]; rfl⟩
        · right
          refine ⟨by rw [isEmpty_size, Dec.str_size, Dec.low_length]; simpa using hi0, ?_⟩
          rcases Nat.eq_zero_or_pos m with h | h
          · exact absurd ((Limb.canon_len_zero X).1 (by rw [HM.out]; exact h)) (fun h => hend ⟨hi0, h⟩)
          · exact h
      rw [← hsb] at hstr ⊢
      have HSTR := hide hstr
      have hsbz := hide (show sb.size = i by rw [hsb, Dec.str_size, Dec.low_length])
      clear hsb hend hstr hlow
      obtain ⟨wo, rfl⟩ : ∃ wo : World, wo = wr := ⟨_, rfl⟩
      rcases hdisj with ⟨he1, he2⟩ | ⟨he1, he2⟩
      all_goals
        go_wp2_with fail
        clear he1 he2
        go_loopw [6, 7] (fun v i wq => ∃ t : Nat, t ≤ m ∧ i = .int .i64 (t : Int) ∧ Lst wq wo.heap.size v (List.replicate t 0) ∧ Below wo.heap.size wo wq) (fun _ i _ => m - (intOf i).toNat)
        case atStart => exact ⟨0, Nat.zero_le _, rfl, Lst.empty wo _ (Nat.le_refl _), bl_alloc wo _⟩
        case round =>
          obtain ⟨t, ht, rfl, hL, hB2⟩ := hrel
          have hlen : (List.replicate t 0).length ≤ 4398046511104 := by rw [List.length_replicate]; omega
          by_cases htl : t < m
          · go_wp2_with (at_builtin; refine wpList_append_u32 _ rfl _ _ rfl wo.heap.size _ _ rfl (hL.alloc _) _ 0 rfl (cell_new' _ _ _ _ rfl) (by omega) hlen (by have := hB2.size; simp; omega) ?_; intro v' w1 hL1 hB1)
            go_roundw
            case rel => exact ⟨t + 1, by omega, by go_num, by rw [zeros_more] at hL1; exact hL1, (hB2.alloc hB2.size _).trans hB1⟩
            case measure => simp [intOf] <;> omega
          · obtain rfl : t = m := by omega
            clear hlen
            have R := hide (DTRel.start hL hB2 HM.out.symm)
            obtain ⟨A6, c6, rfl, hN6, hl6, hc6⟩ := hL.form
            rw [List.length_replicate] at R ⊢
            clear hL hB2 hN6 hl6 hc6
            go_wp2_with fail
            go_loopw [5, 8, 9] (fun s v v9 wq => ∃ k z : Nat, k ≤ t ∧ v = .int .i64 ((k : Int) - 1) ∧ s = .int .u64 (z : Int) ∧ z < 10 ∧ Hid (DTRel X t wo.heap.size (.slice A6 t c6) wo k z wq)) (fun _ v _ _ => (intOf v + 1).toNat)
            case atStart => exact ⟨t, 0, Nat.le_refl _, rfl, rfl, by omega, R⟩
            case round =>
              clear R
              obtain ⟨k, z, hkt, rfl, rfl, hz, R⟩ := hrel
              by_cases hk0 : 0 < k
              · obtain ⟨k1, rfl⟩ : ∃ k1, k = k1 + 1 := ⟨k - 1, by omega⟩
                obtain ⟨g7, c7, hv7, ⟨b7, hcell⟩, hfroz, -, hstep⟩ := R.out.step HM.out.symm (by omega)
                injection hv7 with hv7 _ hv8
                subst hv7 hv8
                have hB7 := hB.below (R.out.old)
                obtain ⟨bB, oB, x, rfl, hx, hxe, hxc⟩ := hB7.at_ (show k1 < t by omega)
                obtain ⟨q, tt, hq, htt, hqt, eq1, et1⟩ := ten_split z x hz hx
                have HS := hide (hstep q tt hq htt (by rw [hqt, hxe]; rfl))
                have EQ := hide eq1
                have ET := hide et1
                clear hstep hqt eq1 et1 hxe hB7
                go_wp2_with fail
                rw [EQ.out, ET.out]
                go_roundw
                case rel => exact ⟨k1, tt, by omega, rfl, rfl, htt, HS.out⟩
                case measure => simp [intOf]
              · obtain rfl : k = 0 := by omega
                clear hk0
                obtain ⟨B7, c7, ys, hv7, hN7, hB7, hval7, hz7⟩ := R.out.done
                injection hv7 with hv7 _ hv8
                subst hv7 hv8
                have HV := hide hval7
                have HZ := hide hz7
                have hcv := fun v => conv_one wr v
                have hsz : (strOfNums [48 + (z : Int)]).size + sb.size ≤ 9223372036854775807 := by
                  rw [strOfNums_size]
                  have h1 := hsbz.out
                  have h2 := dlen_room hNlt.out
                  have h3 := HID.out
                  simp only [List.length_cons, List.length_nil]
                  omega
                clear hval7 hz7 R
                go_wp2_with fail
                refine (rtrim_any A6 t c6 ys _ (hN7.alloc _) (by omega)).mono ?_
                rintro e w8 ⟨A8, n8, c8, rfl, o8, l8, m8, b8⟩
                rw [HV.out] at o8
                have hn8 : n8 ≤ t := by rw [← o8.len, ← HM.out]; exact Limb.canon_len_mono (Nat.div_le_self _ _)
                have hs8 := hide (show strOfNums [48 + (z : Int)] ++ sb = Dec.str (Dec.low N (i + 1)) by rw [← HSTR.out, HZ.out]; rfl)
                have t8 := (t1.next (hB7.next (bl_alloc wr _))).next b8
                clear hcv
                go_wp2_with fail
                rw [hs8.out]
                go_roundg (X / 10 + (if i + 1 = 0 then 1 else 0))
                case rel => exact ⟨i + 1, X / 10, n8, c8, A8, rfl, rfl, by rw [HX.out, Nat.div_div_eq_div_mul, Nat.pow_succ], rfl, hmore.out, o8, l8, m8, by omega, t8⟩
                case measure => exact hmeas.out
end Go.Proofs.Ytlihnagfmfpdcaa
/- zint.Text, plumblineref02.Text. -/
namespace Go.Proofs.Ytlihnagfmfpdcaa
open Go.RowKit

def ztext (Z : Int) : ByteArray := if Z < 0 then ⟨#[45]⟩ ++ Dec.text Z.natAbs else Dec.text Z.natAbs
theorem ztext_neg {Z : Int} (h : Z < 0) : ztext Z = ⟨#[45]⟩ ++ Dec.text Z.natAbs := by unfold ztext; rw [if_pos h]
theorem ztext_pos {Z : Int} (h : ¬ Z < 0) : ztext Z = Dec.text Z.natAbs := by unfold ztext; rw [if_neg h]
def ZTextPost (Z : Int) (w : World) (e : Ending) (w' : World) : Prop := e = .returned (.string (ztext Z)) ∧ Below w.heap.size w w'
theorem text_room {Z : Int} {k : Nat} (h : Z.natAbs < 4294967296 ^ k) (hk : k ≤ 1099511627776) : (⟨#[45]⟩ : ByteArray).size + (Dec.text Z.natAbs).size ≤ 9223372036854775807 := by
  rw [Dec.text_size]
  have := dlen_room h
  show 1 + _ ≤ _
  omega
set_option maxHeartbeats 1000000 in
theorem ztext_z (v : Value) (Z : Int) (k : Nat) (w : World) (hv : ZIn w v Z k) (hk : k ≤ 1099511627776) : Calls Try.prog 35 #[v] w (ZTextPost Z w) := by
  have hv0 := hv
  have hroom := text_room hv.lt hk
  obtain ⟨s, A, n, c, xs, rfl, hx, hc, hm, hn, hZ⟩ := hv
  obtain ⟨z1, z2, z3⟩ := zstart1 w #[.bool s, .slice A n c]
  have ht := natText_any A n c xs _ (hx.below z2) hc hm (by omega)
  unfold TextPost at ht
  rw [ZIn.abs hZ] at ht
  have HS := hide (fun W (hb : Below w.heap.size w W) => sign_z _ Z k W (hv0.below hb) hk)
  unfold SignPost at HS
  have HN := hide (fun (h : Z < 0) => ztext_neg h)
  have HP := hide (fun (h : ¬ Z < 0) => ztext_pos h)
  clear hx hZ hv0
  generalize Dec.text Z.natAbs = d at *
  by_cases h0 : Z < 0
  · have hs : Z.sign < 0 := by rw [Int.sign_eq_neg_one_of_neg h0]; omega
    have HE := HN.out h0
    generalize Z.sign = sgn at *
    have HE2 := hide HE
    clear h0 HE HN HP
    go_enter Try.func35, Try.ntmps35
    go_wp2_with fail
    refine ht.mono ?_
    rintro e w1 ⟨rfl, b1⟩
    have k1 := z1.next b1
    have k1a := k1.c0
    have k1b := k1.c1
    have t1 := z2.next b1
    clear ht
    go_wp2_with fail
    refine (HS.out w1 t1).mono ?_
    rintro e w2 ⟨rfl, b2⟩
    clear k1a k1b
    go_wp2_with fail
    go_ret
    exact ⟨by rw [HE2.out]; rfl, t1.next b2⟩
  · have hs : ¬ Z.sign < 0 := fun h => h0 (Int.sign_neg_iff.1 h)
    have HE := HP.out h0
    generalize Z.sign = sgn at *
    have HE2 := hide HE
    clear h0 HE HN HP hroom
    go_enter Try.func35, Try.ntmps35
    go_wp2_with fail
    refine ht.mono ?_
    rintro e w1 ⟨rfl, b1⟩
    have k1 := z1.next b1
    have k1a := k1.c0
    have k1b := k1.c1
    have t1 := z2.next b1
    clear ht
    go_wp2_with fail
    refine (HS.out w1 t1).mono ?_
    rintro e w2 ⟨rfl, b2⟩
    clear k1a k1b
    go_wp2_with fail
    go_ret
    exact ⟨by rw [HE2.out]; rfl, t1.next b2⟩
set_option maxHeartbeats 1000000 in
theorem rztext_z (v : Value) (Z : Int) (k : Nat) (w : World) (hv : ZIn w v Z k) (hk : k ≤ 1099511627776) : Calls Try.prog 36 #[v] w (ZTextPost Z w) := by
  have hv0 := hv
  have hroom := text_room hv.lt hk
  obtain ⟨s, A, n, c, xs, rfl, hx, hc, hm, hn, hZ⟩ := hv
  obtain ⟨z1, z2, z3⟩ := zstart1 w #[.bool s, .slice A n c]
  have HT := hide (fun W (hb : Below w.heap.size w W) => (show Calls Try.prog 20 #[.slice A n c] W (TextPost Z.natAbs W) by rw [← ZIn.abs hZ]; exact refText_any A n c xs W (hx.below hb) (by omega)))
  unfold TextPost at HT
  have hs0 := rsign_z _ Z k _ (hv0.below z2) hk
  unfold RSignPost at hs0
  have HN := hide (fun (h : Z < 0) => ztext_neg h)
  have HP := hide (fun (h : ¬ Z < 0) => ztext_pos h)
  clear hx hZ hv0
  generalize Dec.text Z.natAbs = d at *
  by_cases h0 : Z < 0
  · have hs : Z.sign < 0 := by rw [Int.sign_eq_neg_one_of_neg h0]; omega
    have HE := HN.out h0
    generalize Z.sign = sgn at *
    have HE2 := hide HE
    clear h0 HE HN HP
    go_enter Try.func36, Try.ntmps36
    go_wp2_with fail
    refine hs0.mono ?_
    rintro e w1 ⟨rfl, b1⟩
    have k1 := z1.next b1
    have k1a := k1.c0
    have k1b := k1.c1
    have t1 := z2.next b1
    clear hs0
    go_wp2_with fail
    refine (HT.out w1 t1).mono ?_
    rintro e w2 ⟨rfl, b2⟩
    clear k1a k1b
    go_wp2_with fail
    go_ret
    exact ⟨by rw [HE2.out]; rfl, t1.next b2⟩
  · have hs : ¬ Z.sign < 0 := fun h => h0 (Int.sign_neg_iff.1 h)
    have HE := HP.out h0
    generalize Z.sign = sgn at *
    have HE2 := hide HE
    clear h0 HE HN HP hroom
    go_enter Try.func36, Try.ntmps36
    go_wp2_with fail
    refine hs0.mono ?_
    rintro e w1 ⟨rfl, b1⟩
    have k1 := z1.next b1
    have k1a := k1.c0
    have k1b := k1.c1
    have t1 := z2.next b1
    clear hs0
    go_wp2_with fail
    refine (HT.out w1 t1).mono ?_
    rintro e w2 ⟨rfl, b2⟩
    clear k1a k1b
    go_wp2_with fail
    go_ret
    exact ⟨by rw [HE2.out]; rfl, t1.next b2⟩
end Go.Proofs.Ytlihnagfmfpdcaa
/- zint: Exact, Hat. -/
namespace Go.Proofs.Ytlihnagfmfpdcaa
open Go.RowKit

theorem two_made (w1 : World) (X Y : Array Value) : Blk ((w1.alloc (.cells X 38)).alloc (.cells Y 38)) w1.heap.size X ∧ Blk ((w1.alloc (.cells X 38)).alloc (.cells Y 38)) (w1.heap.size + 1) Y ∧ Below w1.heap.size w1 ((w1.alloc (.cells X 38)).alloc (.cells Y 38)) :=
  ⟨(Blk.new w1 X).alloc _, Blk.newAt _ _ (by simp only [size_alloc]), (bl_alloc w1 _).next (bl_alloc _ _)⟩
set_option maxHeartbeats 1000000 in
theorem exact_no (v u : Value) (Z : Int) (k j : Nat) (w : World) (hv : ZIn w v Z k) (hu : ZIn w u 0 j) : Calls Try.prog 44 #[v, u] w (ZErr 10 w) := by
  have hv0 := hv
  have hu0 := hu
  obtain ⟨s, A, n, c, xs, rfl, -⟩ := hv
  obtain ⟨t, B, m, d, ys, rfl, -⟩ := hu
  obtain ⟨x0, y0, r0, z2, -⟩ := zstart3 w #[.bool s, .slice A n c] #[.bool t, .slice B m d] #[.bool false, .slice none 0 0]
  have hd := zdiv_no _ _ Z k j _ (hv0.below z2) (hu0.below z2)
  go_enter Try.func44, Try.ntmps44
  go_wp2_with fail
  refine hd.mono ?_
  rintro e w1 ⟨rfl, b1⟩
  obtain ⟨q2, p2, t2⟩ := two_made w1 #[.bool false, .slice none 0 0] #[.bool false, .slice none 0 0]
  have k2 := hide ((r0.next b1).next t2)
  have t3 := hide ((z2.next b1).next t2)
  clear q2 p2 t2 hd
  go_wp2_with (with_reducible refine wpList_store_z rfl _ _ rfl (w.heap.size + 1 + 1) _ _ _ _ rfl rfl _ _ k2.out ?_; intro w3 k3 ho3)
  exact bodyPost_ze rfl rfl rfl k3 rfl ⟨rfl, zback t3.out (by omega) ho3⟩
set_option maxHeartbeats 2000000 in
theorem exact_odd (v u : Value) (Z Y : Int) (k j : Nat) (w : World) (hv : ZIn w v Z k) (hu : ZIn w u Y j) (hY : Y ≠ 0) (hk : k ≤ 68719476736) (hj : j ≤ 68719476736) (h0 : Z.fmod Y ≠ 0) : Calls Try.prog 44 #[v, u] w (ZErr 1 w) := by
  have hv0 := hv
  have hu0 := hu
  obtain ⟨s, A, n, c, xs, rfl, -⟩ := hv
  obtain ⟨t, B, m, d, ys, rfl, -⟩ := hu
  obtain ⟨x0, y0, r0, z2, -⟩ := zstart3 w #[.bool s, .slice A n c] #[.bool t, .slice B m d] #[.bool false, .slice none 0 0]
  have hd := zdiv_yes _ _ Z Y k j _ (hv0.below z2) (hu0.below z2) hY hk hj
  have hsn := sign_ne h0
  clear hY h0
  go_enter Try.func44, Try.ntmps44
  go_wp2_with fail
  refine hd.mono ?_
  rintro e w1 ⟨u1, v1, rfl, zq, zr, b1⟩
  obtain ⟨s1, A1, n1, c1, rfl⟩ := zq.form
  obtain ⟨s2, A2, n2, c2, rfl⟩ := zr.form
  obtain ⟨q2, p2, t2⟩ := two_made w1 #[.bool s1, .slice A1 n1 c1] #[.bool s2, .slice A2 n2 c2]
  have hs := sign_z _ _ j _ (zr.in_.below t2) (by omega)
  unfold SignPost at hs
  have k2 := hide ((r0.next b1).next t2)
  have t3 := hide ((z2.next b1).next t2)
  clear q2 p2 t2 hd zq zr
  generalize (Z.fmod Y).sign = sgn at *
  go_wp2_with fail
  refine hs.mono ?_
  rintro e w3 ⟨rfl, b3⟩
  have k3 := hide (k2.out.next b3)
  have t4 := hide (t3.out.next b3)
  clear hs k2 t3
  go_wp2_with (with_reducible refine wpList_store_z rfl _ _ rfl (w.heap.size + 1 + 1) _ _ _ _ rfl rfl _ _ k3.out ?_; intro w4 k4 ho4)
  exact bodyPost_ze rfl rfl rfl k4 rfl ⟨rfl, zback t4.out (by omega) ho4⟩
set_option maxHeartbeats 2000000 in
theorem exact_even (v u : Value) (Z Y : Int) (k j : Nat) (w : World) (hv : ZIn w v Z k) (hu : ZIn w u Y j) (hY : Y ≠ 0) (hk : k ≤ 68719476736) (hj : j ≤ 68719476736) (h0 : Z.fmod Y = 0) : Calls Try.prog 44 #[v, u] w (ZOk (Z.fdiv Y) k w) := by
  have hv0 := hv
  have hu0 := hu
  obtain ⟨s, A, n, c, xs, rfl, -⟩ := hv
  obtain ⟨t, B, m, d, ys, rfl, -⟩ := hu
  obtain ⟨x0, y0, r0, z2, -⟩ := zstart3 w #[.bool s, .slice A n c] #[.bool t, .slice B m d] #[.bool false, .slice none 0 0]
  have hd := zdiv_yes _ _ Z Y k j _ (hv0.below z2) (hu0.below z2) hY hk hj
  have H0 := hide h0
  clear hY h0
  go_enter Try.func44, Try.ntmps44
  go_wp2_with fail
  refine hd.mono ?_
  rintro e w1 ⟨u1, v1, rfl, zq, zr, b1⟩
  obtain ⟨s1, A1, n1, c1, rfl⟩ := zq.form
  obtain ⟨s2, A2, n2, c2, rfl⟩ := zr.form
  obtain ⟨q2, p2, t2⟩ := two_made w1 #[.bool s1, .slice A1 n1 c1] #[.bool s2, .slice A2 n2 c2]
  have hs := sign_z _ _ j _ (zr.in_.below t2) (by omega)
  unfold SignPost at hs
  rw [H0.out, Int.sign_zero] at hs
  have k2 := hide ((r0.next b1).next t2)
  have t3 := hide ((z2.next b1).next t2)
  have Q2 := hide q2
  have zq2 := hide (zq.below t2)
  clear q2 p2 t2 hd zq zr H0
  go_wp2_with fail
  refine hs.mono ?_
  rintro e w3 ⟨rfl, b3⟩
  have k3 := hide (k2.out.next b3)
  have t4 := hide (t3.out.next b3)
  have q3 := Q2.out.next b3
  have q3a := q3.c0
  have q3b := q3.c1
  have z3 := hide (zq2.out.below b3)
  clear hs k2 t3
  go_wp2_with (with_reducible refine wpList_store_z rfl _ _ rfl (w.heap.size + 1 + 1) _ _ _ _ rfl rfl _ _ k3.out ?_; intro w4 k4 ho4)
  exact bodyPost_ze rfl rfl rfl k4 rfl ⟨_, rfl, z3.out.only k3.out ho4, zback t4.out (by omega) ho4⟩
end Go.Proofs.Ytlihnagfmfpdcaa
