/- plumblineref01: Bit at any int, Left, Right, Pow. -/
import Derived.Test.YtodbhaecomfmgaaMove
import Derived.Test.YtodbhaecomfmgaaPow
import Derived.Test.YtodbhaecomfmgaaRefM
namespace Go.Proofs.Ytodbhaecomfmgaa
open Go.RowKit
open Limb (limb limb_lt upto upto_succ upto_all upto_zero)

theorem rbit_int (A : Option Addr) (n c : Nat) (xs : List Nat) (i : Int) (w : World) (hx : Nums w A n xs) (hn : n ≤ 1099511627776) (hlo : -9223372036854775808 ≤ i) (hi : i ≤ 9223372036854775807) :
    Calls Try.prog 28 #[.slice A n c, .int .i64 i] w (BoolPost (bitAt (Limb.val xs) i) w) := by
  by_cases h0 : 0 ≤ i
  · obtain ⟨i, rfl⟩ := Int.eq_ofNat_of_zero_le h0
    rw [bitAt_nat]
    exact rbit_any A n c xs i w hx hn (by omega)
  · have HF := hide (bitAt_neg (Limb.val xs) i (by omega))
    go_enter Try.func28, Try.ntmps28
    go_wp2_with fail
    go_ret
    exact ⟨by rw [HF.out]; rfl, 0, rfl⟩

theorem rleft_arg (A : Option Addr) (n c : Nat) (i : Int) (w : World) (h : i < 0) : Calls Try.prog 20 #[.slice A n c, .int .i64 i] w (ErrPost 1 w) := by
  go_enter Try.func20, Try.ntmps20
  go_wp2_with fail
  go_ret2
  exact ⟨rfl, rfl⟩
theorem rleft_long (A : Option Addr) (n c : Nat) (i : Int) (w : World) (h : 1048576 < i) : Calls Try.prog 20 #[.slice A n c, .int .i64 i] w (ErrPost 2 w) := by
  go_enter Try.func20, Try.ntmps20
  go_wp2_with fail
  go_ret2
  exact ⟨rfl, rfl⟩

/-- A reference's number beside an error's number of 0. -/
def RefTwoPost (N : Nat) (w : World) (e : Ending) (w' : World) : Prop := ∃ A n c, e = .returned (.tuple #[.slice A n c, .int .i64 0]) ∧ Nums w' A n (Limb.canon N) ∧ n ≤ c ∧ c ≤ 9223372036854775807 ∧ Below w.heap.size w w'
theorem zeros_val (l : Nat) (xs : List Nat) : Limb.val (List.replicate l 0 ++ xs) = 2 ^ (32 * l) * Limb.val xs := by
  rw [Limb.val_append, Limb.val_replicate, List.length_replicate, Limb.two_pow32]; omega
theorem zeros_snoc (l : Nat) : List.replicate l 0 ++ [0] = List.replicate (l + 1) 0 := by
  rw [List.replicate_succ']
set_option maxHeartbeats 4000000 in
theorem rleft_any (A : Option Addr) (n c i : Nat) (xs : List Nat) (w : World) (hx : Nums w A n xs) (hn : n ≤ 1073741824) (hi : i ≤ 1048576) :
    Calls Try.prog 20 #[.slice A n c, .int .i64 (i : Int)] w (RefTwoPost (Limb.val xs * 2 ^ i) w) := by
  obtain ⟨l, s, hs, hij⟩ : ∃ j s : Nat, s < 32 ∧ i = 32 * j + s := ⟨i / 32, i % 32, by omega, by omega⟩
  have en : (i : Int) / 32 = (l : Int) := by omega
  have em : (i : Int) % 32 = (s : Int) := by omega
  have HI := hide hij
  clear hij
  go_enter Try.func20, Try.ntmps20
  go_wp2_with fail
  go_loopw [6, 7] (fun v i wr => ∃ t : Nat, t ≤ l ∧ i = .int .i64 (t : Int) ∧ Lst wr w.heap.size v (List.replicate t 0) ∧ Below w.heap.size w wr) (fun _ i _ => l - (intOf i).toNat)
  case atStart => exact ⟨0, Nat.zero_le _, rfl, Lst.empty w _ (Nat.le_refl _), bl_alloc w _⟩
  case round =>
    obtain ⟨t, ht, rfl, hL, hB⟩ := hrel
    have hlen : (List.replicate t 0).length ≤ 4398046511104 := by rw [List.length_replicate]; have := HI.out; omega
    by_cases htl : t < l
    · go_wp2_with (at_builtin; refine wpList_append_u32 _ rfl _ _ rfl w.heap.size _ _ rfl (hL.alloc _) _ 0 rfl (cell_new' _ _ _ _ rfl) (by omega) hlen (by have := hB.size; simp; omega) ?_; intro v' w1 hL1 hB1)
      go_roundw
      case rel => exact ⟨t + 1, by omega, by go_num, by rw [zeros_snoc] at hL1; exact hL1, (hB.alloc hB.size _).trans hB1⟩
      case measure => simp [intOf] <;> omega
    · obtain rfl : t = l := by omega
      clear hlen
      go_wp2_with fail
      go_loopw [6, 8] (fun v i wr => ∃ q : Nat, q ≤ n ∧ i = .int .i64 (q : Int) ∧ Lst wr w.heap.size v (List.replicate t 0 ++ xs.take q) ∧ Below w.heap.size w wr) (fun _ i _ => n - (intOf i).toNat)
      case atStart => exact ⟨0, Nat.zero_le _, rfl, by rw [List.take_zero, List.append_nil]; exact hL, hB⟩
      case round =>
        clear hL hB
        obtain ⟨q, hq, rfl, hL, hB⟩ := hrel
        have hlx := hide hx.len
        have hlen : (List.replicate t 0 ++ xs.take q).length ≤ 4398046511104 := by rw [List.length_append, List.length_replicate, List.length_take]; have := HI.out; omega
        by_cases hqn : q < n
        · obtain ⟨b, o, x, rfl, hxl, hxe, hcx⟩ := (hx.below hB).at_ hqn
          have HX := Lib.hid hxe
          clear hxe
          go_wp2_with (at_builtin; refine wpList_append_u32 _ rfl _ _ rfl w.heap.size _ _ rfl (hL.alloc _) _ x rfl (cell_new _ _ _) hxl hlen (by have := hB.size; simp; omega) ?_; intro v' w1 hL1 hB1)
          go_roundw
          case rel =>
            refine ⟨q + 1, by omega, by go_num, ?_, (hB.alloc hB.size _).trans hB1⟩
            rw [Limb.take_succ_getD xs q (by rw [hlx.out]; omega), ← HX.out, ← List.append_assoc]
            exact hL1
          case measure => simp [intOf] <;> omega
        · have hzv := hide (zeros_val t xs)
          rw [List.take_of_length_le (by rw [hlx.out]; omega)] at hL
          obtain ⟨A1, c1, rfl, hN, hc1, hc2⟩ := hL.form
          have hzl : (List.replicate t 0 ++ xs).length = t + n := by rw [List.length_append, List.length_replicate, hlx.out]
          rw [hzl] at hN hc1
          rw [hzl]
          have hxlt := hide hx.lt
          clear hL hlen hzl
          generalize List.replicate t 0 ++ xs = zs at *
          go_wp2_with fail
          go_loopw [6, 9] (fun v i wr => ∃ (k m c : Nat) (B : Option Addr) (ys : List Nat), k ≤ s ∧ i = .int .i64 (k : Int) ∧ v = .slice B m c ∧ Nums wr B m ys ∧ m ≤ c ∧ c ≤ 9223372036854775807 ∧ m ≤ t + n + 1 ∧ Hid (Limb.val ys = 2 ^ (32 * t) * Limb.val xs * 2 ^ k) ∧ Below w.heap.size w wr) (fun _ i _ => s - (intOf i).toNat)
          case atStart => exact ⟨0, t + n, c1, A1, zs, Nat.zero_le _, rfl, rfl, hN, hc1, hc2, by omega, by show _ = _; rw [hzv.out, Nat.pow_zero, Nat.mul_one], hB⟩
          case round =>
            clear hN hc1 hc2 hB
            obtain ⟨k, m, c, B, ys, hk, rfl, rfl, oB, lc, lc9, lm, HV, tr⟩ := hrel
            by_cases hks : k < s
            · go_wp2_with fail
              refine (small_any B m c ys 2 wr oB (by have := HI.out; omega) (by omega)).mono ?_
              rintro e w2 ⟨A2, n2, c2, rfl, o2, l2, m2, b2⟩
              have hv2 := hide (show Limb.val ys * 2 = 2 ^ (32 * t) * Limb.val xs * 2 ^ (k + 1) by rw [HV.out, Nat.pow_succ, ← Nat.mul_assoc])
              have ln2 : n2 ≤ t + n + 1 := short_canon o2 (by
                rw [hv2.out, ← Limb.two_pow32]
                have h1 : 2 ^ (k + 1) ≤ 2 ^ 32 := Nat.pow_le_pow_right (by omega) (by omega)
                have h2 : 4294967296 ^ t * Limb.val xs < 4294967296 ^ (t + n) := by rw [Nat.pow_add]; exact Nat.mul_lt_mul_of_pos_left hxlt.out (Nat.pow_pos (by omega))
                rw [Nat.pow_succ 4294967296 (t + n)]
                exact Nat.lt_of_le_of_lt (Nat.mul_le_mul_left _ h1) (Nat.mul_lt_mul_of_pos_right h2 (by omega)))
              go_wp2_with fail
              go_roundw
              case rel => exact ⟨k + 1, n2, c2, A2, _, by omega, by go_num, rfl, o2, l2, m2, ln2, by show _ = _; rw [Limb.val_canon]; exact hv2.out, tr.next b2⟩
              case measure => simp [intOf] <;> omega
            · obtain rfl : k = s := by omega
              go_wp2_with fail
              refine (rtrim_any B m c ys wr oB (by have := HI.out; omega)).mono ?_
              rintro e w2 ⟨A2, n2, c2, rfl, o2, l2, m2, b2⟩
              go_wp2_with fail
              go_ret2
              refine ⟨A2, n2, c2, rfl, ?_, l2, m2, tr.next b2⟩
              have e3 : Limb.val ys = Limb.val xs * 2 ^ i := by rw [HV.out, HI.out, Nat.pow_add, Nat.mul_comm (2 ^ (32 * t)), Nat.mul_assoc]
              rw [← e3]
              exact o2

theorem half_up (v k : Nat) : v / 2 ^ k / 2 = v / 2 ^ (k + 1) := by rw [Nat.div_div_eq_div_mul, Nat.pow_succ]
set_option maxHeartbeats 4000000 in
theorem rright_nat (A : Option Addr) (n c i : Nat) (xs : List Nat) (w : World) (hx : Nums w A n xs) (hn : n ≤ 1073741824) (hi : i ≤ 9223372036854775807) :
    Calls Try.prog 24 #[.slice A n c, .int .i64 (i : Int)] w (RefPost (Limb.val xs / 2 ^ i) w) := by
  by_cases hfar : 32 * n ≤ i
  · have h0 := hide (show Limb.val xs / 2 ^ i = 0 from Nat.div_eq_of_lt (Nat.lt_of_lt_of_le hx.lt (by rw [Limb.two_pow32]; exact Nat.pow_le_pow_right (by omega) hfar)))
    go_enter Try.func24, Try.ntmps24
    go_wp2_with fail
    go_ret
    exact ⟨_, 0, 0, rfl, by rw [h0.out]; exact Nums.nil _ _, by omega, by omega, bl_alloc w _⟩
  · obtain ⟨l, s, hs, hij⟩ : ∃ j s : Nat, s < 32 ∧ i = 32 * j + s := ⟨i / 32, i % 32, by omega, by omega⟩
    have en : (i : Int) / 32 = (l : Int) := by omega
    have EM := hide (show (i : Int) % 32 = (s : Int) by omega)
    have hln : l < n := by omega
    have HI := hide hij
    have hlx := hide hx.len
    have hd0 := Limb.val_take_drop xs l (by rw [hlx.out]; omega)
    have hdv := hide (show Limb.val (xs.drop l) = Limb.val xs / 2 ^ (32 * l) by
      rw [← Limb.two_pow32, hd0, Nat.add_comm, Nat.mul_add_div (Nat.pow_pos (by omega)), Nat.div_eq_of_lt, Nat.add_zero]
      have := Limb.val_lt (xs.take l) (hx.ok.take l)
      rw [List.length_take, hlx.out, Nat.min_eq_left (by omega)] at this
      exact this)
    clear hij hd0
    go_enter Try.func24, Try.ntmps24
    go_wp2_with fail
    go_loopw [5, 6] (fun v i wr => ∃ t : Nat, t ≤ n - l ∧ i = .int .i64 ((l : Int) + (t : Int)) ∧ Lst wr w.heap.size v ((xs.drop l).take t) ∧ Below w.heap.size w wr) (fun _ i _ => n - (intOf i).toNat)
    case atStart => exact ⟨0, Nat.zero_le _, by go_num, Lst.empty w _ (Nat.le_refl _), bl_alloc w _⟩
    case round =>
      obtain ⟨t, ht, rfl, hL, hB⟩ := hrel
      have hlen : ((xs.drop l).take t).length ≤ 4398046511104 := by rw [List.length_take, List.length_drop, hlx.out]; omega
      by_cases htl : l + t < n
      · obtain ⟨b, o, x, rfl, hxl, hxe, hcx⟩ := (hx.below hB).at_ htl
        have HX := Lib.hid hxe
        clear hxe
        have elt : (l : Int) + (t : Int) = ((l + t : Nat) : Int) := by omega
        rw [elt]
        clear elt
        go_wp2_with (at_builtin; refine wpList_append_u32 _ rfl _ _ rfl w.heap.size _ _ rfl (hL.alloc _) _ x rfl (cell_new _ _ _) hxl hlen (by have := hB.size; simp; omega) ?_; intro v' w1 hL1 hB1)
        go_roundw
        case rel =>
          refine ⟨t + 1, by omega, by go_num, ?_, (hB.alloc hB.size _).trans hB1⟩
          rw [Limb.take_succ_getD _ t (by rw [List.length_drop, hlx.out]; omega)]
          have e2 : (xs.drop l).getD t 0 = x := by rw [HX.out]; exact Limb.limb_drop xs l t
          rw [e2]
          exact hL1
        case measure => simp [intOf] <;> omega
      · rw [List.take_of_length_le (by rw [List.length_drop, hlx.out]; omega)] at hL
        obtain ⟨A1, c1, rfl, hN, hc1, hc2⟩ := hL.form
        have hzl : (xs.drop l).length = n - l := by rw [List.length_drop, hlx.out]
        rw [hzl] at hN hc1
        rw [hzl]
        have hlok := hide hL.ok
        clear hL hlen hzl
        generalize xs.drop l = zs at *
        obtain ⟨m, hm⟩ : ∃ m, n - l = m := ⟨_, rfl⟩
        rw [hm] at hN hc1
        rw [hm]
        go_wp2_with fail
        go_loopw [5, 7] (fun v i wr => ∃ (k c : Nat) (B : Option Addr) (ys : List Nat), k ≤ s ∧ i = .int .i64 (k : Int) ∧ v = .slice B m c ∧ Nums wr B m ys ∧ m ≤ c ∧ c ≤ 9223372036854775807 ∧ Hid (Limb.val ys = Limb.val zs / 2 ^ k) ∧ Below w.heap.size w wr) (fun _ i _ => s - (intOf i).toNat)
        case atStart => exact ⟨0, c1, A1, zs, Nat.zero_le _, rfl, rfl, hN, hc1, hc2, by show _ = _; rw [Nat.pow_zero, Nat.div_one], hB⟩
        case round =>
          clear hN hc1 hc2 hB
          obtain ⟨k, c2, B, ys, hk, rfl, rfl, oB, lc, lc9, HV, tr⟩ := hrel
          by_cases hks : k < s
          · have hks2 : (k : Int) < (i : Int) % 32 := by have := EM.out; omega
            have hly := hide oB.len
            obtain ⟨wo, rfl⟩ : ∃ wo : World, wo = wr := ⟨_, rfl⟩
            go_wp2_with fail
            go_loopw [8, 9] (fun v i wr => ∃ q : Nat, q ≤ m ∧ i = .int .i64 (q : Int) ∧ Lst wr wo.heap.size v ((Limb.half ys).take q) ∧ Below wo.heap.size wo wr) (fun _ i _ => m - (intOf i).toNat)
            case atStart => exact ⟨0, Nat.zero_le _, rfl, Lst.empty wo _ (Nat.le_refl _), bl_alloc wo _⟩
            case round =>
              obtain ⟨q, hq, rfl, hL, hB⟩ := hrel
              have hlen : ((Limb.half ys).take q).length ≤ 4398046511104 := by rw [List.length_take, Limb.half_length, hly.out]; omega
              by_cases hqm : q < m
              · obtain ⟨b, o, x, rfl, hxl, hxe, hcx⟩ := (oB.below hB).at_ hqm
                have HX := hide (show limb ys q = x from hxe.symm)
                clear hxe
                have hat := at_any (some ⟨b, o, none⟩) m c2 ys (q + 1) wr (oB.below hB) (by omega)
                have hlb := limb_lt oB.ok (q + 1)
                have eq1 : (((q + 1 : Nat)) : Int) = (q : Int) + 1 := by omega
                rw [eq1] at hat
                have hht := hide (Limb.half_take ys q (by rw [hly.out]; exact hqm))
                rw [HX.out] at hht
                generalize limb ys (q + 1) = y at *
                clear eq1
                by_cases hy1 : y % 2 = 1
                · have hb1 : ((y : Int) % 2 == 1) = true := by simp; omega
                  rw [hy1] at hht
                  have hxx : x / 2 + 1 * 2147483648 < 4294967296 := by omega
                  clear hy1
                  go_wp2_with fail
                  refine hat.mono ?_
                  rintro e w' ⟨rfl, rfl⟩
                  go_wp2_with (at_builtin; refine wpList_append_u32 _ rfl _ _ rfl wo.heap.size _ _ rfl (hL.alloc _) _ (x / 2 + 1 * 2147483648) rfl (cell_new' _ _ _ _ (by omega)) hxx hlen (by have := hB.size; simp; omega) ?_; intro v' w1 hL1 hB1)
                  go_roundw
                  case rel => exact ⟨q + 1, by omega, by go_num, by rw [hht.out]; exact hL1, (hB.alloc hB.size _).trans hB1⟩
                  case measure => simp [intOf] <;> omega
                · have hb1 : ((y : Int) % 2 == 1) = false := by simp; omega
                  have hy0 : y % 2 = 0 := by omega
                  rw [hy0] at hht
                  have hxx : x / 2 + 0 * 2147483648 < 4294967296 := by omega
                  clear hy1 hy0
                  go_wp2_with fail
                  refine hat.mono ?_
                  rintro e w' ⟨rfl, rfl⟩
                  go_wp2_with (at_builtin; refine wpList_append_u32 _ rfl _ _ rfl wo.heap.size _ _ rfl (hL.alloc _) _ (x / 2 + 0 * 2147483648) rfl (cell_new' _ _ _ _ (by omega)) hxx hlen (by have := hB.size; simp; omega) ?_; intro v' w1 hL1 hB1)
                  go_roundw
                  case rel => exact ⟨q + 1, by omega, by go_num, by rw [hht.out]; exact hL1, (hB.alloc hB.size _).trans hB1⟩
                  case measure => simp [intOf] <;> omega
              · rw [List.take_of_length_le (by rw [Limb.half_length, hly.out]; omega)] at hL
                obtain ⟨A3, c3, rfl, hN3, hc3, hc93⟩ := hL.form
                have e3 : (Limb.half ys).length = m := by rw [Limb.half_length, hly.out]
                rw [e3]
                rw [e3] at hN3 hc3
                clear hL hlen
                go_wp2_with fail
                go_roundw
                case rel => exact ⟨k + 1, c3, A3, Limb.half ys, by omega, by go_num, rfl, hN3, hc3, hc93, by show _ = _; rw [Limb.half_val, HV.out, half_up], tr.next hB⟩
                case measure => simp [intOf] <;> omega
          · have hks2 : ¬ (k : Int) < (i : Int) % 32 := by have := EM.out; omega
            obtain rfl : k = s := by omega
            go_wp2_with fail
            refine (rtrim_any B m c2 ys wr oB (by omega)).mono ?_
            rintro e w2 ⟨A2, n2, c2, rfl, o2, l2, m2, b2⟩
            go_wp2_with fail
            go_ret
            refine ⟨A2, n2, c2, rfl, ?_, l2, m2, tr.next b2⟩
            have e3 : Limb.val ys = Limb.val xs / 2 ^ i := by rw [HV.out, hdv.out, Nat.div_div_eq_div_mul, ← Nat.pow_add, HI.out]
            rw [← e3]
            exact o2

set_option maxHeartbeats 4000000 in
theorem rright_neg (A : Option Addr) (n c : Nat) (z : Int) (xs : List Nat) (w : World) (hx : Nums w A n xs) (hn : n ≤ 1073741824) (hz : z < 0) :
    Calls Try.prog 24 #[.slice A n c, .int .i64 z] w (RefPost (Limb.val xs) w) := by
  have hlx := hide hx.len
  rcases Nat.eq_zero_or_pos n with h0 | h0
  · subst h0
    have hv := hide (show Limb.val xs = 0 by have : xs = [] := List.eq_nil_of_length_eq_zero hlx.out; rw [this]; rfl)
    go_enter Try.func24, Try.ntmps24
    go_wp2_with fail
    go_ret
    exact ⟨_, 0, 0, rfl, by rw [hv.out]; exact Nums.nil _ _, by omega, by omega, bl_alloc w _⟩
  · go_enter Try.func24, Try.ntmps24
    go_wp2_with fail
    go_loopw [5, 6] (fun v i wr => ∃ t : Nat, t ≤ n ∧ i = .int .i64 (t : Int) ∧ Lst wr w.heap.size v (xs.take t) ∧ Below w.heap.size w wr) (fun _ i _ => n - (intOf i).toNat)
    case atStart => exact ⟨0, Nat.zero_le _, by go_num, Lst.empty w _ (Nat.le_refl _), bl_alloc w _⟩
    case round =>
      obtain ⟨t, ht, rfl, hL, hB⟩ := hrel
      have hlen : (xs.take t).length ≤ 4398046511104 := by rw [List.length_take, hlx.out]; omega
      by_cases htl : t < n
      · obtain ⟨b, o, x, rfl, hxl, hxe, hcx⟩ := (hx.below hB).at_ htl
        have HX := Lib.hid hxe
        clear hxe
        go_wp2_with (at_builtin; refine wpList_append_u32 _ rfl _ _ rfl w.heap.size _ _ rfl (hL.alloc _) _ x rfl (cell_new _ _ _) hxl hlen (by have := hB.size; simp; omega) ?_; intro v' w1 hL1 hB1)
        go_roundw
        case rel =>
          refine ⟨t + 1, by omega, by go_num, ?_, (hB.alloc hB.size _).trans hB1⟩
          rw [Limb.take_succ_getD _ t (by rw [hlx.out]; omega), ← HX.out]
          exact hL1
        case measure => simp [intOf] <;> omega
      · rw [List.take_of_length_le (by rw [hlx.out]; omega)] at hL
        obtain ⟨A1, c1, rfl, hN, hc1, hc2⟩ := hL.form
        rw [hlx.out] at hN hc1
        rw [hlx.out]
        clear hL hlen
        go_wp2_with fail
        go_loopw [5, 7] (fun v i wr => v = .slice A1 n c1 ∧ i = .int .i64 0 ∧ Nums wr A1 n xs ∧ Below w.heap.size w wr) (fun _ i _ => 1)
        case atStart => exact ⟨rfl, rfl, hN, hB⟩
        case round =>
          clear hN hB
          obtain ⟨rfl, rfl, oB, tr⟩ := hrel
          go_wp2_with fail
          refine (rtrim_any A1 n c1 xs wr oB (by omega)).mono ?_
          rintro e w2 ⟨A2, n2, c2, rfl, o2, l2, m2, b2⟩
          go_wp2_with fail
          go_ret
          exact ⟨A2, n2, c2, rfl, o2, l2, m2, tr.next b2⟩
theorem rright_z (A : Option Addr) (n c : Nat) (z : Int) (xs : List Nat) (w : World) (hx : Nums w A n xs) (hn : n ≤ 1073741824) (hi : z ≤ 9223372036854775807) :
    Calls Try.prog 24 #[.slice A n c, .int .i64 z] w (RefPost (Limb.val xs / 2 ^ z.toNat) w) := by
  by_cases h0 : 0 ≤ z
  · obtain ⟨i, rfl⟩ := Int.eq_ofNat_of_zero_le h0
    rw [Int.toNat_natCast]
    exact rright_nat A n c i xs w hx hn (by omega)
  · have e : z.toNat = 0 := by omega
    rw [e, Nat.pow_zero, Nat.div_one]
    exact rright_neg A n c z xs w hx hn (by omega)

/-! ### Pow -/
theorem rpow_arg (A : Option Addr) (n c : Nat) (i : Int) (w : World) (h : i < 0) : Calls Try.prog 30 #[.slice A n c, .int .i64 i] w (ErrPost 1 w) := by
  go_enter Try.func30, Try.ntmps30
  go_wp2_with fail
  go_ret2
  exact ⟨rfl, rfl⟩
def ErrBelow (k : Int) (w : World) (e : Ending) (w' : World) : Prop := e = .returned (.tuple #[.slice none 0 0, .int .i64 k]) ∧ Below w.heap.size w w'
set_option maxHeartbeats 1000000 in
theorem rpow_long (A : Option Addr) (n c : Nat) (xs : List Nat) (k : Nat) (w : World) (hx : Nums w A n xs) (hb : n ≤ 1099511627776) (hk : k ≤ 9223372036854775807) (h1 : 0 < Limb.bl (Limb.val xs)) (h2 : ¬ k ≤ 1048576 / Limb.bl (Limb.val xs)) :
    Calls Try.prog 30 #[.slice A n c, .int .i64 (k : Int)] w (ErrBelow 2 w) := by
  have hb2 := Limb.bl_le _ _ (by rw [← Limb.two_pow32]; exact hx.lt)
  have hbits := rbits_any A n c xs w hx hb
  unfold RBitsPost at hbits
  generalize Limb.bl (Limb.val xs) = s at *
  obtain ⟨q1, q2, q3⟩ := quot_int s k h1
  have q4 : ¬ (k : Int) ≤ 1048576 / (s : Int) := fun h => h2 (q1.2 h)
  clear q1 h2
  go_enter Try.func30, Try.ntmps30
  go_wp2_with fail
  refine hbits.mono ?_
  rintro e w1 ⟨rfl, b1⟩
  go_wp2_with fail
  go_ret2
  exact ⟨rfl, b1⟩
set_option maxHeartbeats 1000000 in
theorem rpow_zero (A : Option Addr) (n c : Nat) (xs : List Nat) (k : Nat) (w : World) (hx : Nums w A n xs) (hb : n ≤ 1099511627776) (hk : k ≤ 9223372036854775807) (h0 : Limb.val xs = 0) :
    Calls Try.prog 30 #[.slice A n c, .int .i64 (k : Int)] w (RefTwoPost (0 ^ k) w) := by
  have hbits := rbits_any A n c xs w hx hb
  unfold RBitsPost at hbits
  rw [h0, show Limb.bl 0 = 0 from rfl] at hbits
  clear h0
  by_cases hk0 : k = 0
  · subst hk0
    go_enter Try.func30, Try.ntmps30
    go_wp2_with fail
    refine hbits.mono ?_
    rintro e w1 ⟨rfl, b1⟩
    go_wp2_with fail
    go_ret2
    exact ⟨_, 1, 1, rfl, lit1 w1 1 (0 ^ 0) #[.int .u32 1] rfl (by omega) (by omega) rfl, by omega, by omega, b1.next (bl_alloc w1 _)⟩
  · have hz := hide (show 0 ^ k = 0 from Nat.zero_pow (Nat.pos_of_ne_zero hk0))
    have hkp : (0 : Int) < k := by omega
    clear hk0
    go_enter Try.func30, Try.ntmps30
    go_wp2_with fail
    refine hbits.mono ?_
    rintro e w1 ⟨rfl, b1⟩
    go_wp2_with fail
    go_ret2
    exact ⟨_, 0, 0, rfl, by rw [hz.out]; exact Nums.nil _ _, by omega, by omega, b1.next (bl_alloc w1 _)⟩
set_option maxHeartbeats 2000000 in
theorem rpow_pos (A : Option Addr) (n c : Nat) (xs : List Nat) (k : Nat) (w : World) (hx : Nums w A n xs) (hb : n ≤ 1073741824) (h1 : 0 < Limb.bl (Limb.val xs)) (h2 : k ≤ 1048576 / Limb.bl (Limb.val xs)) :
    Calls Try.prog 30 #[.slice A n c, .int .i64 (k : Int)] w (RefTwoPost (Limb.val xs ^ k) w) := by
  have hb2 := Limb.bl_le _ _ (by rw [← Limb.two_pow32]; exact hx.lt)
  have hbits := rbits_any A n c xs w hx (by omega)
  have hlt : Hid (∀ t, t ≤ k → Limb.val xs ^ t < 4294967296 ^ powCap) := fun t ht => pow_cap _ k t ht (.inr h2)
  have hcap : Hid (powCap = 32769) := rfl
  unfold RBitsPost at hbits
  generalize Limb.bl (Limb.val xs) = s at *
  obtain ⟨q1, q2, q3⟩ := quot_int s k h1
  have q4 := q1.1 h2
  have hk : k ≤ 1048576 := by omega
  have hs0 : ((s : Int) == 0) = false := by simp; omega
  clear q1 h2
  generalize hN : Limb.val xs = a at *
  have HN := hide hN
  clear hN
  go_enter Try.func30, Try.ntmps30
  go_wp2_with fail
  refine hbits.mono ?_
  rintro e w1 ⟨rfl, b1⟩
  have x1 := lit1 w1 1 1 #[.int .u32 1] rfl (by omega) (by omega) rfl
  have ba := bl_alloc w1 (.cells #[.int .u32 1] 40)
  go_wp2_with fail
  go_loopw [7, 8] (fun v i wr => ∃ (j m c : Nat) (B : Option Addr), j ≤ k ∧ i = .int .i64 (j : Int) ∧ v = .slice B m c ∧ Nums wr B m (Limb.canon (a ^ j)) ∧ m ≤ c ∧ c ≤ 9223372036854775807 ∧ Below w.heap.size w wr) (fun _ i _ => k - (intOf i).toNat)
  case atStart => exact ⟨0, 1, 1, _, Nat.zero_le _, rfl, rfl, by rw [Nat.pow_zero]; exact x1, by omega, by omega, b1.next ba⟩
  case round =>
    clear x1 b1 ba
    obtain ⟨j, m, c2, B, hj, rfl, rfl, oB, lc, lc9, tr⟩ := hrel
    have lm : m ≤ powCap := short_canon oB (hlt.out j hj)
    have lm2 : m ≤ 32769 := by have := hcap.out; omega
    by_cases hjk : j < k
    · go_wp2_with fail
      refine (rmul_any B A m c2 n c _ xs wr oB (hx.below tr) (by omega) (by omega)).mono ?_
      rintro e w2 ⟨A2, n2, c2, rfl, o2, l2, m2, b2⟩
      rw [Limb.val_canon, HN.out, ← Nat.pow_succ] at o2
      go_wp2_with fail
      go_roundw
      case rel => exact ⟨j + 1, n2, c2, A2, by omega, by go_num, rfl, o2, l2, m2, tr.next b2⟩
      case measure => simp [intOf] <;> omega
    · obtain rfl : j = k := by omega
      go_wp2_with fail
      refine (rtrim_any B m c2 _ wr oB (by omega)).mono ?_
      rintro e w2 ⟨A2, n2, c2, rfl, o2, l2, m2, b2⟩
      rw [Limb.val_canon] at o2
      go_wp2_with fail
      go_ret2
      exact ⟨A2, n2, c2, rfl, o2, l2, m2, tr.next b2⟩
end Go.Proofs.Ytodbhaecomfmgaa
