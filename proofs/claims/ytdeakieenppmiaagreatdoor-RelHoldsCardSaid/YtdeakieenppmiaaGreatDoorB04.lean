/- Texts of one seat, put together: Ref RefA Of Alive1. -/
import Derived.Test.YtdeakieenppmiaaGreatDoorB02
import Derived.Test.YtdeakieenppmiaaGreatDoorB03
set_option linter.unusedVariables false
/- plumblineref01: At, longer, Same, Cmp, Trim. -/
namespace Go.Proofs.YtdeakieenppmiaaGreatDoor
open Go.RowKit

/-- A slice that the call itself appends to: it holds xs. -/
def Lst (w : World) (base : Nat) (v : Value) (xs : List Nat) : Prop := w.ownsRow base 92 1 v xs.length (u32s xs) ∧ Limb.Ok xs
theorem Lst.alloc {w : World} {base : Nat} {v : Value} {xs : List Nat} (h : Lst w base v xs) (o : Obj) : Lst (w.alloc o) base v xs := ⟨h.1.alloc o, h.2⟩
theorem Lst.drewN {w : World} {base : Nat} {v : Value} {xs : List Nat} (h : Lst w base v xs) (k : Nat) : Lst (w.drewN k) base v xs := h
theorem Lst.below {w w' : World} {base : Nat} {v : Value} {xs : List Nat} (h : Lst w base v xs) (hb : Below w.heap.size w w') : Lst w' base v xs :=
  ⟨h.1.kept (row := none) ⟨hb.os, hb.tape, hb.output, hb.size, fun k hk _ => hb.block k hk⟩ (by
    by_cases h0 : v.ownBlock = none
    · exact .inl h0
    · exact .inr h0), h.2⟩
theorem Lst.form {w : World} {base : Nat} {v : Value} {xs : List Nat} (h : Lst w base v xs) : ∃ A c, v = .slice A xs.length c ∧ Nums w A xs.length xs ∧ xs.length ≤ c ∧ c ≤ 9223372036854775807 := by
  obtain ⟨⟨hl, hc⟩, ho⟩ := h
  rcases hc with ⟨rfl, h0⟩ | ⟨g, cap, cur, rfl, hb, hh, h1, h2, h3, h4⟩
  · exact ⟨none, 0, by rw [h0], by rw [h0]; exact ⟨h0, ho, fun h => absurd h (by omega)⟩, by omega, by omega⟩
  · unfold maxLen at h2
    refine ⟨some ⟨g, 0, none⟩, cap, rfl, ⟨rfl, ho, fun _ => ⟨g, 0, rfl, fun i hi => ?_⟩⟩, h1, h2⟩
    rw [Nat.zero_add, cell_of_row w g i _ _ _ hh, ← u32s_get xs i hi, ← h4, List.getElem?_take_of_lt (by omega)]
    simp
theorem Lst.empty (w : World) (base : Nat) (hb : base ≤ w.heap.size) : Lst (w.alloc (.cells #[] 92)) base (.slice (some ⟨w.heap.size, 0, none⟩) 0 0) [] :=
  ⟨⟨rfl, .inr ⟨w.heap.size, 0, #[], rfl, hb, heap_alloc_new w _, Nat.le_refl _, by unfold maxLen; omega, rfl, rfl⟩⟩, Limb.Ok.nil⟩
theorem Lst.nil (w : World) (base : Nat) : Lst w base (.slice none 0 0) [] := ⟨World.ownsRow_nil _ _ _ _, Limb.Ok.nil⟩
theorem Lst.ok {w : World} {base : Nat} {v : Value} {xs : List Nat} (h : Lst w base v xs) : Limb.Ok xs := h.2

theorem cell_new (w : World) (u : Value) (e : TypeId) : (w.alloc (.cells #[u] e)).cell? ⟨w.heap.size, 0, none⟩ = some u := by
  simp
theorem cell_new' (w : World) (u : Int) (y : Nat) (e : TypeId) (h : u = (y : Int)) : (w.alloc (.cells #[.int .u32 u] e)).cell? ⟨w.heap.size, 0, none⟩ = some (.int .u32 (y : Int)) := by
  rw [cell_new, h]
theorem wpList_append_u32 (w : World) {ops : Array Oper} {rest : List Oper} {o : Oper} {a : Act} {Q : Exit → Act → World → Prop} (hgd : o.guard = none) (s x : Operand)
    (ho : o.op = .call { callee := .builtin .append, args := #[s, x], argTypes := #[24, 24] })
    (base : Nat) (v : Value) (xs : List Nat) (hs : a.eval s = v) (hown : Lst w base v xs) (ad : Addr) (y : Nat) (hx : a.eval x = .slice (some ad) 1 1) (hcell : w.cell? ad = some (.int .u32 (y : Int))) (hy : y < 4294967296)
    (hlen : xs.length ≤ 4398046511104) (hbase : base ≤ w.heap.size)
    (h : ∀ v' w', Lst w' base v' (xs ++ [y]) → Below base w w' → wpList Tryz.prog ops Q rest (a.put o.dst v') w') : wpList Tryz.prog ops Q (o :: rest) a w := by
  obtain ⟨i0, hi0, hz0, hz1, hz2⟩ := info_parts u32_info
  refine wpList_append_own _ hgd s x 24 ho base 92 i0 _ 1 4 Tryz.underlying24 hi0 hz0 hz1 hz2 rfl (by omega) v xs.length (u32s xs) hs hown.1 ad 1 1 [.int .u32 (y : Int)] hx rfl ?_ ?_ (by unfold maxLen; omega) (by omega) hbase ?_
  · intro j u hj
    match j, hj with
    | 0, hj =>
      simp at hj
      subst hj
      simpa [Addr.add] using hcell
  · intro u hu
    simp at hu
    subst hu
    rfl
  · intro v' w' h1 h2 _
    refine h v' w' ⟨?_, hown.2.append (Limb.Ok.cons hy Limb.Ok.nil)⟩ ?_
    · rw [u32s_append, List.length_append]
      exact h1
    · exact (Below.refl _ _).grown h2 hbase (fun k hk => (hown.1.lt k hk).1)

/-- What a reference hands back: the number N. -/
def RefPost (N : Nat) (w : World) (e : Ending) (w' : World) : Prop := ∃ A n c, e = .returned (.slice A n c) ∧ Nums w' A n (Limb.canon N) ∧ n ≤ c ∧ c ≤ 9223372036854775807 ∧ Below w.heap.size w w'

def IntPost (n : Int) (w : World) (e : Ending) (w' : World) : Prop := e = .returned (.int .i64 n) ∧ w = w'
def U64Post (n : Int) (w : World) (e : Ending) (w' : World) : Prop := e = .returned (.int .u64 n) ∧ w = w'
def mx (n m : Nat) : Nat := if m < n then n else m
theorem mx_le (n m : Nat) : n ≤ mx n m ∧ m ≤ mx n m ∧ (mx n m = n ∨ mx n m = m) := by unfold mx; split <;> omega

theorem longer_any (A B : Option Addr) (n c m d : Nat) (w : World) (hn : n ≤ 9223372036854775807) (hm : m ≤ 9223372036854775807) :
    Calls Tryz.prog 104 #[.slice A n c, .slice B m d] w (IntPost (mx n m : Nat) w) := by
  by_cases h : m < n
  · have hf : mx n m = n := by unfold mx; rw [if_pos h]
    have HF := Lib.hid hf
    clear hf
    go_enter Tryz.func104, Tryz.ntmps104
    go_wp2_with fail
    go_ret
    exact ⟨by rw [HF.out]; rfl, rfl⟩
  · have hf : mx n m = m := by unfold mx; rw [if_neg h]
    have HF := Lib.hid hf
    clear hf
    go_enter Tryz.func104, Tryz.ntmps104
    go_wp2_with fail
    go_ret
    exact ⟨by rw [HF.out]; rfl, rfl⟩

open Limb (limb limb_lt)
theorem at_any (A : Option Addr) (n c : Nat) (xs : List Nat) (i : Nat) (w : World) (hx : Nums w A n xs) (hm : n ≤ 9223372036854775807) :
    Calls Tryz.prog 105 #[.slice A n c, .int .i64 (i : Int)] w (U64Post (limb xs i : Nat) w) := by
  by_cases hi : i < n
  · obtain ⟨b, o, x, rfl, hxl, hxe, hc⟩ := hx.at_ hi
    have hf : limb xs i = x := hxe.symm
    have HF := Lib.hid hf
    clear hf hxe
    go_enter Tryz.func105, Tryz.ntmps105
    go_wp2_with fail
    go_ret
    exact ⟨by rw [HF.out]; rfl, rfl⟩
  · have hf : limb xs i = 0 := Limb.limb_beyond (by rw [hx.len]; omega)
    have HF := Lib.hid hf
    clear hf
    go_enter Tryz.func105, Tryz.ntmps105
    go_wp2_with fail
    go_ret
    exact ⟨by rw [HF.out]; rfl, rfl⟩

/-! ### Same -/
def BoolPost (b : Bool) (w : World) (e : Ending) (w' : World) : Prop := e = .returned (.bool b) ∧ ∃ k, w' = w.drewN k

set_option maxHeartbeats 1000000 in
theorem same_yes (A B : Option Addr) (n c d : Nat) (xs : List Nat) (w : World) (hx : Nums w A n xs) (hy : Nums w B n xs) (hn : n ≤ 9223372036854775807) :
    Calls Tryz.prog 129 #[.slice A n c, .slice B n d] w (BoolPost true w) := by
  have h0 : ((n : Int) != (n : Int)) = false := by simp
  go_enter Tryz.func129, Tryz.ntmps129
  go_wp2_with fail
  go_loopw [5] (fun i wr => ∃ k : Nat, k ≤ n ∧ i = .int .i64 (k : Int) ∧ ∃ q, wr = w.drewN q) (fun i _ => n - (intOf i).toNat)
  case atStart => exact ⟨0, Nat.zero_le _, rfl, 0, rfl⟩
  case round =>
    obtain ⟨k, hk, rfl, q, rfl⟩ := hrel
    by_cases hkn : k < n
    · obtain ⟨b1, o1, x, rfl, hxb, hxe, hxc⟩ := hx.at_ hkn
      obtain ⟨b2, o2, y, rfl, hyb, hye, hyc⟩ := hy.at_ hkn
      obtain rfl : x = y := hxe.trans hye.symm
      clear hxe hye
      have h1 : ((x : Int) != (x : Int)) = false := by simp
      go_wp2_with fail
      go_quiet (fail)
      go_wp2_with fail
      go_roundw
      case rel => exact ⟨k + 1, by omega, by go_num, _, rfl⟩
      case measure => simp [intOf] <;> omega
    · go_wp2_with fail
      go_ret
      exact ⟨rfl, q, rfl⟩

/-! ### Cmp -/
def RefCmpPost (a b : Nat) (w : World) (e : Ending) (w' : World) : Prop := e = .returned (.int .i64 (cmpN a b)) ∧ w = w'
theorem cmpN_lt' {a b : Nat} (h : a < b) : cmpN a b = -1 := by unfold cmpN sgn3; rw [if_pos (by omega)]
theorem cmpN_gt' {a b : Nat} (h : b < a) : cmpN a b = 1 := by unfold cmpN sgn3; rw [if_neg (by omega), if_pos (by omega)]
theorem cmpN_eq' (a : Nat) : cmpN a a = 0 := by unfold cmpN sgn3; simp

set_option maxHeartbeats 1000000 in
theorem rcmp_any (A B : Option Addr) (n c m d : Nat) (xs ys : List Nat) (w : World) (hx : Nums w A n xs) (hy : Nums w B m ys) (hn : n ≤ 9223372036854775807) (hm : m ≤ 9223372036854775807) :
    Calls Tryz.prog 167 #[.slice A n c, .slice B m d] w (RefCmpPost (Limb.val xs) (Limb.val ys) w) := by
  have hmx := mx_le n m
  obtain ⟨hm1, hm2, hm3⟩ := hmx
  have HM := Lib.hid hm3
  have hle : mx n m ≤ 9223372036854775807 := by omega
  clear hm3
  go_enter Tryz.func167, Tryz.ntmps167
  go_wp2_with fail
  refine (longer_any A B n c m d w hn hm).mono ?_
  rintro e w' ⟨rfl, rfl⟩
  go_wp2_with fail
  go_loop [5] (fun i => ∃ k : Nat, k ≤ mx n m ∧ i = .int .i64 ((k : Int) - 1) ∧ Hid (∀ j, k ≤ j → limb xs j = limb ys j)) (fun i => ((intOf i) + 1).toNat)
  case atStart => exact ⟨mx n m, Nat.le_refl _, rfl, fun j hj => by rw [Limb.limb_beyond (by rw [hx.len]; omega), Limb.limb_beyond (by rw [hy.len]; omega)]⟩
  case round =>
    obtain ⟨k, hk, rfl, HD⟩ := hrel
    rcases Nat.eq_zero_or_pos k with hk0 | hk0
    · subst hk0
      go_wp2_with fail
      go_ret
      refine ⟨?_, rfl⟩
      rw [Limb.val_eq_of_limbs xs ys (fun j => HD.out j (Nat.zero_le _)), cmpN_eq']
      rfl
    · obtain ⟨j, rfl⟩ : ∃ j, k = j + 1 := ⟨k - 1, by omega⟩
      have e1 : (((j + 1 : Nat) : Int) - 1) = (j : Int) := by omega
      rw [e1]
      clear e1
      rcases Nat.lt_trichotomy (limb xs j) (limb ys j) with h | h | h
      · have HF := hide (cmpN_lt' (Limb.val_lt_of_limbs xs ys hx.ok j (fun i hi => HD.out i hi) h))
        go_wp2_with fail
        refine (at_any A n c xs j _ hx hn).mono ?_
        rintro e w' ⟨rfl, rfl⟩
        go_wp2_with fail
        refine (at_any B m d ys j _ hy hm).mono ?_
        rintro e w' ⟨rfl, rfl⟩
        go_wp2_with fail
        go_ret
        exact ⟨by rw [HF.out]; rfl, rfl⟩
      · have HX := Lib.hid h
        have h1 : ¬ ((limb xs j : Int) < (limb ys j : Int)) := by omega
        have h2 : ¬ ((limb ys j : Int) < (limb xs j : Int)) := by omega
        clear h
        go_wp2_with fail
        refine (at_any A n c xs j _ hx hn).mono ?_
        rintro e w' ⟨rfl, rfl⟩
        go_wp2_with fail
        refine (at_any B m d ys j _ hy hm).mono ?_
        rintro e w' ⟨rfl, rfl⟩
        go_wp2_with fail
        refine (at_any A n c xs j _ hx hn).mono ?_
        rintro e w' ⟨rfl, rfl⟩
        go_wp2_with fail
        refine (at_any B m d ys j _ hy hm).mono ?_
        rintro e w' ⟨rfl, rfl⟩
        go_wp2_with fail
        go_round
        case rel =>
          refine ⟨j, by omega, by go_num, fun i hi => ?_⟩
          rcases Nat.eq_or_lt_of_le hi with h | h
          · subst h; exact HX.out
          · exact HD.out i h
        case measure => simp [intOf] <;> omega
      · have HF := hide (cmpN_gt' (Limb.val_lt_of_limbs ys xs hy.ok j (fun i hi => (HD.out i hi).symm) h))
        have h1 : ¬ ((limb xs j : Int) < (limb ys j : Int)) := by omega
        go_wp2_with fail
        refine (at_any A n c xs j _ hx hn).mono ?_
        rintro e w' ⟨rfl, rfl⟩
        go_wp2_with fail
        refine (at_any B m d ys j _ hy hm).mono ?_
        rintro e w' ⟨rfl, rfl⟩
        go_wp2_with fail
        refine (at_any A n c xs j _ hx hn).mono ?_
        rintro e w' ⟨rfl, rfl⟩
        go_wp2_with fail
        refine (at_any B m d ys j _ hy hm).mono ?_
        rintro e w' ⟨rfl, rfl⟩
        go_wp2_with fail
        go_ret
        exact ⟨by rw [HF.out]; rfl, rfl⟩

/-! ### Trim -/
theorem canon_zero_last (xs : List Nat) (k : Nat) (hk : k + 1 ≤ xs.length) (h : limb xs k = 0) : Limb.val (xs.take (k + 1)) = Limb.val (xs.take k) := by
  have := Limb.upto_succ xs k
  unfold Limb.upto at this
  rw [this, h]; omega

set_option maxHeartbeats 1000000 in
theorem rtrim_any (A : Option Addr) (n c : Nat) (xs : List Nat) (w : World) (hx : Nums w A n xs) (hn : n ≤ 1099511627776) :
    Calls Tryz.prog 79 #[.slice A n c] w (RefPost (Limb.val xs) w) := by
  go_enter Tryz.func79, Tryz.ntmps79
  go_wp2_with fail
  go_loopw [3, 4] (fun v i wr => ∃ k : Nat, k ≤ n ∧ i = .int .i64 (k : Int) ∧ Lst wr w.heap.size v (xs.take k) ∧ Below w.heap.size w wr) (fun _ i _ => n - (intOf i).toNat)
  case atStart => exact ⟨0, Nat.zero_le _, rfl, Lst.empty w _ (Nat.le_refl _), (Below.refl _ _).alloc (Nat.le_refl _) _⟩
  case round =>
    obtain ⟨k, hk, rfl, hL, hB⟩ := hrel
    by_cases hkn : k < n
    · obtain ⟨b, o, x, hA, hxl, hxe, hc⟩ := (hx.below hB).at_ hkn
      subst hA
      have HX := Lib.hid hxe
      clear hxe
      have hlen : (xs.take k).length ≤ 4398046511104 := by rw [List.length_take]; omega
      go_wp2_with (at_builtin; refine wpList_append_u32 _ rfl _ _ rfl w.heap.size _ _ rfl (hL.alloc _) _ x rfl (cell_new _ _ _) hxl hlen (by have := hB.size; simp; omega) ?_; intro v' w1 hL1 hB1)
      go_roundw
      case rel =>
        refine ⟨k + 1, by omega, by go_num, ?_, (hB.alloc hB.size _).trans hB1⟩
        rw [Limb.take_succ_getD xs k (by rw [hx.len]; omega), ← HX.out]
        exact hL1
      case measure => simp [intOf] <;> omega
    · rw [List.take_of_length_le (by rw [hx.len]; omega)] at hL
      obtain ⟨A1, c1, rfl, hN, hc1, hc2⟩ := hL.form
      have hlx := hx.len
      have HL := Lib.hid hlx
      rw [hlx]
      rw [hlx] at hN hc1
      have hok := hx.ok
      clear hL hx hlx
      go_wp2_with fail
      go_loopw [3] (fun v wr => ∃ j c2 : Nat, j ≤ n ∧ j ≤ c2 ∧ c2 ≤ 9223372036854775807 ∧ v = .slice A1 j c2 ∧ Nums wr A1 j (xs.take j) ∧ Below w.heap.size w wr ∧ Hid (Limb.val (xs.take j) = Limb.val xs)) (fun v _ => match v with | .slice _ j _ => j | _ => 0)
      case atStart => exact ⟨n, c1, Nat.le_refl _, hc1, hc2, rfl, by rw [List.take_of_length_le (by rw [HL.out]; exact Nat.le_refl _)]; exact hN, hB, by show _ = _; rw [List.take_of_length_le (by rw [HL.out]; exact Nat.le_refl _)]⟩
      case round =>
        clear hB hN hc1 hc2
        obtain ⟨j, c2, hj, hc1, hc2, rfl, hN, hB, HV⟩ := hrel
        rcases Nat.eq_zero_or_pos j with hj0 | hj0
        · subst hj0
          go_wp2_with fail
          go_ret
          refine ⟨A1, 0, c2, rfl, ?_, by omega, hc2, hB⟩
          have h0 : Limb.val xs = 0 := by rw [← HV.out]; simp [Limb.val]
          rw [h0]
          exact Nums.nil _ _
        · obtain ⟨b, o, x, rfl, hxl, hxe, hc⟩ := hN.at_ (i := j - 1) (by omega)
          have HX := Lib.hid hxe
          clear hxe
          by_cases hx0 : x = 0
          · have h1 : ((x : Int) == 0) = true := by simp [hx0]
            have HX0 := Lib.hid hx0
            clear hx0
            go_wp2_with fail
            go_roundw
            case rel =>
              have hg : limb xs (j - 1) = 0 := by
                rw [← HX0.out, HX.out]
                unfold limb
                rw [List.getD_eq_getElem?_getD, List.getD_eq_getElem?_getD, List.getElem?_take_of_lt (by omega)]
              have hcz := canon_zero_last xs (j - 1) (by rw [HL.out]; omega) hg
              have e1 : j - 1 + 1 = j := by omega
              rw [e1] at hcz
              have hN2 := hN.take (k := j - 1) (by omega)
              rw [List.take_take, Nat.min_eq_left (by omega)] at hN2
              exact ⟨j - 1, c2, by omega, by omega, hc2, rfl, hN2, hB, by show _ = _; rw [← hcz]; exact HV.out⟩
            case measure => show j - 1 < j; omega
          · have h1 : ((x : Int) == 0) = false := by simp; omega
            have HX0 := Lib.hid hx0
            clear hx0
            go_wp2_with fail
            go_ret
            refine ⟨_, j, c2, rfl, ?_, hc1, hc2, hB⟩
            have hl : (xs.take j).length = j := by rw [List.length_take, HL.out]; omega
            have hcn := Limb.canon_take (xs.take j) (hok.take j) j (by omega) (fun i h1 h2 => by omega) (fun _ => by rw [← HX.out]; exact HX0.out)
            rw [HV.out, List.take_take, Nat.min_self] at hcn
            rw [hcn]
            exact hN
end Go.Proofs.YtdeakieenppmiaaGreatDoor
/- plumblineref01: Add, Sub, small. -/
namespace Go.Proofs.YtdeakieenppmiaaGreatDoor
open Go.RowKit
open Limb (limb limb_lt upto upto_succ upto_all upto_zero)

def AddTo (xs ys os : List Nat) (k z : Nat) : Prop := os.length = k ∧ Limb.val os + 4294967296 ^ k * z = upto xs k + upto ys k
theorem AddTo.step {xs ys os : List Nat} {k z : Nat} (h : AddTo xs ys os k z) : AddTo xs ys (os ++ [(limb xs k + limb ys k + z) % 4294967296]) (k + 1) ((limb xs k + limb ys k + z) / 4294967296) := by
  obtain ⟨hl, hv⟩ := h
  refine ⟨by simp [hl], ?_⟩
  rw [Limb.val_append, hl, upto_succ, upto_succ]
  have e : Limb.val [(limb xs k + limb ys k + z) % 4294967296] = (limb xs k + limb ys k + z) % 4294967296 := by simp [Limb.val]
  rw [e, Nat.pow_succ, Nat.mul_assoc]
  have e2 : 4294967296 ^ k * ((limb xs k + limb ys k + z) % 4294967296) + 4294967296 ^ k * (4294967296 * ((limb xs k + limb ys k + z) / 4294967296)) = 4294967296 ^ k * limb xs k + 4294967296 ^ k * limb ys k + 4294967296 ^ k * z := by
    rw [← Nat.mul_add, ← Nat.mul_add, ← Nat.mul_add]
    congr 1
    omega
  omega
theorem AddTo.done {xs ys os : List Nat} {k z : Nat} (h : AddTo xs ys os k z) (hx : Limb.Ok xs) (hy : Limb.Ok ys) (h1 : xs.length + 1 ≤ k) (h2 : ys.length + 1 ≤ k) : Limb.val os = Limb.val xs + Limb.val ys := by
  obtain ⟨hl, hv⟩ := h
  rw [upto_all xs k (by omega), upto_all ys k (by omega)] at hv
  obtain ⟨j, rfl⟩ : ∃ j, k = j + 1 := ⟨k - 1, by omega⟩
  have b1 := Nat.lt_of_lt_of_le (Limb.val_lt xs hx) (Limb.pow_mono (show xs.length ≤ j by omega))
  have b2 := Nat.lt_of_lt_of_le (Limb.val_lt ys hy) (Limb.pow_mono (show ys.length ≤ j by omega))
  refine Limb.carry_zero _ _ _ _ hv ?_
  rw [Nat.pow_succ]
  exact Limb.sum_lt _ _ _ b1 b2

set_option maxHeartbeats 1000000 in
theorem radd_any (A B : Option Addr) (n c m d : Nat) (xs ys : List Nat) (w : World) (hx : Nums w A n xs) (hy : Nums w B m ys) (hn : n ≤ 549755813888) (hm : m ≤ 549755813888) :
    Calls Tryz.prog 64 #[.slice A n c, .slice B m d] w (RefPost (Limb.val xs + Limb.val ys) w) := by
  obtain ⟨hm1, hm2, hm3⟩ := mx_le n m
  have hle : mx n m ≤ 549755813888 := by omega
  clear hm3
  go_enter Tryz.func64, Tryz.ntmps64
  go_wp2_with fail
  go_loopw [5, 6, 7] (fun v cz i wr => ∃ k z : Nat, ∃ os : List Nat, k ≤ mx n m + 1 ∧ z ≤ 1 ∧ i = .int .i64 (k : Int) ∧ cz = .int .u64 (z : Int) ∧ Lst wr w.heap.size v os ∧ Below w.heap.size w wr ∧ Hid (AddTo xs ys os k z)) (fun _ _ i _ => mx n m + 1 - (intOf i).toNat)
  case atStart => exact ⟨0, 0, [], Nat.zero_le _, Nat.zero_le _, rfl, rfl, Lst.empty w _ (Nat.le_refl _), (Below.refl _ _).alloc (Nat.le_refl _) _, ⟨rfl, by simp [Limb.val, upto]⟩⟩
  case round =>
    obtain ⟨k, z, os, hk, hz, rfl, rfl, hL, hB, HA⟩ := hrel
    have hol : os.length ≤ 4398046511104 := by rw [HA.out.1]; omega
    have hxk := limb_lt hx.ok k
    have hyk := limb_lt hy.ok k
    by_cases hkn : k ≤ mx n m
    · go_wp2_with fail
      refine (longer_any A B n c m d wr (by omega) (by omega)).mono ?_
      rintro e w' ⟨rfl, rfl⟩
      go_wp2_with fail
      refine (at_any A n c xs k wr (hx.below hB) (by omega)).mono ?_
      rintro e w' ⟨rfl, rfl⟩
      go_wp2_with fail
      refine (at_any B m d ys k wr (hy.below hB) (by omega)).mono ?_
      rintro e w' ⟨rfl, rfl⟩
      go_wp2_with (at_builtin; refine wpList_append_u32 _ rfl _ _ rfl w.heap.size _ _ rfl (hL.alloc _) _ ((limb xs k + limb ys k + z) % 4294967296) rfl (cell_new' _ _ _ _ (by omega)) (by omega) hol (by have := hB.size; simp; omega) ?_; intro v' w1 hL1 hB1)
      go_roundw
      case rel => exact ⟨k + 1, (limb xs k + limb ys k + z) / 4294967296, _, by omega, by omega, by go_num, by go_num, hL1, (hB.alloc hB.size _).trans hB1, HA.out.step⟩
      case measure => simp [intOf] <;> omega
    · go_wp2_with fail
      refine (longer_any A B n c m d wr (by omega) (by omega)).mono ?_
      rintro e w' ⟨rfl, rfl⟩
      obtain ⟨A1, c1, rfl, hN, hc1, hc2⟩ := hL.form
      have hv := HA.out.done hx.ok hy.ok (by rw [hx.len]; omega) (by rw [hy.len]; omega)
      have HV := Lib.hid hv
      have hol2 : os.length ≤ 1099511627776 := by rw [HA.out.1]; omega
      clear hL hv
      go_wp2_with fail
      refine (rtrim_any A1 _ c1 os wr hN hol2).mono ?_
      rintro e w2 ⟨A2, n2, c2, rfl, hN2, h1, h2, hB2⟩
      rw [HV.out] at hN2
      go_wp2_with fail
      go_ret
      exact ⟨A2, n2, c2, rfl, hN2, h1, h2, hB.trans (hB2.mono hB.size)⟩

/-! ### Sub -/
def SubTo (xs ys os : List Nat) (k z : Nat) : Prop := os.length = k ∧ Limb.val os + upto ys k = upto xs k + 4294967296 ^ k * z
theorem app_sub (v U X p s y z x c : Nat) (h : v + U = X + p * z) (hs : s + y + z = x + 4294967296 * c) : v + p * s + (U + p * y) = X + p * x + p * (4294967296 * c) := by
  have e : p * (s + y + z) = p * (x + 4294967296 * c) := by rw [hs]
  rw [Nat.mul_add, Nat.mul_add, Nat.mul_add] at e
  omega
theorem sub_limb (x y z : Nat) (hx : x < 4294967296) (hy : y < 4294967296) (hz : z ≤ 1) : (x + 4294967296 - y - z) % 4294967296 + y + z = x + 4294967296 * (1 - (x + 4294967296 - y - z) / 4294967296) := by omega
theorem SubTo.step {xs ys os : List Nat} {k z : Nat} (h : SubTo xs ys os k z) (s c : Nat) (hs : s + limb ys k + z = limb xs k + 4294967296 * c) : SubTo xs ys (os ++ [s]) (k + 1) c := by
  obtain ⟨hl, hv⟩ := h
  refine ⟨by simp [hl], ?_⟩
  have e : Limb.val [s] = s := by simp [Limb.val]
  rw [Limb.val_append, hl, upto_succ, upto_succ, e, Nat.pow_succ, Nat.mul_assoc]
  exact app_sub _ _ _ _ _ _ _ _ _ hv hs
theorem SubTo.done {xs ys os : List Nat} {k z : Nat} (h : SubTo xs ys os k z) (ho : Limb.Ok os) (h1 : xs.length ≤ k) (h2 : ys.length ≤ k) (hle : Limb.val ys ≤ Limb.val xs) : Limb.val os = Limb.val xs - Limb.val ys := by
  obtain ⟨hl, hv⟩ := h
  rw [upto_all xs k (by omega), upto_all ys k (by omega)] at hv
  have b1 := Limb.val_lt os ho
  rw [hl] at b1
  exact Limb.borrow_zero _ _ _ _ _ hv b1 hle

def RefSubNoPost (w : World) (e : Ending) (w' : World) : Prop := e = .returned (.tuple #[.slice none 0 0, .bool false]) ∧ w = w'
def RefSubYesPost (N : Nat) (w : World) (e : Ending) (w' : World) : Prop := ∃ A n c, e = .returned (.tuple #[.slice A n c, .bool true]) ∧ Nums w' A n (Limb.canon N) ∧ n ≤ c ∧ c ≤ 9223372036854775807 ∧ Below w.heap.size w w'

set_option maxHeartbeats 1000000 in
theorem rsub_no (A B : Option Addr) (n c m d : Nat) (xs ys : List Nat) (w : World) (hx : Nums w A n xs) (hy : Nums w B m ys) (hn : n ≤ 9223372036854775807) (hm : m ≤ 9223372036854775807) (hlt : Limb.val xs < Limb.val ys) :
    Calls Tryz.prog 126 #[.slice A n c, .slice B m d] w (RefSubNoPost w) := by
  have h0 := cmpN_lt hlt
  clear hlt
  go_enter Tryz.func126, Tryz.ntmps126
  go_wp2_with fail
  refine (rcmp_any A B n c m d xs ys w hx hy hn hm).mono ?_
  rintro e w' ⟨rfl, rfl⟩
  go_wp2_with fail
  go_ret2
  exact ⟨rfl, rfl⟩

set_option maxHeartbeats 1000000 in
theorem rsub_yes (A B : Option Addr) (n c m d : Nat) (xs ys : List Nat) (w : World) (hx : Nums w A n xs) (hy : Nums w B m ys) (hn : n ≤ 549755813888) (hm : m ≤ 549755813888) (hle : Limb.val ys ≤ Limb.val xs) :
    Calls Tryz.prog 126 #[.slice A n c, .slice B m d] w (RefSubYesPost (Limb.val xs - Limb.val ys) w) := by
  obtain ⟨hm1, hm2, hm3⟩ := mx_le n m
  have hlm : mx n m ≤ 549755813888 := by omega
  clear hm3
  have h0 := cmpN_ge hle
  have HLE := hide hle
  clear hle
  go_enter Tryz.func126, Tryz.ntmps126
  go_wp2_with fail
  refine (rcmp_any A B n c m d xs ys w hx hy (by omega) (by omega)).mono ?_
  rintro e w' ⟨rfl, rfl⟩
  go_wp2_with fail
  go_loopw [6, 7, 8] (fun v cz i wr => ∃ k z : Nat, ∃ os : List Nat, k ≤ mx n m ∧ z ≤ 1 ∧ i = .int .i64 (k : Int) ∧ cz = .int .u64 (z : Int) ∧ Lst wr w.heap.size v os ∧ Below w.heap.size w wr ∧ Hid (SubTo xs ys os k z)) (fun _ _ i _ => mx n m - (intOf i).toNat)
  case atStart => exact ⟨0, 0, [], Nat.zero_le _, Nat.zero_le _, rfl, rfl, Lst.empty w _ (Nat.le_refl _), (Below.refl _ _).alloc (Nat.le_refl _) _, ⟨rfl, by simp [Limb.val, upto]⟩⟩
  case round =>
    obtain ⟨k, z, os, hk, hz, rfl, rfl, hL, hB, HA⟩ := hrel
    have hol : os.length ≤ 4398046511104 := by rw [HA.out.1]; omega
    have hxk := limb_lt hx.ok k
    have hyk := limb_lt hy.ok k
    by_cases hkn : k < mx n m
    · go_wp2_with fail
      refine (longer_any A B n c m d wr (by omega) (by omega)).mono ?_
      rintro e w' ⟨rfl, rfl⟩
      go_wp2_with fail
      refine (at_any A n c xs k wr (hx.below hB) (by omega)).mono ?_
      rintro e w' ⟨rfl, rfl⟩
      go_wp2_with fail
      refine (at_any B m d ys k wr (hy.below hB) (by omega)).mono ?_
      rintro e w' ⟨rfl, rfl⟩
      go_wp2_with (at_builtin; refine wpList_append_u32 _ rfl _ _ rfl w.heap.size _ _ rfl (hL.alloc _) _ ((limb xs k + 4294967296 - limb ys k - z) % 4294967296) rfl (cell_new' _ _ _ _ (by omega)) (by omega) hol (by have := hB.size; simp; omega) ?_; intro v' w1 hL1 hB1)
      go_roundw
      case rel => exact ⟨k + 1, 1 - (limb xs k + 4294967296 - limb ys k - z) / 4294967296, _, by omega, by omega, by go_num, by go_num, hL1, (hB.alloc hB.size _).trans hB1, HA.out.step _ _ (sub_limb _ _ _ hxk hyk hz)⟩
      case measure => simp [intOf] <;> omega
    · go_wp2_with fail
      refine (longer_any A B n c m d wr (by omega) (by omega)).mono ?_
      rintro e w' ⟨rfl, rfl⟩
      obtain ⟨A1, c1, rfl, hN, hc1, hc2⟩ := hL.form
      have hv := HA.out.done hL.ok (by rw [hx.len]; omega) (by rw [hy.len]; omega) HLE.out
      have HV := Lib.hid hv
      have hol2 : os.length ≤ 1099511627776 := by rw [HA.out.1]; omega
      clear hL hv
      go_wp2_with fail
      refine (rtrim_any A1 _ c1 os wr hN hol2).mono ?_
      rintro e w2 ⟨A2, n2, c2, rfl, hN2, h1, h2, hB2⟩
      rw [HV.out] at hN2
      go_wp2_with fail
      go_ret2
      exact ⟨A2, n2, c2, rfl, hN2, h1, h2, hB.trans (hB2.mono hB.size)⟩

/-! ### small -/
def MulTo (xs os : List Nat) (m k z : Nat) : Prop := os.length = k ∧ Limb.val os + 4294967296 ^ k * z = upto xs k * m
theorem MulTo.step {xs os : List Nat} {m k z : Nat} (h : MulTo xs os m k z) : MulTo xs (os ++ [(limb xs k * m + z) % 4294967296]) m (k + 1) ((limb xs k * m + z) / 4294967296) := by
  obtain ⟨hl, hv⟩ := h
  refine ⟨by simp [hl], ?_⟩
  rw [Limb.val_append, hl, upto_succ, Nat.add_mul, ← hv]
  have e : Limb.val [(limb xs k * m + z) % 4294967296] = (limb xs k * m + z) % 4294967296 := by simp [Limb.val]
  rw [e, Nat.pow_succ, Nat.mul_assoc, Nat.mul_assoc]
  have e2 : 4294967296 ^ k * ((limb xs k * m + z) % 4294967296) + 4294967296 ^ k * (4294967296 * ((limb xs k * m + z) / 4294967296)) = 4294967296 ^ k * (limb xs k * m) + 4294967296 ^ k * z := by
    rw [← Nat.mul_add, ← Nat.mul_add]
    congr 1
    omega
  omega
theorem MulTo.done {xs os : List Nat} {m k z : Nat} (h : MulTo xs os m k z) (h1 : xs.length ≤ k) : Limb.val (os ++ [z]) = Limb.val xs * m := by
  obtain ⟨hl, hv⟩ := h
  rw [upto_all xs k h1] at hv
  rw [Limb.val_append, hl]
  have e : Limb.val [z] = z := by simp [Limb.val]
  rw [e]; exact hv

theorem prod_le (x m : Nat) (hx : x < 4294967296) (hm : m < 4294967296) : x * m ≤ 18446744065119617025 := by
  have := Nat.mul_le_mul (show x ≤ 4294967295 by omega) (show m ≤ 4294967295 by omega)
  omega
theorem prod_int (x m : Nat) (hx : x < 4294967296) (hm : m < 4294967296) : (x : Int) * (m : Int) ≤ 18446744065119617025 ∧ 0 ≤ (x : Int) * (m : Int) ∧ (x : Int) * (m : Int) = ((x * m : Nat) : Int) := by
  have h := prod_le x m hx hm
  rw [← Int.natCast_mul]
  omega

set_option maxHeartbeats 1000000 in
theorem small_any (A : Option Addr) (n c : Nat) (xs : List Nat) (m : Nat) (w : World) (hx : Nums w A n xs) (hn : n ≤ 549755813888) (hm : m < 4294967296) :
    Calls Tryz.prog 166 #[.slice A n c, .int .u64 (m : Int)] w (RefPost (Limb.val xs * m) w) := by
  go_enter Tryz.func166, Tryz.ntmps166
  go_wp2_with fail
  go_loopw [5, 6, 7] (fun v cz i wr => ∃ k z : Nat, ∃ os : List Nat, k ≤ n ∧ z < 4294967296 ∧ i = .int .i64 (k : Int) ∧ cz = .int .u64 (z : Int) ∧ Lst wr w.heap.size v os ∧ Below w.heap.size w wr ∧ Hid (MulTo xs os m k z)) (fun _ _ i _ => n - (intOf i).toNat)
  case atStart => exact ⟨0, 0, [], Nat.zero_le _, by omega, rfl, rfl, Lst.empty w _ (Nat.le_refl _), (Below.refl _ _).alloc (Nat.le_refl _) _, ⟨rfl, by simp [Limb.val, upto]⟩⟩
  case round =>
    obtain ⟨k, z, os, hk, hz, rfl, rfl, hL, hB, HA⟩ := hrel
    have hol : os.length ≤ 4398046511104 := by rw [HA.out.1]; omega
    have hxk := limb_lt hx.ok k
    by_cases hkn : k < n
    · have hpn := prod_le _ _ hxk hm
      obtain ⟨hp1, hp2, hp3⟩ := prod_int _ _ hxk hm
      have HP := Lib.hid hp3
      clear hp3
      go_wp2_with fail
      refine (at_any A n c xs k wr (hx.below hB) (by omega)).mono ?_
      rintro e w' ⟨rfl, rfl⟩
      go_wp2_with (at_builtin; refine wpList_append_u32 _ rfl _ _ rfl w.heap.size _ _ rfl (hL.alloc _) _ ((limb xs k * m + z) % 4294967296) rfl (cell_new' _ _ _ _ (by have := HP.out; omega)) (by omega) hol (by have := hB.size; simp; omega) ?_; intro v' w1 hL1 hB1)
      go_roundw
      case rel => exact ⟨k + 1, (limb xs k * m + z) / 4294967296, _, by omega, by omega, by go_num, by have := HP.out; congr 1 <;> omega, hL1, (hB.alloc hB.size _).trans hB1, HA.out.step⟩
      case measure => simp [intOf] <;> omega
    · have hv := HA.out.done (by rw [hx.len]; omega)
      have HV := Lib.hid hv
      have hol2 : os.length + 1 ≤ 1099511627776 := by rw [HA.out.1]; omega
      clear hv
      go_wp2_with (at_builtin; refine wpList_append_u32 _ rfl _ _ rfl w.heap.size _ _ rfl (hL.alloc _) _ z rfl (cell_new' _ _ _ _ (by omega)) hz hol (by have := hB.size; simp; omega) ?_; intro v' w1 hL1 hB1; obtain ⟨A1, c1, rfl, hN, hc1, hc2⟩ := hL1.form)
      refine (rtrim_any A1 (os.length + 1) c1 _ w1 (by simpa using hN) hol2).mono ?_
      rintro e w2 ⟨A2, n2, c2, rfl, hN2, h1, h2, hB2⟩
      rw [HV.out] at hN2
      go_wp2_with fail
      go_ret
      have hB3 : Below w.heap.size w w1 := (hB.alloc hB.size _).trans hB1
      exact ⟨A2, n2, c2, rfl, hN2, h1, h2, hB3.trans (hB2.mono hB3.size)⟩
end Go.Proofs.YtdeakieenppmiaaGreatDoor
/- nat.Of; the statements' own small calls. -/
namespace Go.Proofs.YtdeakieenppmiaaGreatDoor
open Go.RowKit

theorem Row.new (w : World) (zs : List Nat) (us : Array Value) (h : us = (u32s zs).toArray) : Row (w.alloc (.cells us 92)) w.heap.size zs := by
  unfold Row; rw [h]; exact heap_alloc_new w _

set_option maxHeartbeats 400000 in
theorem of_any (N : Nat) (w : World) (h : N / 4294967296 < 4294967296) :
    Calls Tryz.prog 89 #[.int .u64 (N : Int)] w (CutPost N w) := by
  go_enter Tryz.func89, Tryz.ntmps89
  go_wp2_with fail
  have hr := Row.new w [N % 4294967296, N / 4294967296] #[.int .u32 ((N : Int) % 4294967296), .int .u32 ((N : Int) / 4294967296)] (by simp [u32s])
  refine (trimmed_row w.heap.size 2 2 N w.heap.size _ _ hr (Limb.Ok.cons (by omega) (Limb.Ok.cons h Limb.Ok.nil)) (by simp) (by omega) (by omega) (Nat.le_refl _) (by simp [Limb.val]; omega)).mono ?_
  rintro e w' ⟨A', m, rfl, how, rfl⟩
  go_wp2_with fail
  go_ret
  exact ⟨A', m, rfl, how, (Below.refl _ _).alloc (Nat.le_refl _) _⟩

theorem of_int (v : Int) (N : Nat) (w : World) (hv : v = (N : Int)) (h : N / 4294967296 < 4294967296) : Calls Tryz.prog 89 #[.int .u64 v] w (CutPost N w) := by
  subst hv; exact of_any N w h

/-- A small list that the statement writes out. -/
theorem Nums.new (w : World) (xs : List Nat) (us : Array Value) (h : us = (u32s xs).toArray) (ho : Limb.Ok xs) (n : Nat) (hn : n = xs.length) : Nums (w.alloc (.cells us 92)) (some ⟨w.heap.size, 0, none⟩) n xs := by
  subst hn
  have := (Row.new w xs us h).nums ho (o := 0) (n := xs.length) (by omega)
  simpa using this

def YesPost (w : World) (e : Ending) (w' : World) : Prop := e = .returned (.bool true) ∧ Below w.heap.size w w'
def short_post (b : Bool) (w : World) (e : Ending) (w' : World) : Prop := e = .returned (.bool b) ∧ w = w'
end Go.Proofs.YtdeakieenppmiaaGreatDoor
/- plumblinelaw01.adding: the simple calls are alive. -/
namespace Go.Proofs.YtdeakieenppmiaaGreatDoor
open Go.RowKit

theorem canon_one (x : Nat) (h0 : x ≠ 0) (h : x < 4294967296) : Limb.canon x = [x] := by
  rw [Limb.canon_pos x h0]
  have e1 : x % 4294967296 = x := by omega
  have e2 : x / 4294967296 = 0 := by omega
  rw [e1, e2, Limb.canon_zero]
theorem canon_two (x y : Nat) (h : x < 4294967296) (h0 : y ≠ 0) (hy : y < 4294967296) : Limb.canon (x + 4294967296 * y) = [x, y] := by
  rw [Limb.canon_pos _ (by omega)]
  have e1 : (x + 4294967296 * y) % 4294967296 = x := by omega
  have e2 : (x + 4294967296 * y) / 4294967296 = y := by omega
  rw [e1, e2, canon_one y h0 hy]
theorem lit1 (w : World) (x N : Nat) (us : Array Value) (hus : us = (u32s [x]).toArray) (h0 : x ≠ 0) (h : x < 4294967296) (hN : x = N) : Nums (w.alloc (.cells us 92)) (some ⟨w.heap.size, 0, none⟩) 1 (Limb.canon N) := by
  subst hN
  rw [canon_one x h0 h]
  exact Nums.new w [x] us hus (Limb.Ok.cons h Limb.Ok.nil) 1 rfl
theorem lit2 (w : World) (x y N : Nat) (us : Array Value) (hus : us = (u32s [x, y]).toArray) (h : x < 4294967296) (h0 : y ≠ 0) (hy : y < 4294967296) (hN : x + 4294967296 * y = N) : Nums (w.alloc (.cells us 92)) (some ⟨w.heap.size, 0, none⟩) 2 (Limb.canon N) := by
  subst hN
  rw [canon_two x y h h0 hy]
  exact Nums.new w [x, y] us hus (Limb.Ok.cons h (Limb.Ok.cons hy Limb.Ok.nil)) 2 rfl
theorem short_canon {w : World} {A : Option Addr} {n N k : Nat} (h : Nums w A n (Limb.canon N)) (hN : N < 4294967296 ^ k) : n ≤ k := by
  rw [← h.len]; exact Limb.canon_len_le N k hN

end Go.Proofs.YtdeakieenppmiaaGreatDoor
