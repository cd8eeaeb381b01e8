/- Texts of one seat, put together: Ref. -/
import Derived.Test.YtlihnagfmfpdcaaB04
import Derived.Test.YtlihnagfmfpdcaaB05
/- plumblineref01: At, longer, Same, Cmp, Trim. -/
namespace Go.Proofs.Ytlihnagfmfpdcaa
open Go.RowKit

/-- A slice that the call itself appends to: it holds xs. -/
def Lst (w : World) (base : Nat) (v : Value) (xs : List Nat) : Prop := w.ownsRow base 59 1 v xs.length (u32s xs) ∧ Limb.Ok xs
theorem Lst.alloc {w : World} {base : Nat} {v : Value} {xs : List Nat} (h : Lst w base v xs) (o : Obj) : Lst (w.alloc o) base v xs := ⟨h.1.alloc o, h.2⟩
theorem Lst.drewN {w : World} {base : Nat} {v : Value} {xs : List Nat} (h : Lst w base v xs) (k : Nat) : Lst (w.drewN k) base v xs := h
theorem Lst.below {w w' : World} {base : Nat} {v : Value} {xs : List Nat} (h : Lst w base v xs) (hb : Below w.heap.size w w') : Lst w' base v xs :=
  ⟨h.1.kept (row := none) ⟨hb.os, hb.tape, hb.output, hb.size, fun k hk _ => hb.block k hk⟩ (by
    by_cases h0 : v.ownBlock = none
    · exact .inl h0
    · exact .inr h0), h.2⟩
theorem Lst.form {w : World} {base : Nat} {v : Value} {xs : List Nat} (h : Lst w base v xs) : ∃ A c, v = .slice A xs.length c ∧ Nums w A xs.length xs ∧ xs.length ≤ c ∧ c ≤ 9223372036854775807 := by
  obtain ⟨⟨hl, hc⟩, ho⟩ := h
  rcases hc with ⟨rfl, h0⟩ | ⟨g, cap, cur, rfl, hb, hh, h1, h2, h3, h4⟩
  · exact ⟨none, 0, by rw [h0], by rw [h0]; exact ⟨h0, ho, fun h => absurd h (by omega)⟩, by omega, by omega⟩
  · unfold maxLen at h2
    refine ⟨some ⟨g, 0, none⟩, cap, rfl, ⟨rfl, ho, fun _ => ⟨g, 0, rfl, fun i hi => ?_⟩⟩, h1, h2⟩
    rw [Nat.zero_add, cell_of_row w g i _ _ _ hh, ← u32s_get xs i hi, ← h4, List.getElem?_take_of_lt (by omega)]
    simp
theorem Lst.empty (w : World) (base : Nat) (hb : base ≤ w.heap.size) : Lst (w.alloc (.cells #[] 59)) base (.slice (some ⟨w.heap.size, 0, none⟩) 0 0) [] :=
  ⟨⟨rfl, .inr ⟨w.heap.size, 0, #[], rfl, hb, heap_alloc_new w _, Nat.le_refl _, by unfold maxLen; omega, rfl, rfl⟩⟩, Limb.Ok.nil⟩
theorem Lst.nil (w : World) (base : Nat) : Lst w base (.slice none 0 0) [] := ⟨World.ownsRow_nil _ _ _ _, Limb.Ok.nil⟩
theorem Lst.ok {w : World} {base : Nat} {v : Value} {xs : List Nat} (h : Lst w base v xs) : Limb.Ok xs := h.2

theorem cell_new (w : World) (u : Value) (e : TypeId) : (w.alloc (.cells #[u] e)).cell? ⟨w.heap.size, 0, none⟩ = some u := by
  simp
theorem cell_new' (w : World) (u : Int) (y : Nat) (e : TypeId) (h : u = (y : Int)) : (w.alloc (.cells #[.int .u32 u] e)).cell? ⟨w.heap.size, 0, none⟩ = some (.int .u32 (y : Int)) := by
  rw [cell_new, h]
theorem wpList_append_u32 (w : World) {ops : Array Oper} {rest : List Oper} {o : Oper} {a : Act} {Q : Exit → Act → World → Prop} (hgd : o.guard = none) (s x : Operand)
    (ho : o.op = .call { callee := .builtin .append, args := #[s, x], argTypes := #[23, 23] })
    (base : Nat) (v : Value) (xs : List Nat) (hs : a.eval s = v) (hown : Lst w base v xs) (ad : Addr) (y : Nat) (hx : a.eval x = .slice (some ad) 1 1) (hcell : w.cell? ad = some (.int .u32 (y : Int))) (hy : y < 4294967296)
    (hlen : xs.length ≤ 4398046511104) (hbase : base ≤ w.heap.size)
    (h : ∀ v' w', Lst w' base v' (xs ++ [y]) → Below base w w' → wpList Try.prog ops Q rest (a.put o.dst v') w') : wpList Try.prog ops Q (o :: rest) a w := by
  obtain ⟨i0, hi0, hz0, hz1, hz2⟩ := info_parts u32_info
  refine wpList_append_own _ hgd s x 23 ho base 59 i0 _ 1 4 Try.underlying23 hi0 hz0 hz1 hz2 rfl (by omega) v xs.length (u32s xs) hs hown.1 ad 1 1 [.int .u32 (y : Int)] hx rfl ?_ ?_ (by unfold maxLen; omega) (by omega) hbase ?_
  · intro j u hj
    match j, hj with
    | 0, hj =>
      simp at hj
      subst hj
      simpa [Addr.add] using hcell
  · intro u hu
    simp at hu
    subst hu
    rfl
  · intro v' w' h1 h2 _
    refine h v' w' ⟨?_, hown.2.append (Limb.Ok.cons hy Limb.Ok.nil)⟩ ?_
    · rw [u32s_append, List.length_append]
      exact h1
    · exact (Below.refl _ _).grown h2 hbase (fun k hk => (hown.1.lt k hk).1)

/-- What a reference hands back: the number N. -/
def RefPost (N : Nat) (w : World) (e : Ending) (w' : World) : Prop := ∃ A n c, e = .returned (.slice A n c) ∧ Nums w' A n (Limb.canon N) ∧ n ≤ c ∧ c ≤ 9223372036854775807 ∧ Below w.heap.size w w'

def IntPost (n : Int) (w : World) (e : Ending) (w' : World) : Prop := e = .returned (.int .i64 n) ∧ w = w'
def U64Post (n : Int) (w : World) (e : Ending) (w' : World) : Prop := e = .returned (.int .u64 n) ∧ w = w'
def mx (n m : Nat) : Nat := if m < n then n else m
theorem mx_le (n m : Nat) : n ≤ mx n m ∧ m ≤ mx n m ∧ (mx n m = n ∨ mx n m = m) := by unfold mx; split <;> omega

theorem longer_any (A B : Option Addr) (n c m d : Nat) (w : World) (hn : n ≤ 9223372036854775807) (hm : m ≤ 9223372036854775807) :
    Calls Try.prog 91 #[.slice A n c, .slice B m d] w (IntPost (mx n m : Nat) w) := by
  by_cases h : m < n
  · have hf : mx n m = n := by unfold mx; rw [if_pos h]
    have HF := Lib.hid hf
    clear hf
    go_enter Try.func91, Try.ntmps91
    go_wp2_with fail
    go_ret
    exact ⟨by rw [HF.out]; rfl, rfl⟩
  · have hf : mx n m = m := by unfold mx; rw [if_neg h]
    have HF := Lib.hid hf
    clear hf
    go_enter Try.func91, Try.ntmps91
    go_wp2_with fail
    go_ret
    exact ⟨by rw [HF.out]; rfl, rfl⟩

open Limb (limb limb_lt)
theorem at_any (A : Option Addr) (n c : Nat) (xs : List Nat) (i : Nat) (w : World) (hx : Nums w A n xs) (hm : n ≤ 9223372036854775807) :
    Calls Try.prog 92 #[.slice A n c, .int .i64 (i : Int)] w (U64Post (limb xs i : Nat) w) := by
  by_cases hi : i < n
  · obtain ⟨b, o, x, rfl, hxl, hxe, hc⟩ := hx.at_ hi
    have hf : limb xs i = x := hxe.symm
    have HF := Lib.hid hf
    clear hf hxe
    go_enter Try.func92, Try.ntmps92
    go_wp2_with fail
    go_ret
    exact ⟨by rw [HF.out]; rfl, rfl⟩
  · have hf : limb xs i = 0 := Limb.limb_beyond (by rw [hx.len]; omega)
    have HF := Lib.hid hf
    clear hf
    go_enter Try.func92, Try.ntmps92
    go_wp2_with fail
    go_ret
    exact ⟨by rw [HF.out]; rfl, rfl⟩

/-! ### Same -/
def BoolPost (b : Bool) (w : World) (e : Ending) (w' : World) : Prop := e = .returned (.bool b) ∧ ∃ k, w' = w.drewN k

set_option maxHeartbeats 1000000 in
theorem same_yes (A B : Option Addr) (n c d : Nat) (xs : List Nat) (w : World) (hx : Nums w A n xs) (hy : Nums w B n xs) (hn : n ≤ 9223372036854775807) :
    Calls Try.prog 48 #[.slice A n c, .slice B n d] w (BoolPost true w) := by
  have h0 : ((n : Int) != (n : Int)) = false := by simp
  go_enter Try.func48, Try.ntmps48
  go_wp2_with fail
  go_loopw [5] (fun i wr => ∃ k : Nat, k ≤ n ∧ i = .int .i64 (k : Int) ∧ ∃ q, wr = w.drewN q) (fun i _ => n - (intOf i).toNat)
  case atStart => exact ⟨0, Nat.zero_le _, rfl, 0, rfl⟩
  case round =>
    obtain ⟨k, hk, rfl, q, rfl⟩ := hrel
    by_cases hkn : k < n
    · obtain ⟨b1, o1, x, rfl, hxb, hxe, hxc⟩ := hx.at_ hkn
      obtain ⟨b2, o2, y, rfl, hyb, hye, hyc⟩ := hy.at_ hkn
      obtain rfl : x = y := hxe.trans hye.symm
      clear hxe hye
      have h1 : ((x : Int) != (x : Int)) = false := by simp
      go_wp2_with fail
      go_quiet (fail)
      go_wp2_with fail
      go_roundw
      case rel => exact ⟨k + 1, by omega, by go_num, _, rfl⟩
      case measure => simp [intOf] <;> omega
    · go_wp2_with fail
      go_ret
      exact ⟨rfl, q, rfl⟩

/-! ### Cmp -/
def RefCmpPost (a b : Nat) (w : World) (e : Ending) (w' : World) : Prop := e = .returned (.int .i64 (cmpN a b)) ∧ w = w'
theorem cmpN_lt' {a b : Nat} (h : a < b) : cmpN a b = -1 := by unfold cmpN sgn3; rw [if_pos (by omega)]
theorem cmpN_gt' {a b : Nat} (h : b < a) : cmpN a b = 1 := by unfold cmpN sgn3; rw [if_neg (by omega), if_pos (by omega)]
theorem cmpN_eq' (a : Nat) : cmpN a a = 0 := by unfold cmpN sgn3; simp

set_option maxHeartbeats 1000000 in
theorem rcmp_any (A B : Option Addr) (n c m d : Nat) (xs ys : List Nat) (w : World) (hx : Nums w A n xs) (hy : Nums w B m ys) (hn : n ≤ 9223372036854775807) (hm : m ≤ 9223372036854775807) :
    Calls Try.prog 115 #[.slice A n c, .slice B m d] w (RefCmpPost (Limb.val xs) (Limb.val ys) w) := by
  have hmx := mx_le n m
  obtain ⟨hm1, hm2, hm3⟩ := hmx
  have HM := Lib.hid hm3
  have hle : mx n m ≤ 9223372036854775807 := by omega
  clear hm3
  go_enter Try.func115, Try.ntmps115
  go_wp2_with fail
  refine (longer_any A B n c m d w hn hm).mono ?_
  rintro e w' ⟨rfl, rfl⟩
  go_wp2_with fail
  go_loop [5] (fun i => ∃ k : Nat, k ≤ mx n m ∧ i = .int .i64 ((k : Int) - 1) ∧ Hid (∀ j, k ≤ j → limb xs j = limb ys j)) (fun i => ((intOf i) + 1).toNat)
  case atStart => exact ⟨mx n m, Nat.le_refl _, rfl, fun j hj => by rw [Limb.limb_beyond (by rw [hx.len]; omega), Limb.limb_beyond (by rw [hy.len]; omega)]⟩
  case round =>
    obtain ⟨k, hk, rfl, HD⟩ := hrel
    rcases Nat.eq_zero_or_pos k with hk0 | hk0
    · subst hk0
      go_wp2_with fail
      go_ret
      refine ⟨?_, rfl⟩
      rw [Limb.val_eq_of_limbs xs ys (fun j => HD.out j (Nat.zero_le _)), cmpN_eq']
      rfl
    · obtain ⟨j, rfl⟩ : ∃ j, k = j + 1 := ⟨k - 1, by omega⟩
      have e1 : (((j + 1 : Nat) : Int) - 1) = (j : Int) := by omega
      rw [e1]
      clear e1
      rcases Nat.lt_trichotomy (limb xs j) (limb ys j) with h | h | h
      · have HF := hide (cmpN_lt' (Limb.val_lt_of_limbs xs ys hx.ok j (fun i hi => HD.out i hi) h))
        go_wp2_with fail
        refine (at_any A n c xs j _ hx hn).mono ?_
        rintro e w' ⟨rfl, rfl⟩
        go_wp2_with fail
        refine (at_any B m d ys j _ hy hm).mono ?_
        rintro e w' ⟨rfl, rfl⟩
        go_wp2_with fail
        go_ret
        exact ⟨by rw [HF.out]; rfl, rfl⟩
      · have HX := Lib.hid h
        have h1 : ¬ ((limb xs j : Int) < (limb ys j : Int)) := by omega
        have h2 : ¬ ((limb ys j : Int) < (limb xs j : Int)) := by omega
        clear h
        go_wp2_with fail
        refine (at_any A n c xs j _ hx hn).mono ?_
        rintro e w' ⟨rfl, rfl⟩
        go_wp2_with fail
        refine (at_any B m d ys j _ hy hm).mono ?_
        rintro e w' ⟨rfl, rfl⟩
        go_wp2_with fail
        refine (at_any A n c xs j _ hx hn).mono ?_
        rintro e w' ⟨rfl, rfl⟩
        go_wp2_with fail
        refine (at_any B m d ys j _ hy hm).mono ?_
        rintro e w' ⟨rfl, rfl⟩
        go_wp2_with fail
        go_round
        case rel =>
          refine ⟨j, by omega, by go_num, fun i hi => ?_⟩
          rcases Nat.eq_or_lt_of_le hi with h | h
          · subst h; exact HX.out
          · exact HD.out i h
        case measure => simp [intOf] <;> omega
      · have HF := hide (cmpN_gt' (Limb.val_lt_of_limbs ys xs hy.ok j (fun i hi => (HD.out i hi).symm) h))
        have h1 : ¬ ((limb xs j : Int) < (limb ys j : Int)) := by omega
        go_wp2_with fail
        refine (at_any A n c xs j _ hx hn).mono ?_
        rintro e w' ⟨rfl, rfl⟩
        go_wp2_with fail
        refine (at_any B m d ys j _ hy hm).mono ?_
        rintro e w' ⟨rfl, rfl⟩
        go_wp2_with fail
        refine (at_any A n c xs j _ hx hn).mono ?_
        rintro e w' ⟨rfl, rfl⟩
        go_wp2_with fail
        refine (at_any B m d ys j _ hy hm).mono ?_
        rintro e w' ⟨rfl, rfl⟩
        go_wp2_with fail
        go_ret
        exact ⟨by rw [HF.out]; rfl, rfl⟩

/-! ### Trim -/
theorem canon_zero_last (xs : List Nat) (k : Nat) (hk : k + 1 ≤ xs.length) (h : limb xs k = 0) : Limb.val (xs.take (k + 1)) = Limb.val (xs.take k) := by
  have := Limb.upto_succ xs k
  unfold Limb.upto at this
  rw [this, h]; omega

set_option maxHeartbeats 1000000 in
theorem rtrim_any (A : Option Addr) (n c : Nat) (xs : List Nat) (w : World) (hx : Nums w A n xs) (hn : n ≤ 1099511627776) :
    Calls Try.prog 18 #[.slice A n c] w (RefPost (Limb.val xs) w) := by
  go_enter Try.func18, Try.ntmps18
  go_wp2_with fail
  go_loopw [3, 4] (fun v i wr => ∃ k : Nat, k ≤ n ∧ i = .int .i64 (k : Int) ∧ Lst wr w.heap.size v (xs.take k) ∧ Below w.heap.size w wr) (fun _ i _ => n - (intOf i).toNat)
  case atStart => exact ⟨0, Nat.zero_le _, rfl, Lst.empty w _ (Nat.le_refl _), (Below.refl _ _).alloc (Nat.le_refl _) _⟩
  case round =>
    obtain ⟨k, hk, rfl, hL, hB⟩ := hrel
    by_cases hkn : k < n
    · obtain ⟨b, o, x, hA, hxl, hxe, hc⟩ := (hx.below hB).at_ hkn
      subst hA
      have HX := Lib.hid hxe
      clear hxe
      have hlen : (xs.take k).length ≤ 4398046511104 := by rw [List.length_take]; omega
      go_wp2_with (at_builtin; refine wpList_append_u32 _ rfl _ _ rfl w.heap.size _ _ rfl (hL.alloc _) _ x rfl (cell_new _ _ _) hxl hlen (by have := hB.size; simp; omega) ?_; intro v' w1 hL1 hB1)
      go_roundw
      case rel =>
        refine ⟨k + 1, by omega, by go_num, ?_, (hB.alloc hB.size _).trans hB1⟩
        rw [Limb.take_succ_getD xs k (by rw [hx.len]; omega), ← HX.out]
        exact hL1
      case measure => simp [intOf] <;> omega
    · rw [List.take_of_length_le (by rw [hx.len]; omega)] at hL
      obtain ⟨A1, c1, rfl, hN, hc1, hc2⟩ := hL.form
      have hlx := hx.len
      have HL := Lib.hid hlx
      rw [hlx]
      rw [hlx] at hN hc1
      have hok := hx.ok
      clear hL hx hlx
      go_wp2_with fail
      go_loopw [3] (fun v wr => ∃ j c2 : Nat, j ≤ n ∧ j ≤ c2 ∧ c2 ≤ 9223372036854775807 ∧ v = .slice A1 j c2 ∧ Nums wr A1 j (xs.take j) ∧ Below w.heap.size w wr ∧ Hid (Limb.val (xs.take j) = Limb.val xs)) (fun v _ => match v with | .slice _ j _ => j | _ => 0)
      case atStart => exact ⟨n, c1, Nat.le_refl _, hc1, hc2, rfl, by rw [List.take_of_length_le (by rw [HL.out]; exact Nat.le_refl _)]; exact hN, hB, by show _ = _; rw [List.take_of_length_le (by rw [HL.out]; exact Nat.le_refl _)]⟩
      case round =>
        clear hB hN hc1 hc2
        obtain ⟨j, c2, hj, hc1, hc2, rfl, hN, hB, HV⟩ := hrel
        rcases Nat.eq_zero_or_pos j with hj0 | hj0
        · subst hj0
          go_wp2_with fail
          go_ret
          refine ⟨A1, 0, c2, rfl, ?_, by omega, hc2, hB⟩
          have h0 : Limb.val xs = 0 := by rw [← HV.out]; simp [Limb.val]
          rw [h0]
          exact Nums.nil _ _
        · obtain ⟨b, o, x, rfl, hxl, hxe, hc⟩ := hN.at_ (i := j - 1) (by omega)
          have HX := Lib.hid hxe
          clear hxe
          by_cases hx0 : x = 0
          · have h1 : ((x : Int) == 0) = true := by simp [hx0]
            have HX0 := Lib.hid hx0
            clear hx0
            go_wp2_with fail
            go_roundw
            case rel =>
              have hg : limb xs (j - 1) = 0 := by
                rw [← HX0.out, HX.out]
                unfold limb
                rw [List.getD_eq_getElem?_getD, List.getD_eq_getElem?_getD, List.getElem?_take_of_lt (by omega)]
              have hcz := canon_zero_last xs (j - 1) (by rw [HL.out]; omega) hg
              have e1 : j - 1 + 1 = j := by omega
              rw [e1] at hcz
              have hN2 := hN.take (k := j - 1) (by omega)
              rw [List.take_take, Nat.min_eq_left (by omega)] at hN2
              exact ⟨j - 1, c2, by omega, by omega, hc2, rfl, hN2, hB, by show _ = _; rw [← hcz]; exact HV.out⟩
            case measure => show j - 1 < j; omega
          · have h1 : ((x : Int) == 0) = false := by simp; omega
            have HX0 := Lib.hid hx0
            clear hx0
            go_wp2_with fail
            go_ret
            refine ⟨_, j, c2, rfl, ?_, hc1, hc2, hB⟩
            have hl : (xs.take j).length = j := by rw [List.length_take, HL.out]; omega
            have hcn := Limb.canon_take (xs.take j) (hok.take j) j (by omega) (fun i h1 h2 => by omega) (fun _ => by rw [← HX.out]; exact HX0.out)
            rw [HV.out, List.take_take, Nat.min_self] at hcn
            rw [hcn]
            exact hN
end Go.Proofs.Ytlihnagfmfpdcaa
