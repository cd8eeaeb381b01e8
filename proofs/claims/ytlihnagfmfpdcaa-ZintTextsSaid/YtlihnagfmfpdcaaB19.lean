/- Texts of one seat, put together: Parse RefParse ZMem. -/
import Derived.Test.YtlihnagfmfpdcaaB14
import Derived.Test.YtlihnagfmfpdcaaB18
import Derived.Test.YtlihnagfmfpdcaaB17
import Derived.Deep.RegionHeld3
/- nat.Parse. -/
namespace Go.Proofs.Ytlihnagfmfpdcaa
open Go.RowKit
open Limb (limb limb_lt upto upto_succ upto_all upto_zero)

/-- The number that a text of digits spells. -/
def numOf (s : ByteArray) (i : Nat) : Nat := Dec.upto (fun j => byteAt s j - 48) i
theorem numOf_lt (s : ByteArray) (h : allDig s) (i : Nat) (hi : i ≤ s.size) : numOf s i < 10 ^ i :=
  Dec.upto_lt _ i (fun j hj => by have := h j (by omega); omega)
def ErrB (k : Int) (w : World) (e : Ending) (w' : World) : Prop := e = .returned (.tuple #[.slice none 0 0, .int .i64 k]) ∧ Below w.heap.size w w'
theorem parse_long (s : ByteArray) (w : World) (h : 4000 < s.size) (hs : s.size ≤ 9223372036854775807) : Calls Try.prog 16 #[.string s] w (ErrB 2 w) := by
  go_enter Try.func16, Try.ntmps16
  go_wp2_with fail
  go_ret2
  exact ⟨rfl, Below.refl _ _⟩
theorem parse_form (s : ByteArray) (w : World) (hs : s.size ≤ 4000) (hno : ¬ (allDig s ∧ s.size ≠ 0)) : Calls Try.prog 16 #[.string s] w (ErrB 20 w) := by
  have hd := allDigits_any s false w (by omega) (by simp only [Bool.false_eq_true, false_iff]; exact hno)
  clear hno
  go_enter Try.func16, Try.ntmps16
  go_wp2_with fail
  refine hd.mono ?_
  rintro e w1 ⟨rfl, k, rfl⟩
  go_wp2_with fail
  go_ret2
  exact ⟨rfl, bl_drewN w k⟩
theorem ten_next (j : Nat) (hj : j ≤ 8) : (10 ^ j * 10 = 1000000000 ∧ j = 8) ∨ (10 ^ j * 10 ≠ 1000000000 ∧ j + 1 ≤ 8) := by
  rcases Nat.lt_or_ge j 8 with h | h
  · right
    have h1 : 10 ^ j ≤ 10 ^ 7 := Nat.pow_le_pow_right (by omega) (by omega)
    omega
  · left
    have : j = 8 := by omega
    subst this
    exact ⟨rfl, rfl⟩
theorem ten_le (j : Nat) (hj : j ≤ 8) : 10 ^ j ≤ 100000000 ∧ 1 ≤ 10 ^ j := by
  have h1 : 10 ^ j ≤ 10 ^ 8 := Nat.pow_le_pow_right (by omega) hj
  exact ⟨by omega, Nat.pow_pos (by omega)⟩
theorem parse_alg (V p g d U : Nat) (h : V * p + g = U) : V * (p * 10) + (g * 10 + d) = U * 10 + d := by
  rw [← h, Nat.add_mul, Nat.mul_assoc]; omega

def PsRel (s : ByteArray) (g n : Nat) (w : World) (k gq wq : Nat) (wr : World) : Prop :=
  ∃ (cur : List Nat) (j : Nat), cur.length = n ∧ Limb.Ok cur ∧ Row wr g cur ∧ Below w.heap.size w wr ∧ j ≤ 8 ∧ wq = 10 ^ j ∧ gq < 10 ^ j ∧ Limb.val cur * 10 ^ j + gq = numOf s k ∧ (k = s.size → j = 0)

set_option maxHeartbeats 4000000 in
theorem parse_ok (s : ByteArray) (w : World) (hs : s.size ≤ 4000) (hd : allDig s) (h0 : s.size ≠ 0) : Calls Try.prog 16 #[.string s] w (LeftPost (numOf s s.size) w) := by
  have hda := allDigits_any s true w (by omega) (by simp only [true_iff]; exact ⟨hd, h0⟩)
  have HD := hide hd
  have HLT := hide (fun i hi => numOf_lt s hd i hi)
  have hroom := hide (Dec.limbs_room s.size)
  have en : (s.size : Int) / 9 + 1 = ((s.size / 9 + 1 : Nat) : Int) := by omega
  have hn : s.size / 9 + 1 ≤ 445 := by omega
  generalize s.size / 9 + 1 = n at *
  clear hd
  go_enter Try.func16, Try.ntmps16
  go_wp2_with fail
  refine hda.mono ?_
  rintro e w1 ⟨rfl, hw1⟩
  have b1 : Below w.heap.size w w1 := by obtain ⟨k, rfl⟩ := hw1; exact bl_drewN w k
  clear hw1 hda
  go_wp2_with (at_make; refine wpList_make_u32 _ rfl _ _ rfl _ n rfl rfl (by omega) (by omega) ?_; intro w2 hr2 hb2 hs2)
  have t2 := b1.next hb2
  have hg : w.heap.size ≤ w1.heap.size := b1.size
  generalize w1.heap.size = g at *
  go_loopw [5, 6, 23] (fun a b i wr => ∃ k gq wq : Nat, k ≤ s.size ∧ i = .int .i64 (k : Int) ∧ a = .int .u32 (gq : Int) ∧ b = .int .u32 (wq : Int) ∧ Hid (PsRel s g n w k gq wq wr)) (fun _ _ i _ => s.size - (intOf i).toNat)
  case atStart => exact ⟨0, 0, 1, Nat.zero_le _, rfl, rfl, rfl, List.replicate n 0, 0, by simp, Limb.Ok.replicate n, hr2, t2, by omega, rfl, by omega, by rw [Limb.val_replicate]; rfl, fun _ => rfl⟩
  case round =>
    clear hr2 t2 hb2
    obtain ⟨k, gq, wq, hk, rfl, rfl, rfl, R⟩ := hrel
    by_cases hkn : k < s.size
    · have hbe := byteAt_eq s k hkn
      have hdk := HD.out k hkn
      rw [hbe] at hdk
      have hnum := hide (show numOf s (k + 1) = numOf s k * 10 + ((s[k]'hkn).toNat - 48) by
        show Dec.upto _ (k + 1) = _
        rw [Dec.upto, hbe]; rfl)
      obtain ⟨cur, j, hl, ho, hr, hb, hj, hw, hq, hv, -⟩ := R.out
      have hten := ten_next j hj
      have hle := ten_le j hj
      have hcl := hide hl
      have hval := hide hv
      rw [← hw] at hten hle hq hval
      clear R hbe hl hv
      obtain ⟨bt, hB⟩ : ∃ bt, (s[k]'hkn).toNat = bt := ⟨_, rfl⟩
      rw [hB] at hdk hnum
      have e5 : ((wq * 10 : Nat) : Int) = (wq : Int) * 10 := by omega
      have e6 : ((gq * 10 + (bt - 48) : Nat) : Int) = (gq : Int) * 10 + ((bt : Int) - 48) := by omega
      have hstep := hide (parse_alg _ _ _ (bt - 48) _ hval.out)
      have HW := hide hw
      clear hw
      by_cases hlast : wq * 10 = 1000000000 ∨ k + 1 = s.size
      · have hsc := scale_any g n (wq * 10) (gq * 10 + (bt - 48)) cur wr hr ho (by rw [hcl.out]; omega) (by omega) (by omega)
        unfold ScPost at hsc
        rw [hcl.out, e5, e6] at hsc
        have hlt := hide (HLT.out (k + 1) (by omega))
        have hcase : ((wq : Int) * 10 == 1000000000) = true ∨ (((wq : Int) * 10 == 1000000000) = false ∧ ((k : Int) == (s.size : Int) - 1) = true) := by
          by_cases h9 : wq * 10 = 1000000000
          · left; simp; omega
          · right
            have : k + 1 = s.size := by omega
            constructor
            · simp; omega
            · simp; omega
        clear e5 e6 hlast hten
        rcases hcase with c1 | ⟨c1, c2⟩
        all_goals
          go_wp2_with fail
          refine hsc.mono ?_
          rintro e w3 ⟨cur3, cy, rfl, hl3, ho3, hr3, hon3, hv3⟩
          have hL3 := hide hl3
          have hv4 := hv3.out
          rw [hstep.out, ← hnum.out] at hv4
          have hv5 := hide (Limb.carry_zero _ _ _ _ hv4 (Nat.lt_of_lt_of_le hlt.out (Nat.le_of_lt (Nat.lt_of_le_of_lt (Nat.pow_le_pow_right (by omega) (by omega)) hroom.out))))
          have hb3 := hb.trans (hon3.below hb.size hg)
          clear hv3 hv4 hl3
          go_wp2_with fail
          go_roundw
          case rel => exact ⟨k + 1, 0, 1, by omega, by go_num, rfl, rfl, cur3, 0, hL3.out, ho3, hr3, hb3, by omega, rfl, by omega, by rw [Nat.pow_zero, Nat.mul_one, Nat.add_zero]; exact hv5.out, fun _ => rfl⟩
          case measure => simp [intOf]; omega
      · have hj8 : j + 1 ≤ 8 := by omega
        have c1 : ((wq : Int) * 10 == 1000000000) = false := by simp; omega
        have c2 : ((k : Int) == (s.size : Int) - 1) = false := by simp; omega
        have hk1 : k + 1 ≠ s.size := by omega
        clear hlast hten
        go_wp2_with fail
        go_roundw
        case rel => exact ⟨k + 1, gq * 10 + (bt - 48), wq * 10, by omega, by go_num, by rw [e6], by rw [e5], cur, j + 1, hcl.out, ho, hr, hb, hj8, by rw [Nat.pow_succ, ← HW.out], by rw [Nat.pow_succ, ← HW.out]; omega, by rw [Nat.pow_succ, ← HW.out, hnum.out]; exact hstep.out, fun h => absurd h hk1⟩
        case measure => simp [intOf]; omega
    · obtain rfl : k = s.size := by omega
      obtain ⟨cur, j, hl, ho, hr, hb, hj, hw, hq, hv, hj0⟩ := R.out
      have hj1 := hj0 rfl
      subst hj1
      rw [Nat.pow_zero] at hq hv hw
      have hval := hide (show Limb.val cur = numOf s s.size by omega)
      have hcl := hide hl
      clear hl hv R
      go_wp2_with fail
      refine (trimmed_row g n n (numOf s s.size) w.heap.size cur wr hr ho (by rw [hcl.out]; exact Nat.le_refl _) (Nat.le_refl _) (by omega) hg (by rw [List.take_of_length_le (by rw [hcl.out]; exact Nat.le_refl _)]; exact hval.out)).mono ?_
      rintro e w' ⟨A', m, rfl, how, rfl⟩
      go_wp2_with fail
      go_ret2
      exact ⟨A', m, rfl, how, hb⟩
end Go.Proofs.Ytlihnagfmfpdcaa
/- plumblineref01.Parse. -/
namespace Go.Proofs.Ytlihnagfmfpdcaa
open Go.RowKit
open Limb (limb limb_lt upto upto_succ upto_all upto_zero)

theorem rparse_long (s : ByteArray) (w : World) (h : 4000 < s.size) (hs : s.size ≤ 9223372036854775807) : Calls Try.prog 17 #[.string s] w (ErrB 2 w) := by
  go_enter Try.func17, Try.ntmps17
  go_wp2_with fail
  go_ret2
  exact ⟨rfl, Below.refl _ _⟩
def RPPost (s : ByteArray) (w : World) (e : Ending) (w' : World) : Prop :=
  (allDig s ∧ s.size ≠ 0 → RefTwoPost (numOf s s.size) w e w') ∧ (¬ (allDig s ∧ s.size ≠ 0) → ErrB 20 w e w')
def RPRel (s : ByteArray) (w : World) (k : Nat) (v : Value) (wr : World) : Prop :=
  ∃ (B : Option Addr) (m c : Nat) (ys : List Nat), v = .slice B m c ∧ Nums wr B m ys ∧ m ≤ c ∧ c ≤ 9223372036854775807 ∧ m ≤ 446 ∧ Hid (Limb.val ys = numOf s k) ∧ Below w.heap.size w wr ∧ Hid (∀ j, j < k → 48 ≤ byteAt s j ∧ byteAt s j ≤ 57)

theorem len_cap {w : World} {A : Option Addr} {n N k : Nat} (h : Nums w A n (Limb.canon N)) (hN : N < 10 ^ k) (hk : k ≤ 4005) : n ≤ 446 := by
  obtain ⟨M, hM⟩ : ∃ M : Nat, M = 4005 := ⟨_, rfl⟩
  have h1 : n ≤ M / 9 + 1 := short_canon h (Nat.lt_of_lt_of_le hN (Nat.le_of_lt (Nat.lt_of_le_of_lt (Nat.pow_le_pow_right (by omega) (show k ≤ M by omega)) (Dec.limbs_room M))))
  omega
set_option maxHeartbeats 4000000 in
theorem rparse_any (s : ByteArray) (w : World) (hs : s.size ≤ 4000) : Calls Try.prog 17 #[.string s] w (RPPost s w) := by
  go_enter Try.func17, Try.ntmps17
  go_wp2_with fail
  go_loopw [4, 5] (fun v i wr => ∃ k : Nat, k ≤ s.size ∧ i = .int .i64 (k : Int) ∧ RPRel s w k v wr) (fun _ i _ => s.size - (intOf i).toNat)
  case atStart => exact ⟨0, Nat.zero_le _, rfl, _, 0, 0, [], rfl, Nums.nil _ _, by omega, by omega, by omega, rfl, bl_alloc w _, fun j hj => absurd hj (by omega)⟩
  case round =>
    obtain ⟨k, hk, rfl, B, m, c, ys, rfl, oB, lc, lc9, lm, HV, tr, HD⟩ := hrel
    by_cases hkn : k < s.size
    · have hbe := byteAt_eq s k hkn
      by_cases hd : 48 ≤ byteAt s k ∧ byteAt s k ≤ 57
      · have hD2 : Hid (∀ j, j < k + 1 → 48 ≤ byteAt s j ∧ byteAt s j ≤ 57) := fun j hj => by
          rcases Nat.eq_or_lt_of_le (Nat.le_of_lt_succ hj) with h | h
          · subst h; exact hd
          · exact HD.out j h
        have hnum := hide (show numOf s (k + 1) = numOf s k * 10 + ((s[k]'hkn).toNat - 48) by
          show Dec.upto _ (k + 1) = _
          rw [Dec.upto, hbe]; rfl)
        have hlt := hide (show numOf s (k + 1) < 10 ^ (k + 1) from Dec.upto_lt _ (k + 1) (fun j hj => by have := hD2.out j hj; omega))
        rw [hbe] at hd
        obtain ⟨bt, hB⟩ : ∃ bt, (s[k]'hkn).toNat = bt := ⟨_, rfl⟩
        rw [hB] at hd hnum
        clear hbe
        have eus : (#[.int .u32 ((bt : Int) - 48)] : Array Value) = (u32s [bt - 48]).toArray := by
          simp [u32s]; omega
        have hok : Limb.Ok [bt - 48] := Limb.Ok.cons (by omega) Limb.Ok.nil
        have EUS := hide eus
        have hw1 : IntKind.u8.wrap ((bt : Int) - 48) = (bt : Int) - 48 := by simp [IntKind.wrap, IntKind.bits, IntKind.signed]; omega
        have hw2 : IntKind.u32.wrap ((bt : Int) - 48) = (bt : Int) - 48 := by simp [IntKind.wrap, IntKind.bits, IntKind.signed]; omega
        have hm10 := hide (show Limb.val ys * 10 < 4294967296 ^ (m + 1) by have := oB.lt; rw [Nat.pow_succ]; omega)
        clear eus
        go_wp2_with fail
        go_region_with (first
          | (go_at_call 55; refine (small_any B m c ys 10 _ ?_ (by omega) (by omega)).mono ?_; (first | exact oB.drew | exact (oB.drew).alloc _); rintro e w1 ⟨A1, n1, c1, rfl, o1, l1, m1, b1⟩; have ln1 : n1 ≤ m + 1 := short_canon o1 hm10.out)
          | (go_at_call 54; refine (radd_any A1 _ n1 c1 1 1 (Limb.canon (Limb.val ys * 10)) [bt - 48] _ ?_ ?_ (by omega) (by omega)).mono ?_; (first | exact o1 | exact o1.alloc _); (first | exact Nums.new _ _ _ EUS.out hok 1 rfl | exact (Nums.new wr [bt - 48] _ EUS.out hok 1 rfl).drew.below b1 | exact (Nums.new wr.drew [bt - 48] _ EUS.out hok 1 rfl).below b1); rintro e w2 ⟨A2, n2, c2, rfl, o2, l2, m2, b2⟩))
        all_goals
          rw [Limb.val_canon, HV.out, show Limb.val [bt - 48] = bt - 48 by simp [Limb.val], ← hnum.out] at o2
          have ln2 : n2 ≤ 446 := len_cap o2 hlt.out (by omega)
          have t2 : Below w.heap.size w w2 := by first | exact ((tr.drew.next b1).next (bl_alloc w1 _)).next b2 | exact ((tr.next (bl_alloc wr _)).drew.next b1).next b2 | exact ((tr.drew.next (bl_alloc wr.drew _)).next b1).next b2
          go_wp2_with fail
          go_roundw
          case rel => exact ⟨k + 1, by omega, by go_num, A2, n2, c2, _, rfl, o2, l2, m2, ln2, by show _ = _; rw [Limb.val_canon], t2, hD2⟩
          case measure => simp [intOf]; omega
      · have hno : Hid (¬ (allDig s ∧ s.size ≠ 0)) := fun h => hd (h.1 k hkn)
        rw [hbe] at hd
        by_cases g1 : (48 : Int) ≤ ((s[k]'hkn).toNat : Int)
        · have g2 : ¬ ((s[k]'hkn).toNat : Int) ≤ 57 := by omega
          clear hd hbe
          go_wp2_with fail
          go_ret2
          exact ⟨fun h => absurd h hno.out, fun _ => ⟨rfl, tr⟩⟩
        · clear hd hbe
          go_wp2_with fail
          go_ret2
          exact ⟨fun h => absurd h hno.out, fun _ => ⟨rfl, tr⟩⟩
    · obtain rfl : k = s.size := by omega
      have hall := hide (show allDig s from fun i hi => HD.out i hi)
      by_cases h0 : s.size = 0
      · have hno : Hid (¬ (allDig s ∧ s.size ≠ 0)) := fun h => h.2 h0
        have c1 : ((s.size : Int) == 0) = true := by rw [h0]; rfl
        clear h0
        go_wp2_with fail
        go_ret2
        exact ⟨fun h => absurd h hno.out, fun _ => ⟨rfl, tr⟩⟩
      · have hyes : Hid (allDig s ∧ s.size ≠ 0) := ⟨hall.out, h0⟩
        have c1 : ((s.size : Int) == 0) = false := beq_eq_false_iff_ne.2 (by omega)
        clear h0
        go_wp2_with fail
        refine (rtrim_any B m c ys wr oB (by omega)).mono ?_
        rintro e w2 ⟨A2, n2, c2, rfl, o2, l2, m2, b2⟩
        rw [HV.out] at o2
        go_wp2_with fail
        go_ret2
        exact ⟨fun _ => ⟨A2, n2, c2, rfl, o2, l2, m2, tr.next b2⟩, fun h => absurd hyes.out h⟩
end Go.Proofs.Ytlihnagfmfpdcaa
/- Blocks that hold an api.Int: a parameter's own, a result's own; a store into one, and what a call hands back out of one. -/
namespace Go.Proofs.Ytlihnagfmfpdcaa
open Go.RowKit

/-- Block g holds an api.Int of the cells cs. -/
def Blk (w : World) (g : Nat) (cs : Array Value) : Prop := w.heap[g]? = some (.cells cs 38 (0, 0))
theorem Blk.lt {w : World} {g : Nat} {cs : Array Value} (h : Blk w g cs) : g < w.heap.size := by
  rcases Nat.lt_or_ge g w.heap.size with hlt | hge
  · exact hlt
  · unfold Blk at h; rw [Array.getElem?_eq_none hge] at h; cases h
theorem Blk.c0 {w : World} {g : Nat} {x y : Value} (h : Blk w g #[x, y]) : w.cell? ⟨g, 0, none⟩ = some x := by
  rw [cell_of_row w g 0 _ _ _ h]; rfl
theorem Blk.c1 {w : World} {g : Nat} {x y : Value} (h : Blk w g #[x, y]) : w.cell? ⟨g, 1, none⟩ = some y := by
  rw [cell_of_row w g 1 _ _ _ h]; rfl
theorem Blk.fr {w : World} {g : Nat} {cs : Array Value} (h : Blk w g cs) (i : Nat) : w.frozen? ⟨g, i, none⟩ = false := by
  unfold Blk at h; simp [World.frozen?, h]
theorem Blk.below {w w' : World} {g B : Nat} {cs : Array Value} (h : Blk w g cs) (hb : Below B w w') (hg : g < B) : Blk w' g cs := (hb.block g hg).trans h
theorem Blk.next {w w' : World} {g : Nat} {cs : Array Value} (h : Blk w g cs) (hb : Below w.heap.size w w') : Blk w' g cs := h.below hb h.lt
theorem Blk.new (w : World) (cs : Array Value) : Blk (w.alloc (.cells cs 38)) w.heap.size cs := heap_alloc_new w _
theorem Blk.alloc {w : World} {g : Nat} {cs : Array Value} (h : Blk w g cs) (o : Obj) : Blk (w.alloc o) g cs := h.next (bl_alloc w o)
theorem Blk.drew {w : World} {g : Nat} {cs : Array Value} (h : Blk w g cs) : Blk w.drew g cs := h
theorem Blk.drewN {w : World} {g : Nat} {cs : Array Value} (h : Blk w g cs) (k : Nat) : Blk (w.drewN k) g cs := h
theorem Blk.other {w w' : World} {g r : Nat} {cs : Array Value} (h : Blk w g cs) (ho : Only r w w') (hne : g ≠ r) : Blk w' g cs :=
  (ho.block g h.lt (fun hh => hne (by injection hh))).trans h
theorem size_alloc (w : World) (o : Obj) : (w.alloc o).heap.size = w.heap.size + 1 := by
  show (w.heap.push o).size = _
  simp

/-- A fresh block beside what was there. -/
theorem zstart1 (w : World) (X : Array Value) : Blk (w.alloc (.cells X 38)) w.heap.size X ∧ Below w.heap.size w (w.alloc (.cells X 38)) ∧ (w.alloc (.cells X 38)).heap.size = w.heap.size + 1 :=
  ⟨Blk.new w X, bl_alloc w _, size_alloc w _⟩
theorem zstart2 (w : World) (X Y : Array Value) : Blk ((w.alloc (.cells X 38)).alloc (.cells Y 38)) w.heap.size X ∧ Blk ((w.alloc (.cells X 38)).alloc (.cells Y 38)) (w.heap.size + 1) Y ∧
    Below w.heap.size w ((w.alloc (.cells X 38)).alloc (.cells Y 38)) ∧ ((w.alloc (.cells X 38)).alloc (.cells Y 38)).heap.size = w.heap.size + 2 := by
  obtain ⟨h1, h2, h3⟩ := zstart1 w X
  obtain ⟨k1, k2, k3⟩ := zstart1 (w.alloc (.cells X 38)) Y
  rw [h3] at k1 k3
  exact ⟨h1.alloc _, k1, h2.next (bl_alloc _ _), by omega⟩
theorem zstart3 (w : World) (X Y Z : Array Value) : Blk (((w.alloc (.cells X 38)).alloc (.cells Y 38)).alloc (.cells Z 38)) w.heap.size X ∧ Blk (((w.alloc (.cells X 38)).alloc (.cells Y 38)).alloc (.cells Z 38)) (w.heap.size + 1) Y ∧
    Blk (((w.alloc (.cells X 38)).alloc (.cells Y 38)).alloc (.cells Z 38)) (w.heap.size + 1 + 1) Z ∧
    Below w.heap.size w (((w.alloc (.cells X 38)).alloc (.cells Y 38)).alloc (.cells Z 38)) ∧ (((w.alloc (.cells X 38)).alloc (.cells Y 38)).alloc (.cells Z 38)).heap.size = w.heap.size + 3 := by
  obtain ⟨h1, h2, h3, h4⟩ := zstart2 w X Y
  obtain ⟨k1, k2, k3⟩ := zstart1 ((w.alloc (.cells X 38)).alloc (.cells Y 38)) Z
  rw [h4] at k1 k3
  have e2 : w.heap.size + 2 = w.heap.size + 1 + 1 := rfl
  rw [e2] at k1
  exact ⟨h1.alloc _, h2.alloc _, k1, h3.next (bl_alloc _ _), by omega⟩

theorem wpList_store_z {w : World} {ops : Array Oper} {rest : List Oper} {o : Oper} {a : Act} {Q : Exit → Act → World → Prop} (hgd : o.guard = none) (x y : Operand) (ho : o.op = .store 38 x y)
    (g : Nat) (s : Bool) (A : Option Addr) (n c : Nat) (hx : a.eval x = .pointer (some ⟨g, 0, none⟩)) (hy : a.eval y = .agg #[.bool s, .slice A n c]) (u v : Value) (hb : Blk w g #[u, v])
    (h : ∀ w', Blk w' g #[.bool s, .slice A n c] → Only g w w' → wpList Try.prog ops Q rest (a.put o.dst undef) w') : wpList Try.prog ops Q (o :: rest) a w := by
  refine wpList_store_row hgd 38 x y ho g #[.bool s, .slice A n c] hx hy 38 #[u, v] hb (by kernel_rfl) rfl (by simp [Value.oneCell']) ?_
  refine h _ ?_ (only_setRow w g _)
  have := setRow_heap w g #[u, v] #[.bool s, .slice A n c] _ _ hb
  exact this

theorem Blk.set2 {w : World} {g : Nat} {u v : Value} (h : Blk w g #[u, v]) (x y : Value) : Blk ((w.setCell ⟨g, 0, none⟩ x).setCell ⟨g, 1, none⟩ y) g #[x, y] := by
  unfold Blk at h ⊢
  simp [World.setCell, Array.getElem?_modify, h]
theorem only_set2 (w : World) (g : Nat) (x y : Value) : Only g w ((w.setCell ⟨g, 0, none⟩ x).setCell ⟨g, 1, none⟩ y) := ((Only.refl g w).setCell 0 x).setCell 1 y
theorem bodyPost_z {fn : Func} {R : Ending → World → Prop} {a : Act} {w : World} {g p : Nat} {x y : Value} (hres : fn.results = #[.cell p 38]) (hp : a.tmps.getD p undef = .pointer (some ⟨g, 0, none⟩))
    (hb : Blk w g #[x, y]) (hd : a.defers = []) (hR : R (.returned (.agg #[x, y])) w) : bodyPost Try.prog fn R .ret a w :=
  bodyPost_ret (results_cell_row hres _ _ g _ #[x, y] _ _ hp hb Try.underlying38 rfl (by kernel_rfl)) hd hR
/-- Limbs are no cells of an api.Int. -/
theorem Nums.offBlk {w : World} {A : Option Addr} {n g : Nat} {xs : List Nat} {s : Bool} {B : Option Addr} {m d : Nat} (h : Nums w A n xs) (hb : Blk w g #[.bool s, .slice B m d]) : 0 < n → Apart A g := by
  intro hn ad had he
  obtain ⟨b, o, e, hc⟩ := h.2.2 hn
  have h0 := hc 0 hn
  rw [had] at e
  injection e with e
  subst e
  have he' : b = g := he
  subst he'
  rw [cell_of_row w b _ _ _ _ hb] at h0
  match o, h0 with
  | 0, h0 => simp at h0
  | 1, h0 => simp at h0
  | o + 2, h0 => simp at h0
theorem Nums.keepBlk {w w' : World} {A : Option Addr} {n g : Nat} {xs : List Nat} {s : Bool} {B : Option Addr} {m d : Nat} (h : Nums w A n xs) (hb : Blk w g #[.bool s, .slice B m d]) (ho : Only g w w') : Nums w' A n xs := h.grown' ho (h.offBlk hb)
theorem Nums.only {w w' : World} {A : Option Addr} {n g : Nat} {xs : List Nat} (h : Nums w A n xs) (ho : Only g w w') (ha : 0 < n → Apart A g) : Nums w' A n xs := h.grown' ho ha
end Go.Proofs.Ytlihnagfmfpdcaa
