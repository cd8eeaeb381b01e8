/- Texts of one seat, put together: RefDiv BitsAny ZMem. -/
import Derived.Test.YtlihnagfmfpdcaaB02
import Derived.Test.YtlihnagfmfpdcaaB09
import Derived.Test.YtlihnagfmfpdcaaB11
import Derived.Test.YtlihnagfmfpdcaaB17
import Derived.Deep.RegionHeld3
/- plumblineref01: Bits, Bit, twice, Div. -/
namespace Go.Proofs.Ytlihnagfmfpdcaa
open Go.RowKit

def RBitsPost (N : Nat) (w : World) (e : Ending) (w' : World) : Prop := e = .returned (.int .i64 ((Limb.bl N : Nat) : Int)) ∧ Below w.heap.size w w'

theorem canon_top (N k : Nat) (h : (Limb.canon N).length = k + 1) : 0 < Limb.limb (Limb.canon N) k := by
  have hne : Limb.canon N ≠ [] := fun h0 => by rw [h0] at h; cases h
  have ht := Limb.tight_canon N hne
  rw [List.getLast_eq_getElem] at ht
  unfold Limb.limb
  rw [List.getD_eq_getElem?_getD, List.getElem?_eq_getElem (by omega)]
  have e : (Limb.canon N).length - 1 = k := by omega
  simp only [e] at ht
  exact Nat.pos_of_ne_zero ht

set_option maxHeartbeats 1000000 in
theorem rbits_any (A : Option Addr) (n c : Nat) (xs : List Nat) (w : World) (hx : Nums w A n xs) (hn : n ≤ 1099511627776) :
    Calls Try.prog 106 #[.slice A n c] w (RBitsPost (Limb.val xs) w) := by
  generalize ha : Limb.val xs = N
  have HA := Lib.hid ha
  clear ha
  go_enter Try.func106, Try.ntmps106
  go_wp2_with fail
  refine (rtrim_any A n c xs w hx (by omega)).mono ?_
  rintro e w1 ⟨A1, n1, c1, rfl, o1, l1, m1, b1⟩
  rw [HA.out] at o1
  have hl : n1 ≤ n := by
    have h1 := hx.lt
    rw [HA.out] at h1
    exact short_canon o1 h1
  have hlen := hide o1.len
  rcases Nat.eq_zero_or_pos n1 with h0 | h0
  · subst h0
    have hN : Hid (N = 0) := hide ((Limb.canon_len_zero N).1 hlen.out)
    go_wp2_with fail
    go_ret
    exact ⟨by rw [hN.out]; rfl, b1⟩
  · obtain ⟨k, hk⟩ : ∃ k, n1 = k + 1 := ⟨n1 - 1, by omega⟩
    subst hk
    obtain ⟨b, o, x, rfl, hx32, hxe, hcell⟩ := o1.at_ (i := k) (by omega)
    have hx0 := canon_top N k hlen.out
    have hbl := Limb.bl_limbs (Limb.canon N) k (Limb.ok_canon N) hlen.out hx0
    rw [Limb.val_canon] at hbl
    have e1 : Limb.limb (Limb.canon N) k = x := hxe.symm
    rw [e1] at hbl hx0
    have HB := hide hbl
    have HBN := hide (show Limb.bl N ≤ 32 * k + 32 by have := Limb.bl_le x 32 hx32; omega)
    clear hbl e1 hxe
    go_wp2_with fail
    go_loopw [4, 5] (fun p t wr => ∃ q u : Nat, u < 4294967296 ∧ p = .int .i64 (q : Int) ∧ t = .int .u32 (u : Int) ∧ q ≤ 70368744177664 ∧ Hid (Limb.bl N = q + Limb.bl u) ∧ wr = w1) (fun _ t _ => (intOf t).toNat)
    case atStart => exact ⟨32 * k, x, hx32, by go_num, rfl, by omega, HB, rfl⟩
    case round =>
      obtain ⟨q, u, hu, rfl, rfl, hq, HQ, rfl⟩ := hrel
      by_cases hu0 : 0 < u
      · go_wp2_with fail
        go_roundw
        case rel => exact ⟨q + 1, u / 2, by omega, by go_num, by go_num, by have h1 := HQ.out; have h2 := HBN.out; rw [Limb.bl_half u hu0] at h1; omega, hide (by rw [HQ.out, Limb.bl_half u hu0]; omega), trivial⟩
        case measure => simp [intOf]; omega
      · obtain rfl : u = 0 := by omega
        go_wp2_with fail
        go_ret
        exact ⟨by rw [HQ.out]; rfl, b1⟩

set_option maxHeartbeats 1000000 in
theorem rbit_any (A : Option Addr) (n c : Nat) (xs : List Nat) (i : Nat) (w : World) (hx : Nums w A n xs) (hn : n ≤ 1099511627776) (hi : i ≤ 9223372036854775807) :
    Calls Try.prog 108 #[.slice A n c, .int .i64 (i : Int)] w (BoolPost (decide (Limb.val xs / 2 ^ i % 2 = 1)) w) := by
  by_cases hin : i < 32 * n
  · obtain ⟨b, o, x, rfl, hx32, hxe, hcell⟩ := hx.at_ (i := i / 32) (by omega)
    have hd := Limb.digit xs hx.ok i
    have e1 : Limb.limb xs (i / 32) = x := hxe.symm
    rw [e1] at hd
    have HD := hide hd
    clear hd e1 hxe
    obtain ⟨j, s, hs, hij⟩ : ∃ j s : Nat, s < 32 ∧ i = 32 * j + s := ⟨i / 32, i % 32, by omega, by omega⟩
    subst hij
    have hj : (32 * j + s) / 32 = j := by omega
    have hsm : (32 * j + s) % 32 = s := by omega
    rw [hsm] at HD
    clear hj hsm
    go_enter Try.func108, Try.ntmps108
    go_wp2_with fail
    go_loopw [5, 6] (fun v i wr => ∃ k y : Nat, k ≤ s ∧ y < 4294967296 ∧ i = .int .i64 (k : Int) ∧ v = .int .u32 (y : Int) ∧ Hid (y = x / 2 ^ k) ∧ ∃ q, wr = w.drewN q) (fun _ i _ => s - (intOf i).toNat)
    case atStart => exact ⟨0, x, Nat.zero_le _, hx32, rfl, rfl, hide (by simp), 0, rfl⟩
    case round =>
      obtain ⟨k, y, hk, hy, rfl, rfl, HY, q, rfl⟩ := hrel
      by_cases hks : k < s
      · go_wp2_with fail
        go_roundw
        case rel => exact ⟨k + 1, y / 2, by omega, by omega, by go_num, by go_num, hide (by rw [HY.out, Nat.pow_succ, Nat.div_div_eq_div_mul]), q, rfl⟩
        case measure => simp [intOf]; omega
      · obtain rfl : k = s := by omega
        go_wp2_with fail
        go_ret
        refine ⟨?_, q, rfl⟩
        rw [← HD.out, ← HY.out]
        have e : ((y : Int) % 2 == 1) = decide (y % 2 = 1) := by
          by_cases h1 : y % 2 = 1
          · simp [h1]; omega
          · simp [h1]; omega
        show Ending.returned (.bool ((y : Int) % 2 == 1)) = _
        rw [e]
  · have hz : Limb.val xs / 2 ^ i = 0 := by
      refine Nat.div_eq_of_lt (Nat.lt_of_lt_of_le hx.lt ?_)
      rw [Limb.two_pow32]
      exact Nat.pow_le_pow_right (by omega) (by omega)
    have hf : decide (Limb.val xs / 2 ^ i % 2 = 1) = false := by rw [hz]; rfl
    have HF := hide hf
    clear hf hz
    go_enter Try.func108, Try.ntmps108
    go_wp2_with fail
    all_goals try (exfalso; omega)
    go_ret
    exact ⟨by rw [HF.out]; rfl, 0, rfl⟩

def bitN (b : Bool) : Nat := if b then 1 else 0
set_option maxHeartbeats 1000000 in
theorem rtwice_any (A : Option Addr) (n c : Nat) (xs : List Nat) (b : Bool) (w : World) (hx : Nums w A n xs) (hc : n ≤ c) (hm : c ≤ 9223372036854775807) (hn : n ≤ 1099511627) :
    Calls Try.prog 107 #[.slice A n c, .bool b] w (RefPost (2 * Limb.val xs + bitN b) w) := by
  generalize ha : Limb.val xs = N
  have HA := Lib.hid ha
  clear ha
  cases b with
  | false =>
    go_enter Try.func107, Try.ntmps107
    go_wp2_with fail
    refine (small_any A n c xs 2 w hx (by omega) (by omega)).mono ?_
    rintro e w1 ⟨A1, n1, c1, rfl, o1, l1, m1, b1⟩
    go_wp2_with fail
    go_ret
    exact ⟨A1, n1, c1, rfl, by rw [HA.out, Nat.mul_comm] at o1; exact o1, l1, m1, b1⟩
  | true =>
    go_enter Try.func107, Try.ntmps107
    go_wp2_with fail
    refine (small_any A n c xs 2 w hx (by omega) (by omega)).mono ?_
    rintro e w1 ⟨A1, n1, c1, rfl, o1, l1, m1, b1⟩
    rw [HA.out, Nat.mul_comm] at o1
    have hl : n1 ≤ n + 1 := by
      have h1 := hx.lt
      rw [HA.out] at h1
      exact short_canon o1 (by rw [Nat.pow_succ]; omega)
    have x1 := lit1 w1 1 1 #[.int .u32 1] rfl (by omega) (by omega) rfl
    have ba := bl_alloc w1 (.cells #[.int .u32 1] 59)
    go_wp2_with fail
    refine (radd_any A1 (some ⟨w1.heap.size, 0, none⟩) n1 c1 1 1 _ _ _ (o1.below ba) x1 (by omega) (by omega)).mono ?_
    rintro e w2 ⟨A2, n2, c2, rfl, o2, l2, m2, b2⟩
    rw [Limb.val_canon, Limb.val_canon] at o2
    go_wp2_with fail
    go_ret
    exact ⟨A2, n2, c2, rfl, o2, l2, m2, (b1.next ba).next b2⟩
end Go.Proofs.Ytlihnagfmfpdcaa
/- nat.Bits; what calls answer. -/
namespace Go.Proofs.Ytlihnagfmfpdcaa
open Go.RowKit
open Limb (limb limb_lt upto upto_succ upto_all upto_zero)

theorem bitLen_bl (x : Nat) (h0 : x ≠ 0) (h : x < 4294967296) : Lib.bitLen x = Limb.bl x := by
  obtain ⟨h1, h2, h3, h4⟩ := bitLen_of x h0 h
  have := Limb.bl_spec x (Lib.bitLen x - 1) h3 (by rw [Nat.sub_add_cancel h1]; exact h4)
  omega
def BitsPost (N : Nat) (w : World) (e : Ending) (w' : World) : Prop := e = .returned (.int .i64 ((Limb.bl N : Nat) : Int)) ∧ w = w'
def Len32Post (x : Nat) (w : World) (e : Ending) (w' : World) : Prop := e = .returned (.int .i64 ((Limb.bl x : Nat) : Int)) ∧ w = w'
theorem len32_any (x : Nat) (w : World) (h0 : x ≠ 0) (h : x < 4294967296) : Calls Try.prog 100 #[.int .u32 (x : Int)] w (Len32Post x w) := by
  refine (Try.bits_Len32 (x : Int) w (by omega) (by omega)).mono ?_
  rintro e w' ⟨rfl, rfl⟩
  rw [Int.toNat_natCast, bitLen_bl x h0 h]
  exact ⟨rfl, rfl⟩

set_option maxHeartbeats 1000000 in
theorem bits_any (A : Option Addr) (n c : Nat) (xs : List Nat) (w : World) (hx : Nums w A n xs) (hc : n ≤ c) (hm : c ≤ 9223372036854775807) (hb : n ≤ 1099511627776) :
    Calls Try.prog 85 #[.slice A n c] w (BitsPost (Limb.val xs) w) := by
  have hcut := isCut_det w A xs n hx
  have hdet := trimmed_det A n c xs w hx hc hm
  generalize Limb.val xs = a at *
  obtain ⟨-, hle, hN, -⟩ := hcut
  unfold TrimDetPost at hdet
  rcases Nat.eq_zero_or_pos (L a) with h0 | h0
  · have ha : Hid (a = 0) := hide ((Limb.canon_len_zero a).1 h0)
    rw [h0] at hdet
    clear h0 hN hle
    go_enter Try.func85, Try.ntmps85
    go_wp2_with fail
    refine hdet.mono ?_
    rintro e w' ⟨rfl, rfl⟩
    go_wp2_with fail
    go_ret
    exact ⟨by rw [ha.out]; rfl, rfl⟩
  · obtain ⟨k, hk⟩ : ∃ k, L a = k + 1 := ⟨L a - 1, by omega⟩
    rw [hk] at hdet hle hN
    have hk2 : (Limb.canon a).length = k + 1 := hk
    obtain ⟨b, o, x, hA, hx32, hxe, hcell⟩ := hN.at_ (i := k) (by omega)
    have hx0 := canon_top a k hk2
    have hbl := Limb.bl_limbs (Limb.canon a) k (Limb.ok_canon a) hk2 hx0
    rw [Limb.val_canon] at hbl
    have e1 : Limb.limb (Limb.canon a) k = x := hxe.symm
    rw [e1] at hbl hx0
    have HB := hide hbl
    have hblx := Limb.bl_le x 32 hx32
    rw [hA] at hdet
    clear hbl e1 hxe hA hk hk2 hN h0
    go_enter Try.func85, Try.ntmps85
    go_wp2_with fail
    refine hdet.mono ?_
    rintro e w' ⟨rfl, rfl⟩
    go_wp2_with fail
    refine (len32_any x _ (by omega) hx32).mono ?_
    rintro e w' ⟨rfl, rfl⟩
    go_wp2_with fail
    go_ret
    exact ⟨by rw [HB.out]; go_num, rfl⟩

/-- Bit i of N; there is none below 0. -/
theorem lt_cap {w : World} {A : Option Addr} {n k : Nat} {xs : List Nat} (h : Nums w A n xs) (hk : n ≤ k) : Limb.val xs < 4294967296 ^ k := Nat.lt_of_lt_of_le h.lt (Limb.pow_mono hk)
theorem own_c {w : World} {base : Nat} {A : Option Addr} {n c N : Nat} (o : Own w base A n c N) : n ≤ 4611686018427387904 := by
  have := o.2.1
  have := o.2.2.1
  omega
def LeftPost (N : Nat) (w : World) (e : Ending) (w' : World) : Prop := ∃ A n, e = .returned (.tuple #[.slice A n n, .int .i64 0]) ∧ Own w' w.heap.size A n n N ∧ Below w.heap.size w w'
def ErrPost (k : Int) (w : World) (e : Ending) (w' : World) : Prop := e = .returned (.tuple #[.slice none 0 0, .int .i64 k]) ∧ w = w'
def RefTwoPost (N : Nat) (w : World) (e : Ending) (w' : World) : Prop := ∃ A n c, e = .returned (.tuple #[.slice A n c, .int .i64 0]) ∧ Nums w' A n (Limb.canon N) ∧ n ≤ c ∧ c ≤ 9223372036854775807 ∧ Below w.heap.size w w'
end Go.Proofs.Ytlihnagfmfpdcaa
/- Blocks that hold an api.Int: a parameter's own, a result's own; a store into one, and what a call hands back out of one. -/
namespace Go.Proofs.Ytlihnagfmfpdcaa
open Go.RowKit

/-- Block g holds an api.Int of the cells cs. -/
def Blk (w : World) (g : Nat) (cs : Array Value) : Prop := w.heap[g]? = some (.cells cs 38 (0, 0))
theorem Blk.lt {w : World} {g : Nat} {cs : Array Value} (h : Blk w g cs) : g < w.heap.size := by
  rcases Nat.lt_or_ge g w.heap.size with hlt | hge
  · exact hlt
  · unfold Blk at h; rw [Array.getElem?_eq_none hge] at h; cases h
theorem Blk.c0 {w : World} {g : Nat} {x y : Value} (h : Blk w g #[x, y]) : w.cell? ⟨g, 0, none⟩ = some x := by
  rw [cell_of_row w g 0 _ _ _ h]; rfl
theorem Blk.c1 {w : World} {g : Nat} {x y : Value} (h : Blk w g #[x, y]) : w.cell? ⟨g, 1, none⟩ = some y := by
  rw [cell_of_row w g 1 _ _ _ h]; rfl
theorem Blk.fr {w : World} {g : Nat} {cs : Array Value} (h : Blk w g cs) (i : Nat) : w.frozen? ⟨g, i, none⟩ = false := by
  unfold Blk at h; simp [World.frozen?, h]
theorem Blk.below {w w' : World} {g B : Nat} {cs : Array Value} (h : Blk w g cs) (hb : Below B w w') (hg : g < B) : Blk w' g cs := (hb.block g hg).trans h
theorem Blk.next {w w' : World} {g : Nat} {cs : Array Value} (h : Blk w g cs) (hb : Below w.heap.size w w') : Blk w' g cs := h.below hb h.lt
theorem Blk.new (w : World) (cs : Array Value) : Blk (w.alloc (.cells cs 38)) w.heap.size cs := heap_alloc_new w _
theorem Blk.alloc {w : World} {g : Nat} {cs : Array Value} (h : Blk w g cs) (o : Obj) : Blk (w.alloc o) g cs := h.next (bl_alloc w o)
theorem Blk.drew {w : World} {g : Nat} {cs : Array Value} (h : Blk w g cs) : Blk w.drew g cs := h
theorem Blk.drewN {w : World} {g : Nat} {cs : Array Value} (h : Blk w g cs) (k : Nat) : Blk (w.drewN k) g cs := h
theorem Blk.other {w w' : World} {g r : Nat} {cs : Array Value} (h : Blk w g cs) (ho : Only r w w') (hne : g ≠ r) : Blk w' g cs :=
  (ho.block g h.lt (fun hh => hne (by injection hh))).trans h
theorem size_alloc (w : World) (o : Obj) : (w.alloc o).heap.size = w.heap.size + 1 := by
  show (w.heap.push o).size = _
  simp

/-- A fresh block beside what was there. -/
theorem zstart1 (w : World) (X : Array Value) : Blk (w.alloc (.cells X 38)) w.heap.size X ∧ Below w.heap.size w (w.alloc (.cells X 38)) ∧ (w.alloc (.cells X 38)).heap.size = w.heap.size + 1 :=
  ⟨Blk.new w X, bl_alloc w _, size_alloc w _⟩
theorem zstart2 (w : World) (X Y : Array Value) : Blk ((w.alloc (.cells X 38)).alloc (.cells Y 38)) w.heap.size X ∧ Blk ((w.alloc (.cells X 38)).alloc (.cells Y 38)) (w.heap.size + 1) Y ∧
    Below w.heap.size w ((w.alloc (.cells X 38)).alloc (.cells Y 38)) ∧ ((w.alloc (.cells X 38)).alloc (.cells Y 38)).heap.size = w.heap.size + 2 := by
  obtain ⟨h1, h2, h3⟩ := zstart1 w X
  obtain ⟨k1, k2, k3⟩ := zstart1 (w.alloc (.cells X 38)) Y
  rw [h3] at k1 k3
  exact ⟨h1.alloc _, k1, h2.next (bl_alloc _ _), by omega⟩
theorem zstart3 (w : World) (X Y Z : Array Value) : Blk (((w.alloc (.cells X 38)).alloc (.cells Y 38)).alloc (.cells Z 38)) w.heap.size X ∧ Blk (((w.alloc (.cells X 38)).alloc (.cells Y 38)).alloc (.cells Z 38)) (w.heap.size + 1) Y ∧
    Blk (((w.alloc (.cells X 38)).alloc (.cells Y 38)).alloc (.cells Z 38)) (w.heap.size + 1 + 1) Z ∧
    Below w.heap.size w (((w.alloc (.cells X 38)).alloc (.cells Y 38)).alloc (.cells Z 38)) ∧ (((w.alloc (.cells X 38)).alloc (.cells Y 38)).alloc (.cells Z 38)).heap.size = w.heap.size + 3 := by
  obtain ⟨h1, h2, h3, h4⟩ := zstart2 w X Y
  obtain ⟨k1, k2, k3⟩ := zstart1 ((w.alloc (.cells X 38)).alloc (.cells Y 38)) Z
  rw [h4] at k1 k3
  have e2 : w.heap.size + 2 = w.heap.size + 1 + 1 := rfl
  rw [e2] at k1
  exact ⟨h1.alloc _, h2.alloc _, k1, h3.next (bl_alloc _ _), by omega⟩

theorem wpList_store_z {w : World} {ops : Array Oper} {rest : List Oper} {o : Oper} {a : Act} {Q : Exit → Act → World → Prop} (hgd : o.guard = none) (x y : Operand) (ho : o.op = .store 38 x y)
    (g : Nat) (s : Bool) (A : Option Addr) (n c : Nat) (hx : a.eval x = .pointer (some ⟨g, 0, none⟩)) (hy : a.eval y = .agg #[.bool s, .slice A n c]) (u v : Value) (hb : Blk w g #[u, v])
    (h : ∀ w', Blk w' g #[.bool s, .slice A n c] → Only g w w' → wpList Try.prog ops Q rest (a.put o.dst undef) w') : wpList Try.prog ops Q (o :: rest) a w := by
  refine wpList_store_row hgd 38 x y ho g #[.bool s, .slice A n c] hx hy 38 #[u, v] hb (by kernel_rfl) rfl (by simp [Value.oneCell']) ?_
  refine h _ ?_ (only_setRow w g _)
  have := setRow_heap w g #[u, v] #[.bool s, .slice A n c] _ _ hb
  exact this

theorem Blk.set2 {w : World} {g : Nat} {u v : Value} (h : Blk w g #[u, v]) (x y : Value) : Blk ((w.setCell ⟨g, 0, none⟩ x).setCell ⟨g, 1, none⟩ y) g #[x, y] := by
  unfold Blk at h ⊢
  simp [World.setCell, Array.getElem?_modify, h]
theorem only_set2 (w : World) (g : Nat) (x y : Value) : Only g w ((w.setCell ⟨g, 0, none⟩ x).setCell ⟨g, 1, none⟩ y) := ((Only.refl g w).setCell 0 x).setCell 1 y
theorem bodyPost_z {fn : Func} {R : Ending → World → Prop} {a : Act} {w : World} {g p : Nat} {x y : Value} (hres : fn.results = #[.cell p 38]) (hp : a.tmps.getD p undef = .pointer (some ⟨g, 0, none⟩))
    (hb : Blk w g #[x, y]) (hd : a.defers = []) (hR : R (.returned (.agg #[x, y])) w) : bodyPost Try.prog fn R .ret a w :=
  bodyPost_ret (results_cell_row hres _ _ g _ #[x, y] _ _ hp hb Try.underlying38 rfl (by kernel_rfl)) hd hR
/-- Limbs are no cells of an api.Int. -/
theorem Nums.offBlk {w : World} {A : Option Addr} {n g : Nat} {xs : List Nat} {s : Bool} {B : Option Addr} {m d : Nat} (h : Nums w A n xs) (hb : Blk w g #[.bool s, .slice B m d]) : 0 < n → Apart A g := by
  intro hn ad had he
  obtain ⟨b, o, e, hc⟩ := h.2.2 hn
  have h0 := hc 0 hn
  rw [had] at e
  injection e with e
  subst e
  have he' : b = g := he
  subst he'
  rw [cell_of_row w b _ _ _ _ hb] at h0
  match o, h0 with
  | 0, h0 => simp at h0
  | 1, h0 => simp at h0
  | o + 2, h0 => simp at h0
theorem Nums.keepBlk {w w' : World} {A : Option Addr} {n g : Nat} {xs : List Nat} {s : Bool} {B : Option Addr} {m d : Nat} (h : Nums w A n xs) (hb : Blk w g #[.bool s, .slice B m d]) (ho : Only g w w') : Nums w' A n xs := h.grown' ho (h.offBlk hb)
theorem Nums.only {w w' : World} {A : Option Addr} {n g : Nat} {xs : List Nat} (h : Nums w A n xs) (ho : Only g w w') (ha : 0 < n → Apart A g) : Nums w' A n xs := h.grown' ho ha
end Go.Proofs.Ytlihnagfmfpdcaa
