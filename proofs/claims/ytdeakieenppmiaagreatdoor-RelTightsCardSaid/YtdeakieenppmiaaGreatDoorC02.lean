/- Texts of one seat, put together: Base Trim Cmp. -/
import Derived.Test.YtdeakieenppmiaaGreatDoorChecked
import Derived.Test.YtdeakieenppmiaaGreatDoorC01
import Derived.WalkKit
import Derived.WalkSpells
import Derived.WalkLawsBesides
import Derived.Lib.Hide
import Derived.Laws.CopyOwn
import Derived.Deep.RegionLaw
import Derived.Deep.QuietTactic
import Derived.BigQuiet
import Derived.Deep.DeepFit
set_option linter.unusedVariables false
set_option linter.unusedSimpArgs false
set_option maxRecDepth 100000
set_option maxHeartbeats 16000000
/- Slices of limbs in memory: what an argument reads as, what a call hands back, a row that is known whole. -/
namespace Go.Proofs.YtdeakieenppmiaaGreatDoor
open Go.RowKit

def u32s (xs : List Nat) : List Value := xs.map fun (x : Nat) => Value.int .u32 (x : Int)
theorem u32s_length (xs : List Nat) : (u32s xs).length = xs.length := by simp [u32s]
theorem u32s_get (xs : List Nat) (i : Nat) (h : i < xs.length) : (u32s xs)[i]? = some (.int .u32 ((xs.getD i 0 : Nat) : Int)) := by
 simp [u32s, List.getElem?_map, List.getD_eq_getElem?_getD, List.getElem?_eq_getElem h]
theorem u32s_append (xs ys : List Nat) : u32s (xs ++ ys) = u32s xs ++ u32s ys := by simp [u32s]
theorem u32s_take (xs : List Nat) (n : Nat) : u32s (xs.take n) = (u32s xs).take n := by simp [u32s, List.map_take]
theorem u32s_drop (xs : List Nat) (n : Nat) : u32s (xs.drop n) = (u32s xs).drop n := by simp [u32s, List.map_drop]
theorem u32s_replicate (n : Nat) : u32s (List.replicate n 0) = List.replicate n (.int .u32 0) := by simp [u32s]
theorem u32s_one (xs : List Nat) : ∀ u ∈ u32s xs, u.oneCell' = true := by
 intro u hu
 obtain ⟨x, _, rfl⟩ := List.mem_map.1 hu
 rfl
/-- The slice (A, n) reads as the limbs xs. -/
def Nums (w : World) (A : Option Addr) (n : Nat) (xs : List Nat) : Prop :=
 xs.length = n ∧ Limb.Ok xs ∧ (0 < n → ∃ b o, A = some ⟨b, o, none⟩ ∧ ∀ i, i < n → w.cell? ⟨b, o + i, none⟩ = some (.int .u32 ((xs.getD i 0 : Nat) : Int)))

/-- Block g is a row of just the limbs zs. -/
def Row (w : World) (g : Nat) (zs : List Nat) : Prop := w.heap[g]? = some (.cells (u32s zs).toArray 92 (0, 0))

/-- The slice is apart from block g. -/
def Apart (A : Option Addr) (g : Nat) : Prop := ∀ ad, A = some ad → ad.block ≠ g

/-- What a call hands back: the number N, in memory from block base on. -/
def Own (w : World) (base : Nat) (A : Option Addr) (n c : Nat) (N : Nat) : Prop :=
 n = (Limb.canon N).length ∧ n ≤ c ∧ c ≤ 4611686018427387904 ∧ (N ≠ 0 → ∃ g zs, A = some ⟨g, 0, none⟩ ∧ base ≤ g ∧ Row w g zs ∧ Limb.Ok zs ∧ c ≤ zs.length ∧ zs.take n = Limb.canon N)

section
variable {w w' : World} {A : Option Addr} {n c g N base : Nat} {xs zs : List Nat}

theorem Nums.len (h : Nums w A n xs) : xs.length = n := h.1
theorem Nums.ok (h : Nums w A n xs) : Limb.Ok xs := h.2.1
theorem Nums.nil (w : World) (A : Option Addr) : Nums w A 0 [] := ⟨rfl, Limb.Ok.nil, fun h => absurd h (by omega)⟩
theorem Nums.at_ {i : Nat} (h : Nums w A n xs) (hi : i < n) : ∃ b o x, A = some ⟨b, o, none⟩ ∧ x < 4294967296 ∧ x = xs.getD i 0 ∧ w.cell? ⟨b, o + i, none⟩ = some (.int .u32 (x : Int)) := by
 obtain ⟨b, o, e, hc⟩ := h.2.2 (by omega)
 exact ⟨b, o, _, e, h.2.1.getD i, rfl, hc i hi⟩
theorem Nums.keep (h : Nums w A n xs) (hk : ∀ b, b < w.heap.size → (∀ ad, A = some ad → ad.block = b → w'.heap[b]? = w.heap[b]?)) : Nums w' A n xs := by
 refine ⟨h.1, h.2.1, fun hn => ?_⟩
 obtain ⟨b, o, e, hc⟩ := h.2.2 hn
 refine ⟨b, o, e, fun i hi => ?_⟩
 have h1 := hc i hi
 have hlt := World.block_lt_of_cell? w _ h1
 have hb : w'.heap[b]? = w.heap[b]? := hk b hlt ⟨b, o, none⟩ e rfl
 exact (World.cell?_of_block (w := w) (a := ⟨b, o + i, none⟩) hb).trans h1
theorem Nums.below (h : Nums w A n xs) (hb : Below w.heap.size w w') : Nums w' A n xs := h.keep fun b hlt _ _ _ => hb.block b hlt
theorem Nums.grown (h : Nums w A n xs) (hg : w.grownBy w' (some g)) (ha : Apart A g) : Nums w' A n xs :=
 h.keep fun b hlt ad e he => hg.block b hlt (fun hh => ha ad e (by injection hh with hh; omega))
theorem Nums.grown' (h : Nums w A n xs) (hg : w.grownBy w' (some g)) (ha : 0 < n → Apart A g) : Nums w' A n xs := by
 rcases Nat.eq_zero_or_pos n with h0 | h0
 · subst h0
   exact ⟨h.1, h.2.1, fun hh => absurd hh (by omega)⟩
 · exact h.grown hg (ha h0)
theorem Nums.grownNone (h : Nums w A n xs) (hg : w.grownBy w' none) : Nums w' A n xs :=
 h.keep fun b hlt _ _ _ => hg.block b hlt (fun hh => by cases hh)
theorem Nums.alloc (h : Nums w A n xs) (o : Obj) : Nums (w.alloc o) A n xs := h.keep fun b hlt _ _ _ => Below.heap_alloc w o b hlt
theorem Nums.drew (h : Nums w A n xs) : Nums w.drew A n xs := h
theorem Nums.drewN (h : Nums w A n xs) (k : Nat) : Nums (w.drewN k) A n xs := h
theorem Nums.setCell (h : Nums w A n xs) (p : Addr) (u : Value) (ha : Apart A p.block) : Nums (w.setCell p u) A n xs :=
 h.keep fun b _ ad e he => Below.heap_setCell w p u b (fun hh => ha ad e (by omega))
theorem Nums.apart (h : Nums w A n xs) (hn : 0 < n) (hg : w.heap.size ≤ g) : Apart A g := by
 intro ad e
 obtain ⟨b, o, e', hc⟩ := h.2.2 hn
 have hlt := World.block_lt_of_cell? w _ (hc 0 hn)
 rw [e] at e'
 injection e' with e'
 subst e'
 show b ≠ g
 have : b < w.heap.size := hlt
 omega
theorem Nums.take (h : Nums w A n xs) {k : Nat} (hk : k ≤ n) : Nums w A k (xs.take k) := by
 refine ⟨by rw [List.length_take, h.1]; omega, h.2.1.take k, fun h0 => ?_⟩
 obtain ⟨b, o, e, hc⟩ := h.2.2 (by omega)
 refine ⟨b, o, e, fun i hi => ?_⟩
 rw [hc i (by omega)]
 simp [List.getD_eq_getElem?_getD, List.getElem?_take_of_lt hi]
theorem Nums.cut (h : Nums w A n xs) {k cap : Nat} (hk : k ≤ n) (hc : n ≤ cap) : Nums w (if cap = k then A else A.map (·.add k)) (n - k) (xs.drop k) := by
 refine ⟨by rw [List.length_drop, h.1], h.2.1.drop k, fun hn => ?_⟩
 obtain ⟨b, o, rfl, hcell⟩ := h.2.2 (by omega)
 rw [if_neg (by omega)]
 refine ⟨b, o + k, by simp [Addr.add], fun i hi => ?_⟩
 rw [Nat.add_assoc, hcell (k + i) (by omega)]
 simp [List.getD_eq_getElem?_getD, List.getElem?_drop]

theorem Row.lt (h : Row w g zs) : g < w.heap.size := by
 rcases Nat.lt_or_ge g w.heap.size with hlt | hge
 · exact hlt
 · unfold Row at h; rw [Array.getElem?_eq_none hge] at h; cases h
theorem Row.cell {i : Nat} (h : Row w g zs) (hi : i < zs.length) : w.cell? ⟨g, i, none⟩ = some (.int .u32 ((zs.getD i 0 : Nat) : Int)) := by
 rw [cell_of_row w g i _ _ _ h, List.getElem?_toArray, u32s_get zs i hi]
theorem Row.frozen (h : Row w g zs) (i : Nat) : w.frozen? ⟨g, i, none⟩ = false := by
 unfold Row at h
 simp [World.frozen?, h]
theorem Row.set_ (h : Row w g zs) (i v : Nat) : Row (w.setCell ⟨g, i, none⟩ (.int .u32 (v : Int))) g (zs.set i v) := by
 unfold Row at h ⊢
 simp [World.setCell, Array.getElem?_modify, h, u32s, List.map_set]
theorem Row.keep (h : Row w g zs) (hk : w'.heap[g]? = w.heap[g]?) : Row w' g zs := hk.trans h
theorem Row.below {B : Nat} (h : Row w g zs) (hb : Below B w w') (hg : g < B) : Row w' g zs := h.keep (hb.block g hg)
theorem Row.grown {r : Option Nat} (h : Row w g zs) (hb : w.grownBy w' r) (hg : some g ≠ r) : Row w' g zs := h.keep (hb.block g h.lt hg)
theorem Row.far (h : Row w g zs) {p : Addr} (hp : g ≠ p.block) (u : Value) : Row (w.setCell p u) g zs := h.keep (Below.heap_setCell w p u g hp)
theorem Row.drew (h : Row w g zs) : Row w.drew g zs := h
theorem Row.drewN (h : Row w g zs) (k : Nat) : Row (w.drewN k) g zs := h
theorem Row.nums (h : Row w g zs) (ho : Limb.Ok zs) {o n : Nat} (hn : o + n ≤ zs.length) : Nums w (some ⟨g, o, none⟩) n ((zs.drop o).take n) := by
 refine ⟨by rw [List.length_take, List.length_drop]; omega, (ho.drop o).take n, fun _ => ⟨g, o, rfl, fun i hi => ?_⟩⟩
 rw [h.cell (i := o + i) (by omega)]
 simp [List.getD_eq_getElem?_getD, List.getElem?_take_of_lt hi, List.getElem?_drop]
theorem Own.len (h : Own w base A n c N) : n = (Limb.canon N).length := h.1
theorem Own.nums (h : Own w base A n c N) : Nums w A n (Limb.canon N) := by
 by_cases h0 : N = 0
 · subst h0
   have : n = 0 := h.1
   subst this
   exact Nums.nil _ _
 · obtain ⟨g, zs, rfl, hg, hr, ho, hc, ht⟩ := h.2.2.2 h0
   have hl := h.2.1
   have := hr.nums ho (o := 0) (n := n) (by omega)
   rw [List.drop_zero, ht] at this
   exact this
theorem Own.below (h : Own w base A n c N) (hb : Below w.heap.size w w') : Own w' base A n c N := by
 refine ⟨h.1, h.2.1, h.2.2.1, fun h0 => ?_⟩
 obtain ⟨g, zs, e, hg, hr, ho, hc, ht⟩ := h.2.2.2 h0
 exact ⟨g, zs, e, hg, hr.below hb hr.lt, ho, hc, ht⟩
theorem Own.grown (h : Own w base A n c N) (hg : w.grownBy w' (some g)) (ha : Apart A g) : Own w' base A n c N := by
 refine ⟨h.1, h.2.1, h.2.2.1, fun h0 => ?_⟩
 obtain ⟨g', zs, e, hg', hr, ho, hc, ht⟩ := h.2.2.2 h0
 exact ⟨g', zs, e, hg', hr.grown hg (fun hh => ha _ e (by injection hh)), ho, hc, ht⟩
theorem Own.mono {base' : Nat} (h : Own w base A n c N) (hb : base' ≤ base) : Own w base' A n c N := by
 refine ⟨h.1, h.2.1, h.2.2.1, fun h0 => ?_⟩
 obtain ⟨g, zs, e, hg, hr, ho, hc, ht⟩ := h.2.2.2 h0
 exact ⟨g, zs, e, by omega, hr, ho, hc, ht⟩
theorem Own.apart (h : Own w base A n c N) (hn : 0 < n) (hg : g < base) : Apart A g := by
 intro ad had
 obtain ⟨g', zs, e, hb, _⟩ := h.2.2.2 (fun h0 => by subst h0; have := h.1; simp [Limb.canon_zero] at this; omega)
 rw [had] at e
 injection e with e
 subst e
 show g' ≠ g
 omega
theorem Own.zero (w : World) (base : Nat) (A : Option Addr) (c : Nat) (hc : c ≤ 4611686018427387904) : Own w base A 0 c 0 := ⟨rfl, by omega, hc, fun h => absurd rfl h⟩
theorem Own.row (hr : Row w g zs) (ho : Limb.Ok zs) (hb : base ≤ g) (hn : n ≤ c) (hc : c ≤ zs.length) (hc2 : c ≤ 4611686018427387904) (ht : zs.take n = Limb.canon N) : Own w base (some ⟨g, 0, none⟩) n c N :=
 ⟨by rw [← ht, List.length_take]; omega, hn, hc2, fun _ => ⟨g, zs, rfl, hb, hr, ho, hc, ht⟩⟩
end

theorem _root_.Go.RowKit.Below.next {a b c : World} (h : Below a.heap.size a b) (k : Below b.heap.size b c) : Below a.heap.size a c := h.trans (k.mono h.size)
theorem bl_alloc (w : World) (o : Obj) : Below w.heap.size w (w.alloc o) := (Below.refl _ _).alloc (Nat.le_refl _) o
theorem bl_drewN (w : World) (k : Nat) : Below w.heap.size w (w.drewN k) := ⟨rfl, rfl, rfl, Nat.le_refl _, fun _ _ => rfl⟩
theorem hide {p : Prop} (h : p) : Hid p := h
theorem quiet_add_left {P : Program} {f : FuncId} {args : Array Value} {w : World} {a n : Nat} {v : Value}
  (h : Calls P f args (w.drewN (a + n)) fun e w' => e = .returned v ∧ w.drewN (a + n) = w') :
  Calls P f args (w.drewN (a + n)) fun e w'' => e = .returned v ∧ ∃ m, w'' = w.drewN (a + m) :=
 h.mono fun _ _ ⟨he, hm⟩ => ⟨he, n, hm.symm⟩
theorem quiet_left {P : Program} {f : FuncId} {args : Array Value} {w : World} {n : Nat} {v : Value}
  (h : Calls P f args (w.drewN n) fun e w' => e = .returned v ∧ w.drewN n = w') : Calls P f args (w.drewN n) fun e w'' => e = .returned v ∧ ∃ m, w'' = w.drewN m :=
 h.mono fun _ _ ⟨he, hm⟩ => ⟨he, n, hm.symm⟩
theorem below_drewN {B : Nat} {a w : World} (h : Below B a w) (n : Nat) : Below B a (w.drewN n) := ⟨h.os, h.tape, h.output, h.size, h.block⟩
theorem u32_info : (Tryz.prog.info? 92).map (fun i => (i.zero, i.size, i.bytes)) = some (some (.int .u32 0), 1, 4) := by kernel_rfl
theorem u32_size : (Tryz.prog.info? 92).map (·.size) = some 1 := by kernel_rfl
theorem Row.made {w' : World} {g n : Nat} {base : Nat} (h : w'.ownsRow base 92 1 (.slice (some ⟨g, 0, none⟩) n n) n (madeCells (Value.int .u32 0).cells (n * 1)).toList) : Row w' g (List.replicate n 0) ∧ base ≤ g := by
 obtain ⟨hl, hc⟩ := h
 rcases hc with ⟨h0, _⟩ | ⟨g', cap, cur, hv, hb, hh, h1, h2, h3, h4⟩
 · cases h0
 · injection hv with hv1 hv2 hv3
   injection hv1 with hv1
   injection hv1 with hv1
   subst hv1
   subst hv3
   have e : cur.toList = List.replicate n (.int .u32 0) := by
    have h5 : cur.toList.length = n * 1 := by simpa using h3
    rw [List.take_of_length_le (by omega)] at h4
    rw [h4, Nat.mul_one]
    exact toList_madeCells_one _ _
   refine ⟨?_, hb⟩
   unfold Row
   rw [hh, u32s_replicate, ← e]
/-- The number of a number's limbs. -/
def OwnPost (N : Nat) (w : World) (e : Ending) (w' : World) : Prop := ∃ A n c, e = .returned (.slice A n c) ∧ Own w' w.heap.size A n c N ∧ Below w.heap.size w w'
end Go.Proofs.YtdeakieenppmiaaGreatDoor
/- nat.trimmed, cmp.Compare. -/
namespace Go.Proofs.YtdeakieenppmiaaGreatDoor
open Go.RowKit

/-- What nat.trimmed hands back: the argument's own memory, cut, or nil. -/
def IsCut (w : World) (A A' : Option Addr) (n m N : Nat) : Prop := m = (Limb.canon N).length ∧ m ≤ n ∧ Nums w A' m (Limb.canon N) ∧ (A' = A ∨ A' = none)
def TrimmedPost (A : Option Addr) (n N : Nat) (w : World) (e : Ending) (w' : World) : Prop := ∃ A' m, e = .returned (.slice A' m m) ∧ IsCut w A A' n m N ∧ w = w'

theorem isCut_none (w : World) (A : Option Addr) (xs : List Nat) (n : Nat) (hx : Nums w A n xs) (hz : ∀ j, 0 ≤ j → j < n → xs.getD j 0 = 0) : IsCut w A none n 0 (Limb.val xs) := by
 have hc := Limb.canon_take xs hx.ok 0 (Nat.zero_le _) (fun i _ hi => hz i (Nat.zero_le _) (by rw [← hx.len]; exact hi)) (fun h => absurd h (by omega))
 rw [List.take_zero] at hc
 unfold IsCut
 rw [hc]
 exact ⟨rfl, Nat.zero_le _, Nums.nil _ _, .inr rfl⟩
theorem isCut_some (w : World) (A : Option Addr) (xs : List Nat) (n k : Nat) (hk : k ≤ n) (hx : Nums w A n xs) (hz : ∀ j, k ≤ j → j < n → xs.getD j 0 = 0) (_h0 : k ≠ 0) (hnz : xs.getD (k - 1) 0 ≠ 0) : IsCut w A A n k (Limb.val xs) := by
 have hl := hx.len
 have hc := Limb.canon_take xs hx.ok k (by omega) (fun i h1 h2 => hz i h1 (by omega)) (fun _ => hnz)
 unfold IsCut
 rw [hc]
 exact ⟨by rw [List.length_take]; omega, hk, hx.take hk, .inl rfl⟩

theorem trimmed_any (A : Option Addr) (n c : Nat) (xs : List Nat) (w : World) (hx : Nums w A n xs) (hc : n ≤ c) (hm : c ≤ 9223372036854775807) :
  Calls Tryz.prog 116 #[.slice A n c] w (TrimmedPost A n (Limb.val xs) w) := by
 go_enter Tryz.func116, Tryz.ntmps116
 go_wp2
 go_loop [3] (fun i => ∃ k : Nat, k ≤ n ∧ i = .int .i64 k ∧ Hid (∀ j, k ≤ j → j < n → xs.getD j 0 = 0)) (fun i => (intOf i).toNat)
 case atStart => exact ⟨n, Nat.le_refl _, rfl, fun j h1 h2 => by omega⟩
 case round =>
  obtain ⟨k, hk, rfl, HZ⟩ := hrel
  by_cases h0 : k = 0
  · subst h0
    go_wp2
    go_ret
    exact ⟨none, 0, rfl, isCut_none w A xs n hx HZ.out, rfl⟩
  · obtain ⟨b, o, x, rfl, hx1, hx2, hcell⟩ := hx.at_ (i := k - 1) (by omega)
    have HX := Lib.hid hx2
    have HK := Lib.hid h0
    clear hx2
    have hk1 : 1 ≤ k := by omega
    clear h0
    by_cases hx0 : x = 0
    · have hb : ((x : Int) != 0) = false := by simp [hx0]
      have HX0 := Lib.hid hx0
      clear hx0
      go_wp2
      go_round
      case rel =>
       refine ⟨k - 1, by omega, by go_num, fun j h1 h2 => ?_⟩
       by_cases hj : j = k - 1
       · subst hj
         rw [← HX.out, HX0.out]
       · exact HZ.out j (by omega) h2
      case measure => simp [intOf]; omega
    · have hb : ((x : Int) != 0) = true := by simp [hx0]
      have HX0 := Lib.hid hx0
      clear hx0
      go_wp2
      go_ret
      exact ⟨_, k, rfl, isCut_some w _ xs n k hk hx HZ.out HK.out (by rw [← HX.out]; exact HX0.out), rfl⟩

/-- Where nat.trimmed's result begins. -/
def cutA (A : Option Addr) (N : Nat) : Option Addr := if N = 0 then none else A
/-- The number of a number's limbs. -/
def L (N : Nat) : Nat := (Limb.canon N).length
theorem cutA_pos (A : Option Addr) {N : Nat} (h : N ≠ 0) : cutA A N = A := by unfold cutA; rw [if_neg h]
theorem isCut_det (w : World) (A : Option Addr) (xs : List Nat) (n : Nat) (hx : Nums w A n xs) : IsCut w A (cutA A (Limb.val xs)) n (L (Limb.val xs)) (Limb.val xs) := by
 have hl : (Limb.canon (Limb.val xs)).length ≤ n := by
   have := Limb.val_lt xs hx.ok
   rw [hx.len] at this
   exact Limb.canon_len_le _ _ this
 refine ⟨rfl, hl, ?_, ?_⟩
 · by_cases h0 : Limb.val xs = 0
   · rw [h0]; exact Nums.nil _ _
   · rw [cutA_pos A h0]
     have h1 := hx.take (k := L (Limb.val xs)) hl
     have h2 : Limb.canon (Limb.val xs) = xs.take (L (Limb.val xs)) := by
      have e1 := Limb.canon_eq_fixed xs.length (Limb.val xs) (Limb.val_lt xs hx.ok)
      rw [Limb.fixed_of_val xs hx.ok] at e1
      exact e1
     rw [h2]; exact h1
 · by_cases h0 : Limb.val xs = 0
   · rw [h0]; exact .inr rfl
   · rw [cutA_pos A h0]; exact .inl rfl
def TrimDetPost (A : Option Addr) (N : Nat) (w : World) (e : Ending) (w' : World) : Prop := e = .returned (.slice (cutA A N) (L N) (L N)) ∧ w = w'
theorem trimmed_det (A : Option Addr) (n c : Nat) (xs : List Nat) (w : World) (hx : Nums w A n xs) (hc : n ≤ c) (hm : c ≤ 9223372036854775807) :
  Calls Tryz.prog 116 #[.slice A n c] w (TrimDetPost A (Limb.val xs) w) := by
 have HI := hide (isCut_det w A xs n hx)
 go_enter Tryz.func116, Tryz.ntmps116
 go_wp2
 go_loop [3] (fun i => ∃ k : Nat, k ≤ n ∧ i = .int .i64 k ∧ Hid (∀ j, k ≤ j → j < n → xs.getD j 0 = 0)) (fun i => (intOf i).toNat)
 case atStart => exact ⟨n, Nat.le_refl _, rfl, fun j h1 h2 => by omega⟩
 case round =>
  obtain ⟨k, hk, rfl, HZ⟩ := hrel
  by_cases h0 : k = 0
  · subst h0
    go_wp2
    go_ret
    have hv : Limb.val xs = 0 := by
      have := (isCut_none w A xs n hx HZ.out).1
      exact (Limb.canon_len_zero _).1 this.symm
    exact ⟨by rw [hv]; rfl, rfl⟩
  · obtain ⟨b, o, x, rfl, hx1, hx2, hcell⟩ := hx.at_ (i := k - 1) (by omega)
    have HX := Lib.hid hx2
    have HK := Lib.hid h0
    clear hx2
    have hk1 : 1 ≤ k := by omega
    clear h0
    by_cases hx0 : x = 0
    · have hb : ((x : Int) != 0) = false := by simp [hx0]
      have HX0 := Lib.hid hx0
      clear hx0
      go_wp2
      go_round
      case rel =>
       refine ⟨k - 1, by omega, by go_num, fun j h1 h2 => ?_⟩
       by_cases hj : j = k - 1
       · subst hj
         rw [← HX.out, HX0.out]
       · exact HZ.out j (by omega) h2
      case measure => simp [intOf]; omega
    · have hb : ((x : Int) != 0) = true := by simp [hx0]
      have HX0 := Lib.hid hx0
      clear hx0
      have hk2 := (isCut_some w _ xs n k hk hx HZ.out HK.out (by rw [← HX.out]; exact HX0.out)).1
      have hv : Limb.val xs ≠ 0 := by
       intro hv
       rw [hv] at hk2
       exact HK.out hk2
      have HK2 := Lib.hid hk2
      have HV := hide hv
      clear hk2 hv
      go_wp2
      go_ret
      refine ⟨?_, rfl⟩
      have hl : L (Limb.val xs) = k := HK2.out.symm
      rw [cutA_pos _ HV.out, hl]
      rfl

theorem nan_int (a : Int) (w : World) : Calls Tryz.prog 138 #[.int .i64 a] w fun e w' => e = .returned (.bool false) ∧ w = w' := by
 go_enter Tryz.func138, Tryz.ntmps138
 go_wp2
 go_ret
 exact ⟨by simp, rfl⟩
theorem nan_u32 (a : Int) (w : World) : Calls Tryz.prog 201 #[.int .u32 a] w fun e w' => e = .returned (.bool false) ∧ w = w' := by
 go_enter Tryz.func201, Tryz.ntmps201
 go_wp2
 go_ret
 exact ⟨by simp, rfl⟩

/-- -1, 0, 1. -/
def sgn3 (a b : Int) : Int := if a < b then -1 else if b < a then 1 else 0
def CmpPost (a b : Int) (w : World) (e : Ending) (w' : World) : Prop := e = .returned (.int .i64 (sgn3 a b)) ∧ w = w'

theorem compare_int (a b : Int) (w : World) : Calls Tryz.prog 95 #[.int .i64 a, .int .i64 b] w (CmpPost a b w) := by
 rcases Int.lt_trichotomy a b with h | h | h
 · have hfin : sgn3 a b = -1 := by simp [sgn3, h]
   have HF := Lib.hid hfin
   clear hfin
   go_enter Tryz.func95, Tryz.ntmps95
   go_wp2_with (go_at_call 138; refine (nan_int _ _).mono ?_; rintro e w' ⟨rfl, rfl⟩)
   go_ret
   exact ⟨by rw [HF.out]; rfl, rfl⟩
 · subst h
   have hfin : sgn3 a a = 0 := by simp [sgn3]
   have HF := Lib.hid hfin
   clear hfin
   go_enter Tryz.func95, Tryz.ntmps95
   go_wp2_with (go_at_call 138; refine (nan_int _ _).mono ?_; rintro e w' ⟨rfl, rfl⟩)
   go_ret
   exact ⟨by rw [HF.out]; rfl, rfl⟩
 · have hfin : sgn3 a b = 1 := by simp [sgn3, h]; omega
   have HF := Lib.hid hfin
   clear hfin
   have h2 : ¬ a < b := by omega
   go_enter Tryz.func95, Tryz.ntmps95
   go_wp2_with (go_at_call 138; refine (nan_int _ _).mono ?_; rintro e w' ⟨rfl, rfl⟩)
   go_ret
   exact ⟨by rw [HF.out]; rfl, rfl⟩
theorem compare_u32 (a b : Int) (w : World) : Calls Tryz.prog 170 #[.int .u32 a, .int .u32 b] w (CmpPost a b w) := by
 rcases Int.lt_trichotomy a b with h | h | h
 · have hfin : sgn3 a b = -1 := by simp [sgn3, h]
   have HF := Lib.hid hfin
   clear hfin
   go_enter Tryz.func170, Tryz.ntmps170
   go_wp2_with (go_at_call 201; refine (nan_u32 _ _).mono ?_; rintro e w' ⟨rfl, rfl⟩)
   go_ret
   exact ⟨by rw [HF.out]; rfl, rfl⟩
 · subst h
   have hfin : sgn3 a a = 0 := by simp [sgn3]
   have HF := Lib.hid hfin
   clear hfin
   go_enter Tryz.func170, Tryz.ntmps170
   go_wp2_with (go_at_call 201; refine (nan_u32 _ _).mono ?_; rintro e w' ⟨rfl, rfl⟩)
   go_ret
   exact ⟨by rw [HF.out]; rfl, rfl⟩
 · have hfin : sgn3 a b = 1 := by simp [sgn3, h]; omega
   have HF := Lib.hid hfin
   clear hfin
   have h2 : ¬ a < b := by omega
   go_enter Tryz.func170, Tryz.ntmps170
   go_wp2_with (go_at_call 201; refine (nan_u32 _ _).mono ?_; rintro e w' ⟨rfl, rfl⟩)
   go_ret
   exact ⟨by rw [HF.out]; rfl, rfl⟩
end Go.Proofs.YtdeakieenppmiaaGreatDoor
/- nat.Cmp. -/
namespace Go.Proofs.YtdeakieenppmiaaGreatDoor
open Go.RowKit

def cmpN (a b : Nat) : Int := sgn3 (a : Int) (b : Int)
theorem cmpN_lt {a b : Nat} (h : a < b) : cmpN a b < 0 := by unfold cmpN sgn3; rw [if_pos (by omega)]; omega
theorem cmpN_ge {a b : Nat} (h : b ≤ a) : 0 ≤ cmpN a b := by
 unfold cmpN sgn3
 rw [if_neg (by omega)]
 split <;> omega

def CmpNPost (a b : Nat) (w : World) (e : Ending) (w' : World) : Prop := e = .returned (.int .i64 (cmpN a b)) ∧ ∃ k, w' = w.drewN k

theorem cmpN_len (a b : Nat) (h : (Limb.canon a).length ≠ (Limb.canon b).length) : sgn3 ((Limb.canon a).length : Int) ((Limb.canon b).length : Int) = cmpN a b := by
 unfold cmpN sgn3
 rcases Nat.lt_or_gt_of_ne h with h1 | h1
 · have := Limb.lt_of_len h1
   rw [if_pos (by omega), if_pos (by omega)]
 · have := Limb.lt_of_len h1
   rw [if_neg (by omega), if_pos (by omega), if_neg (by omega), if_pos (by omega)]
theorem cmpN_top (a b i : Nat) (hl : (Limb.canon a).length = (Limb.canon b).length) (hi : i < (Limb.canon a).length) (hd : (Limb.canon a).drop (i + 1) = (Limb.canon b).drop (i + 1))
   (h : (Limb.canon a).getD i 0 ≠ (Limb.canon b).getD i 0) : sgn3 (((Limb.canon a).getD i 0 : Nat) : Int) (((Limb.canon b).getD i 0 : Nat) : Int) = cmpN a b := by
 unfold cmpN sgn3
 rcases Nat.lt_or_gt_of_ne h with h1 | h1
 · have := Limb.lt_of_top _ _ (Limb.ok_canon a) i hl hi hd h1
   rw [Limb.val_canon, Limb.val_canon] at this
   rw [if_pos (by omega), if_pos (by omega)]
 · have := Limb.lt_of_top _ _ (Limb.ok_canon b) i hl.symm (by omega) hd.symm h1
   rw [Limb.val_canon, Limb.val_canon] at this
   rw [if_neg (by omega), if_pos (by omega), if_neg (by omega), if_pos (by omega)]
theorem cmpN_same (a b : Nat) (hl : (Limb.canon a).length = (Limb.canon b).length) (hd : (Limb.canon a).drop 0 = (Limb.canon b).drop 0) : cmpN a b = 0 := by
 have : a = b := Limb.canon_inj (by simpa using hd)
 subst this
 simp [cmpN, sgn3]

theorem cmp_any (A B : Option Addr) (n c m d : Nat) (xs ys : List Nat) (w : World) (hx : Nums w A n xs) (hc : n ≤ c) (hm : c ≤ 9223372036854775807) (hy : Nums w B m ys) (hd : m ≤ d) (hmd : d ≤ 9223372036854775807) :
   Calls Tryz.prog 139 #[.slice A n c, .slice B m d] w (CmpNPost (Limb.val xs) (Limb.val ys) w) := by
 generalize ha : Limb.val xs = a
 generalize hb : Limb.val ys = b
 have HA := Lib.hid ha
 have HB := Lib.hid hb
 clear ha hb
 go_enter Tryz.func139, Tryz.ntmps139
 go_wp2_with fail
 refine (trimmed_any A n c xs w hx hc hm).mono ?_
 rintro e w' ⟨A1, n1, rfl, hcut1, rfl⟩
 rw [HA.out] at hcut1
 go_wp2_with fail
 refine (trimmed_any B m d ys w hy hd hmd).mono ?_
 rintro e w' ⟨B1, m1, rfl, hcut2, rfl⟩
 rw [HB.out] at hcut2
 clear hx hy HA HB
 obtain ⟨hn1, hn2, hx1, _⟩ := hcut1
 obtain ⟨hm1, hm2, hy1, _⟩ := hcut2
 have HN := Lib.hid hn1
 have HM := Lib.hid hm1
 clear hn1 hm1
 have hle1 : n1 ≤ 9223372036854775807 := by omega
 have hle2 : m1 ≤ 9223372036854775807 := by omega
 clear hc hm hd hmd hn2 hm2
 by_cases hl : n1 = m1
 · subst hl
   have h0 : ((n1 : Int) != (n1 : Int)) = false := by simp
   go_wp2_with fail
   go_loopw [5] (fun i wr => ∃ k : Nat, k ≤ n1 ∧ i = .int .i64 ((k : Int) - 1) ∧ (∃ q, wr = w.drewN q) ∧ Hid ((Limb.canon a).drop k = (Limb.canon b).drop k)) (fun i _ => ((intOf i) + 1).toNat)
   case atStart => exact ⟨n1, Nat.le_refl _, rfl, ⟨0, rfl⟩, by
    show _ = _
    rw [List.drop_of_length_le (by rw [← HN.out]; exact Nat.le_refl _), List.drop_of_length_le (by rw [← HM.out]; exact Nat.le_refl _)]⟩
   case round =>
    obtain ⟨k, hk, rfl, ⟨q, rfl⟩, HD⟩ := hrel
    by_cases hk0 : k = 0
    · subst hk0
      go_wp2_with fail
      go_ret
      refine ⟨?_, q, rfl⟩
      rw [cmpN_same a b (by rw [← HN.out, ← HM.out]) HD.out]
      rfl
    · have hk1 : 1 ≤ k := by omega
      obtain ⟨b1, o1, x, rfl, hxb, hxe, hxc⟩ := hx1.at_ (i := k - 1) (by omega)
      obtain ⟨b2, o2, y, rfl, hyb, hye, hyc⟩ := hy1.at_ (i := k - 1) (by omega)
      have HX := Lib.hid hxe
      have HY := Lib.hid hye
      have HK := Lib.hid hk0
      clear hxe hye hk0
      by_cases hxy : x = y
      · have h1 : ((x : Int) != (y : Int)) = false := by simp [hxy]
        have HXY := Lib.hid hxy
        clear hxy
        go_wp2_with fail
        go_quiet (fail)
        go_wp2_with fail
        go_roundw
        case rel =>
         refine ⟨k - 1, by omega, by go_num, ⟨_, rfl⟩, ?_⟩
         have e1 : k - 1 + 1 = k := by omega
         exact Limb.drop_eq_step _ _ (k - 1) (by rw [← HN.out, ← HM.out]) (by rw [← HN.out]; omega) (by rw [e1]; exact HD.out) (by rw [← HX.out, ← HY.out]; exact HXY.out)
        case measure => simp [intOf]; omega
      · have h1 : ((x : Int) != (y : Int)) = true := by simp; omega
        have HXY := Lib.hid hxy
        clear hxy
        go_wp2_with fail
        go_quiet (fail)
        go_wp2_with fail
        go_quiet ((go_at_call 170; exact quiet_add_left (compare_u32 _ _ _)))
        go_wp2_with fail
        go_ret
        refine ⟨?_, by simp only [World.drewN_drewN]; exact ⟨_, rfl⟩⟩
        have e1 : k - 1 + 1 = k := by omega
        have e := cmpN_top a b (k - 1) (by rw [← HN.out, ← HM.out]) (by rw [← HN.out]; omega) (by rw [e1]; exact HD.out) (by rw [← HX.out, ← HY.out]; exact HXY.out)
        rw [← HX.out, ← HY.out] at e
        rw [← e]
        rfl
 · have h0 : ((n1 : Int) != (m1 : Int)) = true := by simp; omega
   have HL := Lib.hid hl
   clear hl
   go_wp2_with (go_at_call 95; refine (compare_int _ _ _).mono ?_; rintro e w' ⟨rfl, rfl⟩)
   go_ret
   refine ⟨?_, 0, rfl⟩
   have e := cmpN_len a b (by rw [← HN.out, ← HM.out]; exact HL.out)
   rw [← e, HN.out, HM.out]
   rfl
end Go.Proofs.YtdeakieenppmiaaGreatDoor
