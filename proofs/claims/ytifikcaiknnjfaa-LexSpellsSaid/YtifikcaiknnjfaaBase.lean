/- Slices of limbs in memory: what an argument reads as, what a call hands back, a row that is known whole. -/
import Derived.Test.YtifikcaiknnjfaaChecked
import Derived.Test.YtifikcaiknnjfaaMath
import Derived.WalkKit
import Derived.WalkSpells
import Derived.WalkLawsBesides
import Derived.Lib.Hide
import Derived.Laws.CopyOwn
import Derived.Deep.RegionLaw
import Derived.Deep.QuietTactic
import Derived.BigQuiet
import Derived.Deep.DeepFit
namespace Go.Proofs.Ytifikcaiknnjfaa
open Go.RowKit

def u32s (xs : List Nat) : List Value := xs.map fun (x : Nat) => Value.int .u32 (x : Int)
theorem u32s_length (xs : List Nat) : (u32s xs).length = xs.length := by simp [u32s]
theorem u32s_get (xs : List Nat) (i : Nat) (h : i < xs.length) : (u32s xs)[i]? = some (.int .u32 ((xs.getD i 0 : Nat) : Int)) := by
  simp [u32s, List.getElem?_map, List.getD_eq_getElem?_getD, List.getElem?_eq_getElem h]
theorem u32s_set (xs : List Nat) (i v : Nat) : (u32s xs).toArray.setIfInBounds i (.int .u32 (v : Int)) = (u32s (xs.set i v)).toArray := by
  simp [u32s, List.map_set]
theorem u32s_append (xs ys : List Nat) : u32s (xs ++ ys) = u32s xs ++ u32s ys := by simp [u32s]
theorem u32s_take (xs : List Nat) (n : Nat) : u32s (xs.take n) = (u32s xs).take n := by simp [u32s, List.map_take]
theorem u32s_drop (xs : List Nat) (n : Nat) : u32s (xs.drop n) = (u32s xs).drop n := by simp [u32s, List.map_drop]
theorem u32s_replicate (n : Nat) : u32s (List.replicate n 0) = List.replicate n (.int .u32 0) := by simp [u32s]
theorem u32s_one (xs : List Nat) : ∀ u ∈ u32s xs, u.oneCell' = true := by
  intro u hu
  obtain ⟨x, _, rfl⟩ := List.mem_map.1 hu
  rfl
theorem u32s_inj {xs ys : List Nat} (h : u32s xs = u32s ys) : xs = ys := by
  induction xs generalizing ys with
  | nil => cases ys with
    | nil => rfl
    | cons y ys => simp [u32s] at h
  | cons x xs ih => cases ys with
    | nil => simp [u32s] at h
    | cons y ys =>
      simp only [u32s, List.map_cons, List.cons.injEq, Value.int.injEq, true_and] at h
      obtain ⟨h1, h2⟩ := h
      have := ih (ys := ys) h2
      have h3 : x = y := by omega
      rw [this, h3]

/-- The slice (A, n) reads as the limbs xs. -/
def Nums (w : World) (A : Option Addr) (n : Nat) (xs : List Nat) : Prop :=
  xs.length = n ∧ Limb.Ok xs ∧ (0 < n → ∃ b o, A = some ⟨b, o, none⟩ ∧ ∀ i, i < n → w.cell? ⟨b, o + i, none⟩ = some (.int .u32 ((xs.getD i 0 : Nat) : Int)))

/-- Block g is a row of just the limbs zs. -/
def Row (w : World) (g : Nat) (zs : List Nat) : Prop := w.heap[g]? = some (.cells (u32s zs).toArray 79 (0, 0))

/-- The slice is apart from block g. -/
def Apart (A : Option Addr) (g : Nat) : Prop := ∀ ad, A = some ad → ad.block ≠ g

/-- What a call hands back: the number N, in memory from block base on. -/
def Own (w : World) (base : Nat) (A : Option Addr) (n c : Nat) (N : Nat) : Prop :=
  n = (Limb.canon N).length ∧ n ≤ c ∧ c ≤ 4611686018427387904 ∧ (N ≠ 0 → ∃ g zs, A = some ⟨g, 0, none⟩ ∧ base ≤ g ∧ Row w g zs ∧ Limb.Ok zs ∧ c ≤ zs.length ∧ zs.take n = Limb.canon N)

section
variable {w w' : World} {A : Option Addr} {n c g N base : Nat} {xs zs : List Nat}

theorem Nums.len (h : Nums w A n xs) : xs.length = n := h.1
theorem Nums.ok (h : Nums w A n xs) : Limb.Ok xs := h.2.1
theorem Nums.nil (w : World) (A : Option Addr) : Nums w A 0 [] := ⟨rfl, Limb.Ok.nil, fun h => absurd h (by omega)⟩
theorem Nums.at_ {i : Nat} (h : Nums w A n xs) (hi : i < n) : ∃ b o x, A = some ⟨b, o, none⟩ ∧ x < 4294967296 ∧ x = xs.getD i 0 ∧ w.cell? ⟨b, o + i, none⟩ = some (.int .u32 (x : Int)) := by
  obtain ⟨b, o, e, hc⟩ := h.2.2 (by omega)
  exact ⟨b, o, _, e, h.2.1.getD i, rfl, hc i hi⟩
theorem Nums.keep (h : Nums w A n xs) (hk : ∀ b, b < w.heap.size → (∀ ad, A = some ad → ad.block = b → w'.heap[b]? = w.heap[b]?)) : Nums w' A n xs := by
  refine ⟨h.1, h.2.1, fun hn => ?_⟩
  obtain ⟨b, o, e, hc⟩ := h.2.2 hn
  refine ⟨b, o, e, fun i hi => ?_⟩
  have h1 := hc i hi
  have hlt := World.block_lt_of_cell? w _ h1
  have hb : w'.heap[b]? = w.heap[b]? := hk b hlt ⟨b, o, none⟩ e rfl
  exact (World.cell?_of_block (w := w) (a := ⟨b, o + i, none⟩) hb).trans h1
theorem Nums.below (h : Nums w A n xs) (hb : Below w.heap.size w w') : Nums w' A n xs := h.keep fun b hlt _ _ _ => hb.block b hlt
theorem Nums.grown (h : Nums w A n xs) (hg : w.grownBy w' (some g)) (ha : Apart A g) : Nums w' A n xs :=
  h.keep fun b hlt ad e he => hg.block b hlt (fun hh => ha ad e (by injection hh with hh; omega))
theorem Nums.grown' (h : Nums w A n xs) (hg : w.grownBy w' (some g)) (ha : 0 < n → Apart A g) : Nums w' A n xs := by
  rcases Nat.eq_zero_or_pos n with h0 | h0
  · subst h0
    exact ⟨h.1, h.2.1, fun hh => absurd hh (by omega)⟩
  · exact h.grown hg (ha h0)
theorem Nums.grownNone (h : Nums w A n xs) (hg : w.grownBy w' none) : Nums w' A n xs :=
  h.keep fun b hlt _ _ _ => hg.block b hlt (fun hh => by cases hh)
theorem Nums.alloc (h : Nums w A n xs) (o : Obj) : Nums (w.alloc o) A n xs := h.keep fun b hlt _ _ _ => Below.heap_alloc w o b hlt
theorem Nums.drew (h : Nums w A n xs) : Nums w.drew A n xs := h
theorem Nums.drewN (h : Nums w A n xs) (k : Nat) : Nums (w.drewN k) A n xs := h
theorem Nums.setCell (h : Nums w A n xs) (p : Addr) (u : Value) (ha : Apart A p.block) : Nums (w.setCell p u) A n xs :=
  h.keep fun b _ ad e he => Below.heap_setCell w p u b (fun hh => ha ad e (by omega))
theorem Nums.apart (h : Nums w A n xs) (hn : 0 < n) (hg : w.heap.size ≤ g) : Apart A g := by
  intro ad e
  obtain ⟨b, o, e', hc⟩ := h.2.2 hn
  have hlt := World.block_lt_of_cell? w _ (hc 0 hn)
  rw [e] at e'
  injection e' with e'
  subst e'
  show b ≠ g
  have : b < w.heap.size := hlt
  omega
theorem Nums.take (h : Nums w A n xs) {k : Nat} (hk : k ≤ n) : Nums w A k (xs.take k) := by
  refine ⟨by rw [List.length_take, h.1]; omega, h.2.1.take k, fun h0 => ?_⟩
  obtain ⟨b, o, e, hc⟩ := h.2.2 (by omega)
  refine ⟨b, o, e, fun i hi => ?_⟩
  rw [hc i (by omega)]
  simp [List.getD_eq_getElem?_getD, List.getElem?_take_of_lt hi]
theorem Nums.cut (h : Nums w A n xs) {k cap : Nat} (hk : k ≤ n) (hc : n ≤ cap) : Nums w (if cap = k then A else A.map (·.add k)) (n - k) (xs.drop k) := by
  refine ⟨by rw [List.length_drop, h.1], h.2.1.drop k, fun hn => ?_⟩
  obtain ⟨b, o, rfl, hcell⟩ := h.2.2 (by omega)
  rw [if_neg (by omega)]
  refine ⟨b, o + k, by simp [Addr.add], fun i hi => ?_⟩
  rw [Nat.add_assoc, hcell (k + i) (by omega)]
  simp [List.getD_eq_getElem?_getD, List.getElem?_drop]

theorem Row.lt (h : Row w g zs) : g < w.heap.size := by
  rcases Nat.lt_or_ge g w.heap.size with hlt | hge
  · exact hlt
  · unfold Row at h; rw [Array.getElem?_eq_none hge] at h; cases h
theorem Row.cell {i : Nat} (h : Row w g zs) (hi : i < zs.length) : w.cell? ⟨g, i, none⟩ = some (.int .u32 ((zs.getD i 0 : Nat) : Int)) := by
  rw [cell_of_row w g i _ _ _ h, List.getElem?_toArray, u32s_get zs i hi]
theorem Row.frozen (h : Row w g zs) (i : Nat) : w.frozen? ⟨g, i, none⟩ = false := by
  unfold Row at h
  simp [World.frozen?, h]
theorem Row.set_ (h : Row w g zs) (i v : Nat) : Row (w.setCell ⟨g, i, none⟩ (.int .u32 (v : Int))) g (zs.set i v) := by
  unfold Row at h ⊢
  simp [World.setCell, Array.getElem?_modify, h, u32s, List.map_set]
theorem Row.keep (h : Row w g zs) (hk : w'.heap[g]? = w.heap[g]?) : Row w' g zs := hk.trans h
theorem Row.below {B : Nat} (h : Row w g zs) (hb : Below B w w') (hg : g < B) : Row w' g zs := h.keep (hb.block g hg)
theorem Row.grown {r : Option Nat} (h : Row w g zs) (hb : w.grownBy w' r) (hg : some g ≠ r) : Row w' g zs := h.keep (hb.block g h.lt hg)
theorem Row.far (h : Row w g zs) {p : Addr} (hp : g ≠ p.block) (u : Value) : Row (w.setCell p u) g zs := h.keep (Below.heap_setCell w p u g hp)
theorem Row.alloc (h : Row w g zs) (o : Obj) : Row (w.alloc o) g zs := h.keep (Below.heap_alloc w o g h.lt)
theorem Row.drew (h : Row w g zs) : Row w.drew g zs := h
theorem Row.drewN (h : Row w g zs) (k : Nat) : Row (w.drewN k) g zs := h
theorem Row.nums (h : Row w g zs) (ho : Limb.Ok zs) {o n : Nat} (hn : o + n ≤ zs.length) : Nums w (some ⟨g, o, none⟩) n ((zs.drop o).take n) := by
  refine ⟨by rw [List.length_take, List.length_drop]; omega, (ho.drop o).take n, fun _ => ⟨g, o, rfl, fun i hi => ?_⟩⟩
  rw [h.cell (i := o + i) (by omega)]
  simp [List.getD_eq_getElem?_getD, List.getElem?_take_of_lt hi, List.getElem?_drop]
theorem Row.uniq {ys : List Nat} (h : Row w g zs) (k : Row w g ys) : zs = ys := by
  unfold Row at h k
  rw [h] at k
  injection k with k
  injection k with k
  have k2 : u32s zs = u32s ys := by simpa using k
  exact u32s_inj k2

theorem Own.len (h : Own w base A n c N) : n = (Limb.canon N).length := h.1
theorem Own.nums (h : Own w base A n c N) : Nums w A n (Limb.canon N) := by
  by_cases h0 : N = 0
  · subst h0
    have : n = 0 := h.1
    subst this
    exact Nums.nil _ _
  · obtain ⟨g, zs, rfl, hg, hr, ho, hc, ht⟩ := h.2.2.2 h0
    have hl := h.2.1
    have := hr.nums ho (o := 0) (n := n) (by omega)
    rw [List.drop_zero, ht] at this
    exact this
theorem Own.below (h : Own w base A n c N) (hb : Below w.heap.size w w') : Own w' base A n c N := by
  refine ⟨h.1, h.2.1, h.2.2.1, fun h0 => ?_⟩
  obtain ⟨g, zs, e, hg, hr, ho, hc, ht⟩ := h.2.2.2 h0
  exact ⟨g, zs, e, hg, hr.below hb hr.lt, ho, hc, ht⟩
theorem Own.grown (h : Own w base A n c N) (hg : w.grownBy w' (some g)) (ha : Apart A g) : Own w' base A n c N := by
  refine ⟨h.1, h.2.1, h.2.2.1, fun h0 => ?_⟩
  obtain ⟨g', zs, e, hg', hr, ho, hc, ht⟩ := h.2.2.2 h0
  exact ⟨g', zs, e, hg', hr.grown hg (fun hh => ha _ e (by injection hh)), ho, hc, ht⟩
theorem Own.mono {base' : Nat} (h : Own w base A n c N) (hb : base' ≤ base) : Own w base' A n c N := by
  refine ⟨h.1, h.2.1, h.2.2.1, fun h0 => ?_⟩
  obtain ⟨g, zs, e, hg, hr, ho, hc, ht⟩ := h.2.2.2 h0
  exact ⟨g, zs, e, by omega, hr, ho, hc, ht⟩
theorem Own.apart (h : Own w base A n c N) (hn : 0 < n) (hg : g < base) : Apart A g := by
  intro ad had
  obtain ⟨g', zs, e, hb, _⟩ := h.2.2.2 (fun h0 => by subst h0; have := h.1; simp [Limb.canon_zero] at this; omega)
  rw [had] at e
  injection e with e
  subst e
  show g' ≠ g
  omega
theorem Own.alloc (h : Own w base A n c N) (o : Obj) : Own (w.alloc o) base A n c N := h.below ((Below.refl _ _).alloc (Nat.le_refl _) o)
theorem Own.drew (h : Own w base A n c N) : Own w.drew base A n c N := h
theorem Own.zero (w : World) (base : Nat) (A : Option Addr) (c : Nat) (hc : c ≤ 4611686018427387904) : Own w base A 0 c 0 := ⟨rfl, by omega, hc, fun h => absurd rfl h⟩
theorem Own.row (hr : Row w g zs) (ho : Limb.Ok zs) (hb : base ≤ g) (hn : n ≤ c) (hc : c ≤ zs.length) (hc2 : c ≤ 4611686018427387904) (ht : zs.take n = Limb.canon N) : Own w base (some ⟨g, 0, none⟩) n c N :=
  ⟨by rw [← ht, List.length_take]; omega, hn, hc2, fun _ => ⟨g, zs, rfl, hb, hr, ho, hc, ht⟩⟩
end

theorem bcell {W w1 : World} (hb : Below W.heap.size W w1) : (∀ b o, b < W.heap.size → w1.cell? ⟨b, o, none⟩ = W.cell? ⟨b, o, none⟩) ∧ (∀ b o, b < W.heap.size → w1.frozen? ⟨b, o, none⟩ = W.frozen? ⟨b, o, none⟩) :=
  ⟨fun b o h => hb.cell (p := ⟨b, o, none⟩) h, fun b o h => hb.frozen (p := ⟨b, o, none⟩) h⟩
theorem _root_.Go.RowKit.Below.next {a b c : World} (h : Below a.heap.size a b) (k : Below b.heap.size b c) : Below a.heap.size a c := h.trans (k.mono h.size)
theorem bl_alloc (w : World) (o : Obj) : Below w.heap.size w (w.alloc o) := (Below.refl _ _).alloc (Nat.le_refl _) o
theorem bl_drewN (w : World) (k : Nat) : Below w.heap.size w (w.drewN k) := ⟨rfl, rfl, rfl, Nat.le_refl _, fun _ _ => rfl⟩
theorem hide {p : Prop} (h : p) : Hid p := h
theorem quiet_add_left {P : Program} {f : FuncId} {args : Array Value} {w : World} {a n : Nat} {v : Value}
    (h : Calls P f args (w.drewN (a + n)) fun e w' => e = .returned v ∧ w.drewN (a + n) = w') :
    Calls P f args (w.drewN (a + n)) fun e w'' => e = .returned v ∧ ∃ m, w'' = w.drewN (a + m) :=
  h.mono fun _ _ ⟨he, hm⟩ => ⟨he, n, hm.symm⟩
theorem quiet_left {P : Program} {f : FuncId} {args : Array Value} {w : World} {n : Nat} {v : Value}
    (h : Calls P f args (w.drewN n) fun e w' => e = .returned v ∧ w.drewN n = w') : Calls P f args (w.drewN n) fun e w'' => e = .returned v ∧ ∃ m, w'' = w.drewN m :=
  h.mono fun _ _ ⟨he, hm⟩ => ⟨he, n, hm.symm⟩
theorem below_drewN {B : Nat} {a w : World} (h : Below B a w) (n : Nat) : Below B a (w.drewN n) := ⟨h.os, h.tape, h.output, h.size, h.block⟩
theorem ret_int {k : IntKind} {a b : Int} (h : a = b) : Ending.returned (.int k a) = .returned (.int k b) := by rw [h]


theorem u32_info : (Try.prog.info? 79).map (fun i => (i.zero, i.size, i.bytes)) = some (some (.int .u32 0), 1, 4) := by kernel_rfl
theorem u32_size : (Try.prog.info? 79).map (·.size) = some 1 := by kernel_rfl
theorem Row.made {w' : World} {g n : Nat} {base : Nat} (h : w'.ownsRow base 79 1 (.slice (some ⟨g, 0, none⟩) n n) n (madeCells (Value.int .u32 0).cells (n * 1)).toList) : Row w' g (List.replicate n 0) ∧ base ≤ g := by
  obtain ⟨hl, hc⟩ := h
  rcases hc with ⟨h0, _⟩ | ⟨g', cap, cur, hv, hb, hh, h1, h2, h3, h4⟩
  · cases h0
  · injection hv with hv1 hv2 hv3
    injection hv1 with hv1
    injection hv1 with hv1
    subst hv1
    subst hv3
    have e : cur.toList = List.replicate n (.int .u32 0) := by
      have h5 : cur.toList.length = n * 1 := by simpa using h3
      rw [List.take_of_length_le (by omega)] at h4
      rw [h4, Nat.mul_one]
      exact toList_madeCells_one _ _
    refine ⟨?_, hb⟩
    unfold Row
    rw [hh, u32s_replicate, ← e]
/-- The number of a number's limbs. -/
def OwnPost (N : Nat) (w : World) (e : Ending) (w' : World) : Prop := ∃ A n c, e = .returned (.slice A n c) ∧ Own w' w.heap.size A n c N ∧ Below w.heap.size w w'
end Go.Proofs.Ytifikcaiknnjfaa
