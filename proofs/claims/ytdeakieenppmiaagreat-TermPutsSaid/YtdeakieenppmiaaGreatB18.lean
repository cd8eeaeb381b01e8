/- Texts of one seat, put together: Box RefZB ZintD TermA. -/
import Derived.Test.YtdeakieenppmiaaGreatB15
import Derived.Test.YtdeakieenppmiaaGreatB17
import Derived.Test.YtdeakieenppmiaaGreatB16
set_option linter.unusedVariables false
/- Boxes of whatever struct; what a term's value reads as; closures that turn a number into a number. -/
namespace Go.Proofs.YtdeakieenppmiaaGreat
open Go.RowKit

/-- Block g is a variable of type T of these cells. -/
def Box (T : TypeId) (w : World) (g : Nat) (cs : Array Value) : Prop := w.heap[g]? = some (.cells cs T (0, 0))
section
variable {T : TypeId} {w w' : World} {g k : Nat} {cs : Array Value} {x y z : Value}
theorem Box.lt (h : Box T w g cs) : g < w.heap.size := (Array.getElem?_eq_some_iff.1 h).1
theorem Box.cell (h : Box T w g cs) (i : Nat) (v : Value) (hv : cs[i]? = some v) : w.cell? ⟨g, i, none⟩ = some v := by
  rw [cell_of_row w g i _ _ _ h]; exact hv
theorem Box.c0 (h : Box T w g #[x, y, z]) : w.cell? ⟨g, 0, none⟩ = some x := h.cell 0 x rfl
theorem Box.c1 (h : Box T w g #[x, y, z]) : w.cell? ⟨g, 1, none⟩ = some y := h.cell 1 y rfl
theorem Box.c2 (h : Box T w g #[x, y, z]) : w.cell? ⟨g, 2, none⟩ = some z := h.cell 2 z rfl
theorem Box.fr (h : Box T w g cs) (i : Nat) : w.frozen? ⟨g, i, none⟩ = false := by unfold Box at h; simp [World.frozen?, h]
theorem Box.below {B : Nat} (h : Box T w g cs) (hb : Below B w w') (hg : g < B) : Box T w' g cs := (hb.block g hg).trans h
theorem Box.next (h : Box T w g cs) (hb : Below w.heap.size w w') : Box T w' g cs := h.below hb h.lt
theorem Box.new (T : TypeId) (w : World) (cs : Array Value) : Box T (w.alloc (.cells cs T)) w.heap.size cs := heap_alloc_new w _
theorem Box.alloc (h : Box T w g cs) (o : Obj) : Box T (w.alloc o) g cs := h.next (bl_alloc w o)
theorem Box.drew (h : Box T w g cs) : Box T w.drew g cs := h
theorem Box.other (h : Box T w g cs) (ho : Only k w w') (hne : g ≠ k) : Box T w' g cs := (ho.block g h.lt (fun hh => hne (by injection hh))).trans h
theorem Box.grown {row : Option Nat} (h : Box T w g cs) (ho : w.grownBy w' row) (hne : some g ≠ row) : Box T w' g cs := (ho.block g h.lt hne).trans h
theorem Box.set3 (h : Box T w g #[x, y, z]) (x' y' z' : Value) : Box T (((w.setCell ⟨g, 0, none⟩ x').setCell ⟨g, 1, none⟩ y').setCell ⟨g, 2, none⟩ z') g #[x', y', z'] := by
  unfold Box at h ⊢
  simp [World.setCell, Array.getElem?_modify, h]
theorem Box.set_0 (h : Box T w g #[x, y, z]) (x' : Value) : Box T (w.setCell ⟨g, 0, none⟩ x') g #[x', y, z] := by
  unfold Box at h ⊢
  simp [World.setCell, Array.getElem?_modify, h]
theorem only_set3 (w : World) (g : Nat) (x y z : Value) : Only g w (((w.setCell ⟨g, 0, none⟩ x).setCell ⟨g, 1, none⟩ y).setCell ⟨g, 2, none⟩ z) := (((Only.refl g w).setCell 0 x).setCell 1 y).setCell 2 z
theorem only_set1 (w : World) (g i : Nat) (x : Value) : Only g w (w.setCell ⟨g, i, none⟩ x) := (Only.refl g w).setCell i x
theorem Box.kp (h : Box T w g cs) (hn : NLs cs.toList) (ho : Only g w w') : Kp w w' := Kp.block h hn ho
theorem nl3 (hx : NL x) (hy : NL y) (hz : NL z) : NLs (#[x, y, z] : Array Value).toList := by
  intro u hu
  simp at hu
  rcases hu with rfl | rfl | rfl <;> assumption
theorem nl2 (hx : NL x) (hy : NL y) : NLs (#[x, y] : Array Value).toList := by
  intro u hu
  simp at hu
  rcases hu with rfl | rfl <;> assumption
theorem sgn_ne {Z : Int} (h : Z ≠ 0) : (Z.sign == 0) = false := by simpa using h
theorem Blk.box {cs : Array Value} (h : Blk w g cs) : Box 26 w g cs := h
theorem bstart1 (T : TypeId) (w : World) (X : Array Value) : Box T (w.alloc (.cells X T)) w.heap.size X ∧ Below w.heap.size w (w.alloc (.cells X T)) ∧ (w.alloc (.cells X T)).heap.size = w.heap.size + 1 :=
  ⟨Box.new T w X, bl_alloc w _, size_alloc w _⟩
theorem bstart2 (T U : TypeId) (w : World) (X Y : Array Value) : Box T ((w.alloc (.cells X T)).alloc (.cells Y U)) w.heap.size X ∧ Box U ((w.alloc (.cells X T)).alloc (.cells Y U)) (w.heap.size + 1) Y ∧
    Below w.heap.size w ((w.alloc (.cells X T)).alloc (.cells Y U)) ∧ ((w.alloc (.cells X T)).alloc (.cells Y U)).heap.size = w.heap.size + 2 := by
  obtain ⟨h1, h2, h3⟩ := bstart1 T w X
  obtain ⟨k1, k2, k3⟩ := bstart1 U (w.alloc (.cells X T)) Y
  rw [h3] at k1 k3
  exact ⟨h1.alloc _, k1, h2.next (bl_alloc _ _), by omega⟩
theorem bstart3 (T U V : TypeId) (w : World) (X Y Z : Array Value) : Box T (((w.alloc (.cells X T)).alloc (.cells Y U)).alloc (.cells Z V)) w.heap.size X ∧ Box U (((w.alloc (.cells X T)).alloc (.cells Y U)).alloc (.cells Z V)) (w.heap.size + 1) Y ∧
    Box V (((w.alloc (.cells X T)).alloc (.cells Y U)).alloc (.cells Z V)) (w.heap.size + 1 + 1) Z ∧ Below w.heap.size w (((w.alloc (.cells X T)).alloc (.cells Y U)).alloc (.cells Z V)) ∧ (((w.alloc (.cells X T)).alloc (.cells Y U)).alloc (.cells Z V)).heap.size = w.heap.size + 3 := by
  obtain ⟨h1, h2, h3, h4⟩ := bstart2 T U w X Y
  obtain ⟨k1, k2, k3⟩ := bstart1 V ((w.alloc (.cells X T)).alloc (.cells Y U)) Z
  rw [h4] at k1 k3
  have e2 : w.heap.size + 2 = w.heap.size + 1 + 1 := rfl
  rw [e2] at k1
  exact ⟨h1.alloc _, h2.alloc _, k1, h3.next (bl_alloc _ _), by omega⟩
theorem bstart4 (T U V X : TypeId) (w : World) (a b c d : Array Value) : Box T ((((w.alloc (.cells a T)).alloc (.cells b U)).alloc (.cells c V)).alloc (.cells d X)) w.heap.size a ∧ Box U ((((w.alloc (.cells a T)).alloc (.cells b U)).alloc (.cells c V)).alloc (.cells d X)) (w.heap.size + 1) b ∧
    Box V ((((w.alloc (.cells a T)).alloc (.cells b U)).alloc (.cells c V)).alloc (.cells d X)) (w.heap.size + 1 + 1) c ∧ Box X ((((w.alloc (.cells a T)).alloc (.cells b U)).alloc (.cells c V)).alloc (.cells d X)) (w.heap.size + 1 + 1 + 1) d ∧
    Below w.heap.size w ((((w.alloc (.cells a T)).alloc (.cells b U)).alloc (.cells c V)).alloc (.cells d X)) ∧ ((((w.alloc (.cells a T)).alloc (.cells b U)).alloc (.cells c V)).alloc (.cells d X)).heap.size = w.heap.size + 4 := by
  obtain ⟨h1, h2, h3, h4, h5⟩ := bstart3 T U V w a b c
  obtain ⟨k1, k2, k3⟩ := bstart1 X (((w.alloc (.cells a T)).alloc (.cells b U)).alloc (.cells c V)) d
  rw [h5] at k1 k3
  have e2 : w.heap.size + 3 = w.heap.size + 1 + 1 + 1 := rfl
  rw [e2] at k1
  exact ⟨h1.alloc _, h2.alloc _, h3.alloc _, k1, h4.next (bl_alloc _ _), by omega⟩
end
/-- A store of a whole struct into its variable. -/
theorem wpList_store_box {P : Program} {w : World} {ops : Array Oper} {rest : List Oper} {o : Oper} {a : Act} {Q : Exit → Act → World → Prop} (hgd : o.guard = none) (T : TypeId) (x y : Operand) (ho : o.op = .store T x y)
    (g : Nat) (cells : Array Value) (hx : a.eval x = .pointer (some ⟨g, 0, none⟩)) (hy : a.eval y = .agg cells) (old : Array Value) (hb : Box T w g old) (hi : (P.info? T).map (·.size) = some cells.size) (hold : old.size = cells.size) (h1 : cells.all (·.oneCell') = true)
    (h : ∀ w', Box T w' g cells → Only g w w' → wpList P ops Q rest (a.put o.dst undef) w') : wpList P ops Q (o :: rest) a w := by
  refine wpList_store_row hgd T x y ho g cells hx hy T old hb hi hold h1 ?_
  refine h _ ?_ (only_setRow w g _)
  exact setRow_heap w g old cells _ _ hb
theorem wpList_store_t {w : World} {ops : Array Oper} {rest : List Oper} {o : Oper} {a : Act} {Q : Exit → Act → World → Prop} (hgd : o.guard = none) (x y : Operand) (ho : o.op = .store 28 x y)
    (g : Nat) (s : Bool) (A B : Option Addr) (n c m d : Nat) (hx : a.eval x = .pointer (some ⟨g, 0, none⟩)) (hy : a.eval y = .agg #[.slice A n c, .bool s, .slice B m d]) (u v z : Value) (hb : Box 28 w g #[u, v, z])
    (h : ∀ w', Box 28 w' g #[.slice A n c, .bool s, .slice B m d] → Only g w w' → wpList Tryz.prog ops Q rest (a.put o.dst undef) w') : wpList Tryz.prog ops Q (o :: rest) a w :=
  wpList_store_box hgd 28 x y ho g _ hx hy _ hb (by kernel_rfl) rfl (by simp [Value.oneCell']) h
theorem bodyPost_t {fn : Func} {R : Ending → World → Prop} {a : Act} {w : World} {g p : Nat} {x y z : Value} (hres : fn.results = #[.cell p 28]) (hp : a.tmps.getD p undef = .pointer (some ⟨g, 0, none⟩))
    (hb : Box 28 w g #[x, y, z]) (hd : a.defers = []) (hR : R (.returned (.agg #[x, y, z])) w) : bodyPost Tryz.prog fn R .ret a w :=
  bodyPost_ret (results_cell_row hres _ _ g _ #[x, y, z] _ _ hp hb Tryz.underlying28 rfl (by kernel_rfl)) hd hR

/-- The slice (A, n) reads as the parts L, of at most k limbs each. -/
def PIn (w : World) (A : Option Addr) (n : Nat) (L : List (Int × Int)) (k : Nat) : Prop := ∃ ps, PartsIn w A n ps k ∧ lin ps = L
/-- .. each number in the form of results. -/
def PRes (w : World) (A : Option Addr) (n : Nat) (L : List (Int × Int)) (k : Nat) : Prop := ∃ ps, PartsIn w A n ps k ∧ lin ps = L ∧ ∀ p ∈ ps, ZRes w p.num p.Z k
/-- The value reads as a term. -/
def TIn (w : World) (v : Value) (L : List (Int × Int)) (K : Int) (k : Nat) : Prop := ∃ A n c s B m d, v = .agg #[.slice A n c, .bool s, .slice B m d] ∧ PIn w A n L k ∧ n ≤ c ∧ c ≤ 9223372036854775807 ∧ ZIn w (.agg #[.bool s, .slice B m d]) K k
def TRes (w : World) (v : Value) (L : List (Int × Int)) (K : Int) (k : Nat) : Prop := ∃ A n c s B m d, v = .agg #[.slice A n c, .bool s, .slice B m d] ∧ PRes w A n L k ∧ n ≤ c ∧ c ≤ 9223372036854775807 ∧ ZRes w (.agg #[.bool s, .slice B m d]) K k
section
variable {w w' : World} {A : Option Addr} {n k j : Nat} {L : List (Int × Int)} {K : Int} {v : Value}
theorem PIn.below (h : PIn w A n L k) (hb : Below w.heap.size w w') : PIn w' A n L k := by
  obtain ⟨ps, h1, h2⟩ := h; exact ⟨ps, h1.below hb, h2⟩
theorem PRes.below (h : PRes w A n L k) (hb : Below w.heap.size w w') : PRes w' A n L k := by
  obtain ⟨ps, h1, h2, h3⟩ := h; exact ⟨ps, h1.below hb, h2, fun p hp => (h3 p hp).below hb⟩
theorem TIn.below (h : TIn w v L K k) (hb : Below w.heap.size w w') : TIn w' v L K k := by
  obtain ⟨A, n, c, s, B, m, d, e, h1, h2, h3, h4⟩ := h; exact ⟨A, n, c, s, B, m, d, e, h1.below hb, h2, h3, h4.below hb⟩
theorem TRes.below (h : TRes w v L K k) (hb : Below w.heap.size w w') : TRes w' v L K k := by
  obtain ⟨A, n, c, s, B, m, d, e, h1, h2, h3, h4⟩ := h; exact ⟨A, n, c, s, B, m, d, e, h1.below hb, h2, h3, h4.below hb⟩
theorem PIn.mono (h : PIn w A n L k) (hj : k ≤ j) : PIn w A n L j := by
  obtain ⟨ps, h1, h2⟩ := h; exact ⟨ps, h1.mono hj, h2⟩
theorem TIn.mono (h : TIn w v L K k) (hj : k ≤ j) : TIn w v L K j := by
  obtain ⟨A, n, c, s, B, m, d, e, h1, h2, h3, h4⟩ := h; exact ⟨A, n, c, s, B, m, d, e, h1.mono hj, h2, h3, h4.mono hj⟩
theorem ZRes.mono (h : ZRes w v K k) (hj : k ≤ j) : ZRes w v K j := by
  obtain ⟨A, n, c, rfl, h1, h2, h3, h4⟩ := h; exact ⟨A, n, c, rfl, h1, h2, h3, by omega⟩
theorem PRes.mono (h : PRes w A n L k) (hj : k ≤ j) : PRes w A n L j := by
  obtain ⟨ps, h1, h2, h3⟩ := h; exact ⟨ps, h1.mono hj, h2, fun p hp => (h3 p hp).mono hj⟩
theorem TRes.mono (h : TRes w v L K k) (hj : k ≤ j) : TRes w v L K j := by
  obtain ⟨A, n, c, s, B, m, d, e, h1, h2, h3, h4⟩ := h; exact ⟨A, n, c, s, B, m, d, e, h1.mono hj, h2, h3, h4.mono hj⟩
theorem PRes.in_ (h : PRes w A n L k) : PIn w A n L k := by obtain ⟨ps, h1, h2, _⟩ := h; exact ⟨ps, h1, h2⟩
theorem TRes.in_ (h : TRes w v L K k) : TIn w v L K k := by
  obtain ⟨A, n, c, s, B, m, d, e, h1, h2, h3, h4⟩ := h; exact ⟨A, n, c, s, B, m, d, e, h1.in_, h2, h3, h4.in_⟩
theorem TRes.form (h : TRes w v L K k) : ∃ A n c s B m d, v = .agg #[.slice A n c, .bool s, .slice B m d] := by
  obtain ⟨A, n, c, s, B, m, d, e, _⟩ := h; exact ⟨A, n, c, s, B, m, d, e⟩
theorem PIn.len (h : PIn w A n L k) : L.length = n := by
  obtain ⟨ps, h1, h2⟩ := h; rw [← h2, lin, List.length_map]; exact h1.1
theorem PRes.len (h : PRes w A n L k) : L.length = n := h.in_.len
theorem PIn.nil (w : World) (A : Option Addr) (k : Nat) : PIn w A 0 [] k := ⟨[], PartsIn.nil _ _ _, rfl⟩
theorem PRes.nil (w : World) (A : Option Addr) (k : Nat) : PRes w A 0 [] k := ⟨[], PartsIn.nil _ _ _, rfl, fun p hp => by cases hp⟩
/-- A world that keeps all blocks below B and all numbers keeps parts that lie below B. -/
theorem PartsIn.keep {ps : List PV} {g : Nat} (h : PartsIn w A n ps k) (ho : Only g w w') (hk : Kp w w') (ha : 0 < n → Apart A g) : PartsIn w' A n ps k := by
  refine ⟨h.1, fun hn => ?_, fun p hp => (h.2.2 p hp).kp hk⟩
  obtain ⟨b, o, e, hc⟩ := h.2.1 hn
  refine ⟨b, o, e, fun j u hu => ?_⟩
  have h1 := hc j u hu
  have hne : b ≠ g := ha hn ⟨b, o, none⟩ e
  exact ho.gb.cell h1 (fun hh => hne (by injection hh))
theorem PIn.keep {g : Nat} (h : PIn w A n L k) (ho : Only g w w') (hk : Kp w w') (ha : 0 < n → Apart A g) : PIn w' A n L k := by
  obtain ⟨ps, h1, h2⟩ := h; exact ⟨ps, h1.keep ho hk ha, h2⟩
theorem PRes.keep {g : Nat} (h : PRes w A n L k) (ho : Only g w w') (hk : Kp w w') (ha : 0 < n → Apart A g) : PRes w' A n L k := by
  obtain ⟨ps, h1, h2, h3⟩ := h; exact ⟨ps, h1.keep ho hk ha, h2, fun p hp => (h3 p hp).kp hk⟩
/-- Parts of at least one element lie in a block whose first cell there is an int, so apart from a block of a term. -/
theorem PartsIn.offTerm {ps : List PV} {g : Nat} {x y z : Value} (h : PartsIn w A n ps k) (hb : Box 28 w g #[x, y, z]) (hx : ∀ i, x ≠ .int .i64 i) (hy : ∀ i, y ≠ .int .i64 i) (hz : ∀ i, z ≠ .int .i64 i) : 0 < n → Apart A g := by
  intro hn ad had he
  obtain ⟨b, o, e, hc⟩ := h.2.1 hn
  have hl : 0 < ps.length := by rw [h.1]; exact hn
  obtain ⟨g0, -, -⟩ := flat_get ps 0 ps[0] (List.getElem?_eq_getElem hl)
  have h0 := hc 0 _ g0
  rw [had] at e
  injection e with e
  subst e
  have he' : b = g := he
  subst he'
  rw [cell_of_row w b _ _ _ _ hb] at h0
  match o, h0 with
  | 0, h0 => simp at h0; exact hx _ h0
  | 1, h0 => simp at h0; exact hy _ h0
  | 2, h0 => simp at h0; exact hz _ h0
  | o + 3, h0 => simp at h0
theorem PIn.offTerm {g m c d : Nat} {B C : Option Addr} {s : Bool} {q : Nat} (h : PIn w A n L k) (hb : Box 28 w g #[.slice B m c, .bool s, .slice C q d]) : 0 < n → Apart A g := by
  obtain ⟨ps, h1, h2⟩ := h; exact h1.offTerm hb (fun i h => by cases h) (fun i h => by cases h) (fun i h => by cases h)
theorem PRes.offTerm {g m c d : Nat} {B C : Option Addr} {s : Bool} {q : Nat} (h : PRes w A n L k) (hb : Box 28 w g #[.slice B m c, .bool s, .slice C q d]) : 0 < n → Apart A g := h.in_.offTerm hb
theorem nlT (A B : Option Addr) (n c m d : Nat) (s : Bool) : NLs (#[.slice A n c, .bool s, .slice B m d] : Array Value).toList := nl3 (NL.slice _ _ _) (NL.bool _) (NL.slice _ _ _)
/-- A term is what it was behind a store into a term's variable. -/
theorem TRes.only {g m c d : Nat} {B C : Option Addr} {s : Bool} {q : Nat} (h : TRes w v L K k) (hb : Box 28 w g #[.slice B m c, .bool s, .slice C q d]) (ho : Only g w w') : TRes w' v L K k := by
  have hk : Kp w w' := hb.kp (nlT _ _ _ _ _ _ _) ho
  obtain ⟨A, n, c, s, B, m, d, e, h1, h2, h3, h4⟩ := h
  exact ⟨A, n, c, s, B, m, d, e, h1.keep ho hk (h1.offTerm hb), h2, h3, h4.kp hk⟩
end
def TPost (L : List (Int × Int)) (K : Int) (k : Nat) (w : World) (e : Ending) (w' : World) : Prop := ∃ v, e = .returned v ∧ TRes w' v L K k ∧ Below w.heap.size w w'
/-- What a function value makes of numbers of at most k limbs, in every world that keeps what lay in w. -/
def Makes (w : World) (g : Nat) (cb : Array Value) (f : Int → Int) (k j : Nat) : Prop :=
  ∀ (W : World) (u : Value) (Z : Int), Below w.heap.size w W → ZIn W u Z k → Calls Tryz.prog g (#[u] ++ cb) W (ZPost (f Z) j W)
end Go.Proofs.YtdeakieenppmiaaGreat
/- plumblineref02: Sub, Mul, Same; the statements' same and short. -/
namespace Go.Proofs.YtdeakieenppmiaaGreat
open Go.RowKit
open Limb (limb limb_lt upto upto_succ upto_all upto_zero)

set_option maxHeartbeats 1000000 in
theorem rzsub_z (v u : Value) (Z Y : Int) (k : Nat) (w : World) (hv : ZIn w v Z k) (hu : ZIn w u Y k) (hk : k ≤ 137438953472) :
    Calls Tryz.prog 97 #[v, u] w (ZPost (Z - Y) (k + 1) w) := by
  have hv0 := hv
  have hu0 := hu
  obtain ⟨s, A, n, c, xs, rfl, -⟩ := hv
  obtain ⟨t, B, m, d, ys, rfl, -⟩ := hu
  obtain ⟨x0, y0, r0, z2, -⟩ := zstart3 w #[.bool s, .slice A n c] #[.bool t, .slice B m d] #[.bool false, .slice none 0 0]
  go_enter Tryz.func97, Tryz.ntmps97
  go_wp2_with fail
  go_region_held3 (fun w' => w'.cell? ⟨w.heap.size, 0, none⟩ = some (.bool s) ∧ w'.cell? ⟨w.heap.size, 1, none⟩ = some (.slice A n c) ∧ w'.cell? ⟨w.heap.size + 1, 0, none⟩ = some (.bool t) ∧ w'.cell? ⟨w.heap.size + 1, 1, none⟩ = some (.slice B m d))
    (first | exact ⟨x0.drew.c0, x0.drew.c1, y0.drew.c0, y0.drew.c1⟩ | exact ⟨x1.c0, x1.c1, y1.c0, y1.c1⟩ | exact ⟨x2.c0, x2.c1, y2.c0, y2.c1⟩ | exact ⟨(x2.other (only_set2 _ _ _ _) (by omega)).c0, (x2.other (only_set2 _ _ _ _) (by omega)).c1, (y2.other (only_set2 _ _ _ _) (by omega)).c0, (y2.other (only_set2 _ _ _ _) (by omega)).c1⟩)
    (first
      | (go_at_call 47; (with_reducible refine (rneg_z _ Y k _ (hu0.below z2.drew) (by omega)).mono ?_); rintro e w1 ⟨v1, rfl, z1, b1⟩; have t1 := z2.drew.next b1; have x1 := x0.drew.next b1; have y1 := y0.drew.next b1)
      | (go_at_call 63; (with_reducible refine (rzadd_z _ v1 Z (-Y) k w1 (hv0.below t1) z1.in_ hk).mono ?_); rintro e w2 ⟨v2, rfl, q2, b2⟩; have t2 := t1.next b2; have x2 := x1.next b2; have y2 := y1.next b2; obtain ⟨s2, A2, n2, c2, rfl⟩ := q2.form; have k2 := (r0.drew.next b1).next b2; have k2a := k2.c0; have k2b := k2.c1; have k2c := k2.fr 0; have k2d := k2.fr 1))
  go_wp2_with fail
  refine bodyPost_z rfl rfl (k2.set2 _ _) rfl ?_
  exact ⟨_, rfl, (q2.ofEq (by omega)).only k2 (only_set2 _ _ _ _), zback t2 (by omega) (only_set2 _ _ _ _)⟩
theorem sgn3_sub (Z Y : Int) : (Z - Y).sign = sgn3 Z Y := by
  rcases Int.lt_trichotomy Z Y with h | h | h
  · rw [sgn3_lt h]; exact Int.sign_eq_neg_one_of_neg (by omega)
  · subst h; rw [Int.sub_self]; unfold sgn3; simp
  · rw [sgn3_gt h]; exact Int.sign_eq_one_of_pos (by omega)
theorem sign_prod (Z Y : Int) : sg (decide (Z.sign * Y.sign < 0)) (Z.natAbs * Y.natAbs) = Z * Y := by
  rw [← Int.sign_mul, ← Int.natAbs_mul]
  have : decide ((Z * Y).sign < 0) = decide (Z * Y < 0) := by rw [decide_eq_decide]; exact Int.sign_neg_iff
  rw [this, sg_canon]
theorem sign_mul_range (Z Y : Int) : -1 ≤ Z.sign * Y.sign ∧ Z.sign * Y.sign ≤ 1 := by rw [← Int.sign_mul]; exact sign_range _
set_option maxHeartbeats 2000000 in
theorem rzmul_z (v u : Value) (Z Y : Int) (k j : Nat) (w : World) (hv : ZIn w v Z k) (hu : ZIn w u Y j) (hk : k ≤ 68719476736) (hj : j ≤ 68719476736) :
    Calls Tryz.prog 64 #[v, u] w (ZPost (Z * Y) (k + j) w) := by
  have hlv := hide hv.lt
  have hlu := hide hu.lt
  have hv0 := hv
  have hu0 := hu
  obtain ⟨s, A, n, c, xs, rfl, hx, hc, hm, hn, hZ⟩ := hv
  obtain ⟨t, B, m, d, ys, rfl, hy, hd, hmd, hmk, hY⟩ := hu
  have HN := hide (ZIn.abs hZ)
  have HM := hide (ZIn.abs hY)
  have hE := hide (sign_prod Z Y)
  have hr := sign_mul_range Z Y
  have hsa := fun w' hw => rsign_z _ Z k w' (hv0.below hw) (by omega)
  have hsb := fun w' hw => rsign_z _ Y j w' (hu0.below hw) (by omega)
  unfold RSignPost at hsa hsb
  generalize Z.sign = p at *
  generalize Y.sign = q at *
  have hw : IntKind.i64.wrap (p * q) = p * q := IntWalk.i64_in _ (by omega)
  have HSA := hide hsa
  have HSB := hide hsb
  clear hZ hY hsa hsb
  obtain ⟨x0, y0, r0, z2, -⟩ := zstart3 w #[.bool s, .slice A n c] #[.bool t, .slice B m d] #[.bool false, .slice none 0 0]
  go_enter Tryz.func64, Tryz.ntmps64
  go_wp2_with fail
  go_region_held3 (fun w' => w'.cell? ⟨w.heap.size, 0, none⟩ = some (.bool s) ∧ w'.cell? ⟨w.heap.size, 1, none⟩ = some (.slice A n c) ∧ w'.cell? ⟨w.heap.size + 1, 0, none⟩ = some (.bool t) ∧ w'.cell? ⟨w.heap.size + 1, 1, none⟩ = some (.slice B m d))
    (first | exact ⟨x0.drew.c0, x0.drew.c1, y0.drew.c0, y0.drew.c1⟩ | exact ⟨x1.c0, x1.c1, y1.c0, y1.c1⟩ | exact ⟨x2.c0, x2.c1, y2.c0, y2.c1⟩ | exact ⟨x3.c0, x3.c1, y3.c0, y3.c1⟩ | exact ⟨x4.c0, x4.c1, y4.c0, y4.c1⟩ | exact ⟨(x4.other (only_set2 _ _ _ _) (by omega)).c0, (x4.other (only_set2 _ _ _ _) (by omega)).c1, (y4.other (only_set2 _ _ _ _) (by omega)).c0, (y4.other (only_set2 _ _ _ _) (by omega)).c1⟩)
    (first
      | (go_at_call_of 60 (Value.agg #[.bool s, .slice A n c]); (with_reducible refine (HSA.out _ z2.drew).mono ?_); rintro e w1 ⟨rfl, b1⟩; have t1 := z2.drew.next b1; have x1 := x0.drew.next b1; have y1 := y0.drew.next b1; have r1 := r0.drew.next b1)
      | (go_at_call_of 60 (Value.agg #[.bool t, .slice B m d]); (with_reducible refine (HSB.out w1 t1).mono ?_); rintro e w2 ⟨rfl, b2⟩; have t2 := t1.next b2; have x2 := x1.next b2; have y2 := y1.next b2; have r2 := r1.next b2)
      | (go_at_call 107; (with_reducible refine (rmul_any A B n c m d xs ys w2 (hx.below t2) (hy.below t2) (by omega) (by omega)).mono ?_); rintro e w3 ⟨A3, n3, c3, rfl, o3, l3, m3, b3⟩; have x3 := x2.next b3; have y3 := y2.next b3; have r3 := r2.next b3; rw [HN.out, HM.out] at o3; have ln3 : n3 ≤ k + j := short_canon o3 (mul_lt_pow _ _ _ _ hlv.out hlu.out))
      | (go_at_call 57; (with_reducible refine (rfrom_any (decide (p * q < 0)) A3 n3 c3 (k + j) _ w3 o3 ln3 (by omega)).mono ?_); rintro e w4 ⟨v4, rfl, z4, b4⟩; rw [Limb.val_canon, hE.out] at z4; obtain ⟨s4, A4, n4, c4, rfl⟩ := z4.form; have x4 := x3.next b4; have y4 := y3.next b4; have k4 := r3.next b4; have k4a := k4.c0; have k4b := k4.c1; have k4c := k4.fr 0; have k4d := k4.fr 1))
  go_wp2_with fail
  refine bodyPost_z rfl rfl (k4.set2 _ _) rfl ?_
  exact ⟨_, rfl, z4.only k4 (only_set2 _ _ _ _), zback ((t2.next b3).next b4) (by omega) (only_set2 _ _ _ _)⟩

theorem zres_nums {w : World} {s : Bool} {A : Option Addr} {n c : Nat} {Z : Int} {k : Nat} (h : ZRes w (.agg #[.bool s, .slice A n c]) Z k) : s = decide (Z < 0) ∧ Nums w A n (Limb.canon Z.natAbs) ∧ n ≤ c ∧ c ≤ 9223372036854775807 ∧ n ≤ k := by
  obtain ⟨A', n', c', e, h1, h2, h3, h4⟩ := h
  simp only [Value.agg.injEq, Array.mk.injEq, List.cons.injEq, Value.bool.injEq, Value.slice.injEq, and_true] at e
  obtain ⟨e0, e1, e2, e3⟩ := e
  subst e0 e1 e2 e3
  exact ⟨rfl, h1, h2, h3, h4⟩
set_option maxHeartbeats 1000000 in
theorem zsame_yes (v u : Value) (Z : Int) (k j : Nat) (w : World) (hv : ZRes w v Z k) (hu : ZRes w u Z j) : Calls Tryz.prog 59 #[v, u] w (YesPost w) := by
  obtain ⟨A, n, c, rfl, hx, hc, hm, hn⟩ := hv
  obtain ⟨B, m, d, rfl, hy, hd, hmd, hmk⟩ := hu
  obtain rfl : n = m := by rw [← hx.len, ← hy.len]
  have h0 : (decide (Z < 0) == decide (Z < 0)) = true := by simp
  generalize decide (Z < 0) = s at *
  generalize Limb.canon Z.natAbs = zs at *
  obtain ⟨x0, y0, z2, -⟩ := zstart2 w #[.bool s, .slice A n c] #[.bool s, .slice B n d]
  go_enter Tryz.func59, Tryz.ntmps59
  go_wp2_with fail
  refine (same_yes A B n c d zs _ (hx.below z2) (hy.below z2) (by omega)).mono ?_
  rintro e w1 ⟨rfl, hw⟩
  have b1 := bleK hw
  clear hw
  go_wp2_with fail
  go_ret
  exact ⟨rfl, z2.next b1⟩
def ShortPost (b : Bool) (w : World) (e : Ending) (w' : World) : Prop := e = .returned (.bool b) ∧ Below w.heap.size w w'
end Go.Proofs.YtdeakieenppmiaaGreat
/- zint.Of; plumblineref02.Of; the statements' is. -/
namespace Go.Proofs.YtdeakieenppmiaaGreat
open Go.RowKit
open Limb (limb limb_lt upto upto_succ upto_all upto_zero)

theorem wrapU (n : Int) : IntKind.u64.wrap n = n % 18446744073709551616 := by simp [IntKind.wrap, IntKind.bits, IntKind.signed]
set_option maxHeartbeats 1000000 in
theorem of_z (n : Int) (w : World) (h1 : -9223372036854775808 ≤ n) (h2 : n ≤ 9223372036854775807) : Calls Tryz.prog 55 #[.int .i64 n] w (ZPost n 2 w) := by
  obtain ⟨z1, z2, -⟩ := zstart1 w #[.bool false, .slice none 0 0]
  have hl : n.natAbs < 18446744073709551616 := by omega
  by_cases hn : n < 0
  · have hE := hide (show sg true n.natAbs = n by rw [sg_true]; omega)
    have hd : decide (n < 0) = true := decide_eq_true hn
    go_enter Tryz.func55, Tryz.ntmps55
    go_wp2_with fail
    refine (of_int _ n.natAbs _ (by rw [wrapU, wrapU]; omega) (by omega)).mono ?_
    rintro e w1 ⟨A1, n1, rfl, o1, b1⟩
    have hn1 := own_c o1
    go_wp2_with fail
    refine (signed_any true A1 n1 n1 _ w1 o1.len (by omega)).mono ?_
    rintro e w2 ⟨rfl, b2⟩
    have r2 := (zres_own (s := true) (k := 2) o1 (by omega)).below b2
    rw [hE.out, hd] at r2
    rw [hE.out, hd]
    have k2 := (z1.next b1).next b2
    go_wp2_with (with_reducible refine wpList_store_z rfl _ _ rfl w.heap.size _ _ _ _ rfl rfl _ _ k2 ?_; intro w3 k3 ho3)
    refine bodyPost_z rfl rfl k3 rfl ?_
    exact ⟨_, rfl, r2.only k2 ho3, zback ((z2.next b1).next b2) (Nat.le_refl _) ho3⟩
  · have hE := hide (show sg false n.natAbs = n by rw [sg_false]; omega)
    have hd : decide (n < 0) = false := decide_eq_false hn
    go_enter Tryz.func55, Tryz.ntmps55
    go_wp2_with fail
    refine (of_int _ n.natAbs _ (by omega) (by omega)).mono ?_
    rintro e w1 ⟨A1, n1, rfl, o1, b1⟩
    have hn1 := own_c o1
    go_wp2_with fail
    refine (signed_any false A1 n1 n1 _ w1 o1.len (by omega)).mono ?_
    rintro e w2 ⟨rfl, b2⟩
    have r2 := (zres_own (s := false) (k := 2) o1 (by omega)).below b2
    rw [hE.out, hd] at r2
    rw [hE.out, hd]
    have k2 := (z1.next b1).next b2
    go_wp2_with (with_reducible refine wpList_store_z rfl _ _ rfl w.heap.size _ _ _ _ rfl rfl _ _ k2 ?_; intro w3 k3 ho3)
    refine bodyPost_z rfl rfl k3 rfl ?_
    exact ⟨_, rfl, r2.only k2 ho3, zback ((z2.next b1).next b2) (Nat.le_refl _) ho3⟩

theorem nums_two (w : World) (x y : Nat) (us : Array Value) (hus : us = (u32s [x, y]).toArray) (h : x < 4294967296) (hy : y < 4294967296) : Nums (w.alloc (.cells us 81)) (some ⟨w.heap.size, 0, none⟩) 2 [x, y] :=
  Nums.new w [x, y] us hus (Limb.Ok.cons h (Limb.Ok.cons hy Limb.Ok.nil)) 2 rfl
set_option maxHeartbeats 1000000 in
theorem rof_z (n : Int) (w : World) (h1 : -9223372036854775808 ≤ n) (h2 : n ≤ 9223372036854775807) : Calls Tryz.prog 21 #[.int .i64 n] w (ZPost n 2 w) := by
  obtain ⟨z1, z2, z3⟩ := zstart1 w #[.bool false, .slice none 0 0]
  by_cases hn : n < 0
  · obtain ⟨m, rfl⟩ : ∃ m : Nat, n = -(m : Int) - 1 := ⟨(-n - 1).toNat, by omega⟩
    have hm : m ≤ 9223372036854775807 := by omega
    have e1 : -(m : Int) - 1 + 1 = -(m : Int) := by omega
    have e2 : 0 - -(m : Int) = (m : Int) := by omega
    clear h1 h2
    have hx := nums_two (w.alloc (.cells #[.bool false, .slice none 0 0] 26)) (m % 4294967296) (m / 4294967296) #[.int .u32 ((m : Int) % 4294967296), .int .u32 ((m : Int) / 4294967296)] (by simp [u32s]) (by omega) (by omega)
    have t2 := bl_alloc (w.alloc (.cells #[.bool false, .slice none 0 0] 26)) (.cells #[.int .u32 ((m : Int) % 4294967296), .int .u32 ((m : Int) / 4294967296)] 81)
    have s2 := size_alloc (w.alloc (.cells #[.bool false, .slice none 0 0] 26)) (.cells #[.int .u32 ((m : Int) % 4294967296), .int .u32 ((m : Int) / 4294967296)] 81)
    rw [z3] at hx s2
    have hv := hide (show Limb.val [m % 4294967296, m / 4294967296] = m by simp [Limb.val]; omega)
    have hy := lit1 ((w.alloc (.cells #[.bool false, .slice none 0 0] 26)).alloc (.cells #[.int .u32 ((m : Int) % 4294967296), .int .u32 ((m : Int) / 4294967296)] 81)) 1 1 #[.int .u32 1] rfl (by omega) (by omega) rfl
    have t3 := bl_alloc ((w.alloc (.cells #[.bool false, .slice none 0 0] 26)).alloc (.cells #[.int .u32 ((m : Int) % 4294967296), .int .u32 ((m : Int) / 4294967296)] 81)) (.cells #[.int .u32 1] 81)
    rw [s2] at hy
    have T := (z2.next t2).next t3
    have K := (z1.next t2).next t3
    have X := hx.below t3
    have hE := hide (show sg true (m + 1) = -(m : Int) - 1 by rw [sg_true]; omega)
    clear hx t2 t3 s2 z3
    go_enter Tryz.func21, Tryz.ntmps21
    go_wp2_with fail
    refine (radd_any _ _ 2 2 1 1 _ _ _ X hy (by omega) (by omega)).mono ?_
    rintro e w1 ⟨A1, n1, c1, rfl, o1, l1, m1, b1⟩
    rw [hv.out, Limb.val_canon] at o1
    have ln1 : n1 ≤ 2 := short_canon o1 (by omega)
    go_wp2_with fail
    refine (rfrom_any true A1 n1 c1 2 _ w1 o1 ln1 (by omega)).mono ?_
    rintro e w2 ⟨v2, rfl, r2, b2⟩
    rw [Limb.val_canon, hE.out] at r2
    obtain ⟨s2, A2, n2, c2, rfl⟩ := r2.form
    have k2 := (K.next b1).next b2
    go_wp2_with (with_reducible refine wpList_store_z rfl _ _ rfl w.heap.size _ _ _ _ rfl rfl _ _ k2 ?_; intro w3 k3 ho3)
    refine bodyPost_z rfl rfl k3 rfl ?_
    exact ⟨_, rfl, r2.only k2 ho3, zback ((T.next b1).next b2) (Nat.le_refl _) ho3⟩
  · obtain ⟨m, rfl⟩ := Int.eq_ofNat_of_zero_le (show 0 ≤ n by omega)
    clear hn h1
    have hx := nums_two (w.alloc (.cells #[.bool false, .slice none 0 0] 26)) (m % 4294967296) (m / 4294967296) #[.int .u32 ((m : Int) % 4294967296), .int .u32 ((m : Int) / 4294967296)] (by simp [u32s]) (by omega) (by omega)
    have t2 := bl_alloc (w.alloc (.cells #[.bool false, .slice none 0 0] 26)) (.cells #[.int .u32 ((m : Int) % 4294967296), .int .u32 ((m : Int) / 4294967296)] 81)
    rw [z3] at hx
    have hv := hide (show Limb.val [m % 4294967296, m / 4294967296] = m by simp [Limb.val]; omega)
    have hf := rfrom_any false _ 2 2 2 _ _ hx (by omega) (by omega)
    rw [hv.out, sg_false] at hf
    have K := z1.next t2
    have T := z2.next t2
    clear hx t2 z3 hv
    go_enter Tryz.func21, Tryz.ntmps21
    go_wp2_with fail
    refine hf.mono ?_
    rintro e w2 ⟨v2, rfl, r2, b2⟩
    obtain ⟨s2, A2, n2, c2, rfl⟩ := r2.form
    have k2 := K.next b2
    go_wp2_with (with_reducible refine wpList_store_z rfl _ _ rfl w.heap.size _ _ _ _ rfl rfl _ _ k2 ?_; intro w3 k3 ho3)
    refine bodyPost_z rfl rfl k3 rfl ?_
    exact ⟨_, rfl, r2.only k2 ho3, zback (T.next b2) (Nat.le_refl _) ho3⟩

end Go.Proofs.YtdeakieenppmiaaGreat
/- term: copied, Number, the closures of plain and Scale. -/
namespace Go.Proofs.YtdeakieenppmiaaGreat
open Go.RowKit

set_option maxHeartbeats 1000000 in
theorem copied_z (v : Value) (Z : Int) (k : Nat) (w : World) (hv : ZIn w v Z k) (hk : k ≤ 1099511627776) : Calls Tryz.prog 56 #[v] w (ZPost Z k w) := by
  obtain ⟨s, A, n, c, xs, rfl, hx, hc, hm, hn, rfl⟩ := hv
  obtain ⟨z0, z1, z2, -⟩ := zstart2 w #[.bool s, .slice A n c] #[.bool false, .slice none 0 0]
  have hf := from_any s A n c k xs _ (hx.below z2) hc hm hn hk
  go_enter Tryz.func56, Tryz.ntmps56
  go_wp2_with fail
  refine hf.mono ?_
  rintro e w1 ⟨v1, rfl, r1, b1⟩
  obtain ⟨s1, A1, n1, c1, rfl⟩ := r1.form
  have k1 := z1.next b1
  go_wp2_with (with_reducible refine wpList_store_z rfl _ _ rfl (w.heap.size + 1) _ _ _ _ rfl rfl _ _ k1 ?_; intro w3 k3 ho3)
  refine bodyPost_z rfl rfl k3 rfl ?_
  exact ⟨_, rfl, r1.only k1 ho3, zback (z2.next b1) (by omega) ho3⟩
/-- A term of a number alone. -/
theorem TRes.number {w w' : World} {v : Value} {s : Bool} {B : Option Addr} {m d : Nat} {K : Int} {k : Nat} (h : ZRes w (.agg #[.bool s, .slice B m d]) K k) : TRes w (.agg #[.slice none 0 0, .bool s, .slice B m d]) [] K k :=
  ⟨none, 0, 0, s, B, m, d, rfl, PRes.nil _ _ _, Nat.le_refl _, by omega, h⟩
set_option maxHeartbeats 1000000 in
theorem number_t (v : Value) (Z : Int) (k : Nat) (w : World) (hv : ZIn w v Z k) (hk : k ≤ 1099511627776) : Calls Tryz.prog 20 #[v] w (TPost [] Z k w) := by
  have hv0 := hv
  obtain ⟨s, A, n, c, xs, rfl, -⟩ := hv
  obtain ⟨z0, z1, z2, -⟩ := bstart2 26 28 w #[.bool s, .slice A n c] #[.slice none 0 0, .bool false, .slice none 0 0]
  have hf := copied_z _ Z k _ (hv0.below z2) hk
  have c0 := Blk.c0 z0
  have c1 := Blk.c1 z0
  go_enter Tryz.func20, Tryz.ntmps20
  go_wp2_with fail
  refine hf.mono ?_
  rintro e w1 ⟨v1, rfl, r1, b1⟩
  obtain ⟨s1, A1, n1, c1, rfl⟩ := r1.form
  have k1 := z1.next b1
  go_wp2_with (with_reducible refine wpList_store_t rfl _ _ rfl (w.heap.size + 1) _ _ _ _ _ _ _ rfl rfl _ _ _ k1 ?_; intro w3 k3 ho3)
  refine bodyPost_t rfl rfl k3 rfl ?_
  exact ⟨_, rfl, (TRes.number r1 (w' := w) (v := undef)).only k1 ho3, zback (z2.next b1) (by omega) ho3⟩
/-- The closure of plain that asks whether a coefficient is 0. -/
theorem plain2_any (q : PV) (k : Nat) (w : World) (hz : ZIn w q.num q.Z k) (hk : k ≤ 1099511627776) : Calls Tryz.prog 71 #[q.agg] w (fun e w' => e = .returned (.bool (decide (q.Z = 0))) ∧ Below w.heap.size w w') := by
  obtain ⟨x, s, B, m, d, Z⟩ := q
  obtain ⟨z0, z1, -⟩ := bstart1 51 w #[.int .i64 x, .bool s, .slice B m d]
  have hs := sign_z _ Z k _ (hz.below z1) hk
  unfold SignPost at hs
  have c1 := z0.c1
  have c2 := z0.c2
  unfold PV.num at hs
  dsimp only at hs
  show Calls _ _ #[.agg #[.int .i64 x, .bool s, .slice B m d]] _ _
  by_cases h0 : Z = 0
  · subst h0
    rw [show Int.sign 0 = 0 from rfl] at hs
    rw [show decide ((0 : Int) = 0) = true from rfl]
    go_enter Tryz.func71, Tryz.ntmps71
    go_wp2_with fail
    refine hs.mono ?_
    rintro e w1 ⟨rfl, b1⟩
    go_wp2_with fail
    go_ret
    exact ⟨rfl, z1.next b1⟩
  · have h1 : (Z.sign == 0) = false := sgn_ne h0
    have h2 : decide (Z = 0) = false := by simpa using h0
    dsimp only
    rw [h2]
    generalize Z.sign = q at *
    clear h0 h2
    go_enter Tryz.func71, Tryz.ntmps71
    go_wp2_with fail
    refine hs.mono ?_
    rintro e w1 ⟨rfl, b1⟩
    go_wp2_with fail
    go_ret
    exact ⟨rfl, z1.next b1⟩
/-- The closure of Scale. -/
theorem scale1_any (v u : Value) (N Z : Int) (g j k : Nat) (w : World) (hb : ∃ s A n c, v = .agg #[.bool s, .slice A n c] ∧ Blk w g #[.bool s, .slice A n c]) (hv : ZIn w v N j) (hu : ZIn w u Z k) (hk : k ≤ 137438953472) (hj : j ≤ 137438953472) :
    Calls Tryz.prog 74 #[u, .pointer (some ⟨g, 0, none⟩)] w (ZPost (N * Z) (j + k) w) := by
  obtain ⟨s, A, n, c, rfl, hb⟩ := hb
  have hu0 := hu
  obtain ⟨t, B, m, d, ys, rfl, -⟩ := hu
  obtain ⟨z0, z1, z2, -⟩ := zstart2 w #[.bool t, .slice B m d] #[.bool false, .slice none 0 0]
  have hf := mul_z _ _ N Z j k _ (hv.below z2) (hu0.below z2) hj hk
  have q := hb.next z2
  have c0 := z0.c0
  have c1 := z0.c1
  have d0 := q.c0
  have d1 := q.c1
  go_enter Tryz.func74, Tryz.ntmps74
  go_wp2_with fail
  refine hf.mono ?_
  rintro e w1 ⟨v1, rfl, r1, b1⟩
  obtain ⟨s1, A1, n1, c1, rfl⟩ := r1.form
  have k1 := z1.next b1
  go_wp2_with (with_reducible refine wpList_store_z rfl _ _ rfl (w.heap.size + 1) _ _ _ _ rfl rfl _ _ k1 ?_; intro w3 k3 ho3)
  refine bodyPost_z rfl rfl k3 rfl ?_
  exact ⟨_, rfl, r1.only k1 ho3, zback (z2.next b1) (by omega) ho3⟩
end Go.Proofs.YtdeakieenppmiaaGreat
