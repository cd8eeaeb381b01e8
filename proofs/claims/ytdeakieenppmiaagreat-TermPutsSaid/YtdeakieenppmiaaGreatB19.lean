/- Texts of one seat, put together: SortPart ArePlain SortB CloneP DelP. -/
import Derived.Shelf.SlSortCmp.NoneTotal
import Derived.Test.YtdeakieenppmiaaGreatB02
import Derived.Test.YtdeakieenppmiaaGreatB18
set_option linter.unusedVariables false
/- slices.SortFunc over parts: the library's own contract, laid at this program. -/
namespace Go.Proofs.YtdeakieenppmiaaGreat
open Go.Shelf
def Tryz.sortPart_ren : Go.Shelf.Ren := ⟨fun | 6 => 67 | 15 => 91 | 14 => 108 | 28 => 138 | 29 => 139 | 20 => 145 | 21 => 146 | 22 => 147 | 23 => 148 | 24 => 149 | 25 => 150 | 26 => 151 | 27 => 152 | 46 => 176 | 47 => 168 | 48 => 169 | 49 => 177 | 50 => 178 | 57 => 191 | n => n, fun | 22 => 22 | 24 => 51 | 25 => 91 | 3 => 3 | 39 => 108 | 0 => 0 | 53 => 81 | 55 => 116 | 4 => 4 | 46 => 136 | 45 => 135 | 50 => 58 | 5 => 5 | 9 => 9 | 66 => 162 | 70 => 166 | 76 => 178 | 77 => 179 | n => n, fun | n => n⟩
theorem Tryz.sortPart : Go.Proofs.SlLaysF0.n6 Tryz.prog Tryz.sortPart_ren := {
  mixed := by kernel_rfl
  f6 := ⟨Tryz.f67.name, by decide, Tryz.func67.trans (congrArg some (by kernel_rfl))⟩
  f14 := ⟨Tryz.f108.name, by decide, Tryz.func108.trans (congrArg some (by kernel_rfl))⟩
  f15 := Tryz.func91.trans (congrArg some (by kernel_rfl))
  f20 := ⟨Tryz.f145.name, by decide, Tryz.func145.trans (congrArg some (by kernel_rfl))⟩
  f21 := ⟨Tryz.f146.name, by decide, Tryz.func146.trans (congrArg some (by kernel_rfl))⟩
  f22 := ⟨Tryz.f147.name, by decide, Tryz.func147.trans (congrArg some (by kernel_rfl))⟩
  f23 := ⟨Tryz.f148.name, by decide, Tryz.func148.trans (congrArg some (by kernel_rfl))⟩
  f24 := ⟨Tryz.f149.name, by decide, Tryz.func149.trans (congrArg some (by kernel_rfl))⟩
  f25 := ⟨Tryz.f150.name, by decide, Tryz.func150.trans (congrArg some (by kernel_rfl))⟩
  f26 := ⟨Tryz.f151.name, by decide, Tryz.func151.trans (congrArg some (by kernel_rfl))⟩
  f27 := ⟨Tryz.f152.name, by decide, Tryz.func152.trans (congrArg some (by kernel_rfl))⟩
  f28 := Tryz.func138.trans (congrArg some (by kernel_rfl))
  f29 := Tryz.func139.trans (congrArg some (by kernel_rfl))
  f46 := ⟨Tryz.f176.name, by decide, Tryz.func176.trans (congrArg some (by kernel_rfl))⟩
  f47 := Tryz.func168.trans (congrArg some (by kernel_rfl))
  f48 := Tryz.func169.trans (congrArg some (by kernel_rfl))
  f49 := ⟨Tryz.f177.name, by decide, Tryz.func177.trans (congrArg some (by kernel_rfl))⟩
  f50 := ⟨Tryz.f178.name, by decide, Tryz.func178.trans (congrArg some (by kernel_rfl))⟩
  f57 := ⟨Tryz.f191.name, by decide, Tryz.func191.trans (congrArg some (by kernel_rfl))⟩
  t0 := Tryz.underlying0
  a0 := Tryz.isAgg0
  z0 := Tryz.sizeOf0
  v0 := Tryz.zeroValue0
  t3 := Tryz.underlying3
  a3 := Tryz.isAgg3
  z3 := Tryz.sizeOf3
  v3 := Tryz.zeroValue3
  t4 := Tryz.underlying4
  a4 := Tryz.isAgg4
  z4 := Tryz.sizeOf4
  v4 := Tryz.zeroValue4
  t5 := Tryz.underlying5
  a5 := Tryz.isAgg5
  z5 := Tryz.sizeOf5
  v5 := Tryz.zeroValue5
  t9 := Tryz.underlying9
  a9 := Tryz.isAgg9
  z9 := Tryz.sizeOf9
  v9 := Tryz.zeroValue9
  t22 := Tryz.underlying22
  a22 := Tryz.isAgg22
  z22 := Tryz.sizeOf22
  v22 := Tryz.zeroValue22
  t25 := Tryz.underlying91
  a25 := Tryz.isAgg91
  z25 := Tryz.sizeOf91
  v25 := Tryz.zeroValue91
  t39 := Tryz.underlying108
  a39 := Tryz.isAgg108
  z39 := Tryz.sizeOf108
  v39 := Tryz.zeroValue108
  t45 := Tryz.underlying135
  a45 := Tryz.isAgg135
  z45 := Tryz.sizeOf135
  v45 := Tryz.zeroValue135
  t46 := Tryz.underlying136
  a46 := Tryz.isAgg136
  z46 := Tryz.sizeOf136
  v46 := Tryz.zeroValue136
  t50 := Tryz.underlying58
  a50 := Tryz.isAgg58
  z50 := Tryz.sizeOf58
  v50 := Tryz.zeroValue58
  t53 := Tryz.underlying81
  a53 := Tryz.isAgg81
  z53 := Tryz.sizeOf81
  v53 := Tryz.zeroValue81
  t55 := Tryz.underlying116
  a55 := Tryz.isAgg116
  z55 := Tryz.sizeOf116
  v55 := Tryz.zeroValue116
  t66 := Tryz.underlying162
  a66 := Tryz.isAgg162
  z66 := Tryz.sizeOf162
  v66 := Tryz.zeroValue162
  t70 := Tryz.underlying166
  a70 := Tryz.isAgg166
  z70 := Tryz.sizeOf166
  v70 := Tryz.zeroValue166
  t76 := Tryz.underlying178
  a76 := Tryz.isAgg178
  z76 := Tryz.sizeOf178
  v76 := Tryz.zeroValue178
  t77 := Tryz.underlying179
  a77 := Tryz.isAgg179
  z77 := Tryz.sizeOf179
  v77 := Tryz.zeroValue179 }
end Go.Proofs.YtdeakieenppmiaaGreat
/- term.arePlain; cmp.Compare over int; the closure by which plain sorts. -/
namespace Go.Proofs.YtdeakieenppmiaaGreat
open Go.RowKit
open Tm

def risingB : Int → List (Int × Int) → Bool
  | _, [] => true
  | b, (u, c) :: ps => decide (b < u) && (decide (c ≠ 0) && risingB u ps)
theorem risingB_iff (b : Int) (ps : List (Int × Int)) : risingB b ps = true ↔ Rising b ps := by
  induction ps generalizing b with
  | nil => simp [risingB, Rising]
  | cons p ps ih =>
    obtain ⟨u, c⟩ := p
    simp [risingB, Rising, ih]
theorem drop_cons {α : Type} {l : List α} {i : Nat} {x : α} (h : l[i]? = some x) : l.drop i = x :: l.drop (i + 1) := by
  obtain ⟨hlt, rfl⟩ := List.getElem?_eq_some_iff.1 h
  exact List.drop_eq_getElem_cons hlt
theorem lin_get {ps : List PV} {i : Nat} {p : PV} (h : ps[i]? = some p) : (lin ps)[i]? = some (p.v, p.Z) := by
  unfold lin
  rw [List.getElem?_map, h]
  rfl
def BoolB (b : Bool) (w : World) (e : Ending) (w' : World) : Prop := e = .returned (.bool b) ∧ Below w.heap.size w w'
/-- Where part i of a slice of parts lies. -/
theorem PIn.at_ {w : World} {A : Option Addr} {n k i : Nat} {L : List (Int × Int)} (h : PIn w A n L k) (hi : i < n) : ∃ (b o : Nat) (p : PV), A = some ⟨b, o, none⟩ ∧ b < w.heap.size ∧ L[i]? = some (p.v, p.Z) ∧ w.cell? ⟨b, o + i * 3, none⟩ = some (.int .i64 p.v) ∧ w.cell? ⟨b, o + i * 3 + 1, none⟩ = some (.bool p.s) ∧ w.cell? ⟨b, o + i * 3 + 2, none⟩ = some (.slice p.B p.m p.d) ∧ ZIn w p.num p.Z k := by
  obtain ⟨ps, h1, rfl⟩ := h
  obtain ⟨b, o, p, e, hp, c0, c1, c2, hz⟩ := h1.at_ hi
  have e0 : o + 3 * i = o + i * 3 := by omega
  have e1 : o + (3 * i + 1) = o + i * 3 + 1 := by omega
  have e2 : o + (3 * i + 2) = o + i * 3 + 2 := by omega
  rw [e0] at c0
  rw [e1] at c1
  rw [e2] at c2
  exact ⟨b, o, p, e, World.block_lt_of_cell? w _ c0, lin_get hp, c0, c1, c2, hz⟩
set_option maxHeartbeats 1000000 in
theorem arePlain_any (A : Option Addr) (n c : Nat) (L : List (Int × Int)) (k : Nat) (w : World) (hx : PIn w A n L k) (hm : n ≤ 9223372036854775807) (hk : k ≤ 1099511627776) :
    Calls Tryz.prog 65 #[.slice A n c] w (BoolB (risingB (-1) L) w) := by
  have hlen := hide hx.len
  go_enter Tryz.func65, Tryz.ntmps65
  go_wp2_with fail
  go_loopw [3, 8] (fun l i wr => ∃ (q : Nat) (b : Int), q ≤ n ∧ i = .int .i64 q ∧ l = .int .i64 b ∧ Hid (risingB (-1) L = risingB b (L.drop q)) ∧ Below w.heap.size w wr) (fun _ i _ => n - (intOf i).toNat)
  case atStart => exact ⟨0, -1, Nat.zero_le _, rfl, rfl, Lib.hid (by rw [List.drop_zero]), Below.refl _ _⟩
  case round =>
    obtain ⟨q, b, hq, rfl, rfl, HR, hb⟩ := hrel
    by_cases hqn : q < n
    · obtain ⟨bb, o, p, rfl, hlt, hL, c0, c1, c2, hz⟩ := (hx.below hb).at_ hqn
      obtain ⟨v, s, B, m, d, Z⟩ := p
      dsimp only at hL c0 c1 c2
      have hD := hide (drop_cons hL)
      clear hL
      obtain ⟨z0, z1, -⟩ := bstart1 51 wr #[.int .i64 v, .bool s, .slice B m d]
      have x0 := z0.c0
      have x1 := z0.c1
      have x2 := z0.c2
      by_cases hvb : v ≤ b
      · have HF := hide (show risingB b ((v, Z) :: L.drop (q + 1)) = false by simp [risingB]; omega)
        have hd : decide (v ≤ b) = true := by simpa using hvb
        go_wp2_with fail
        go_ret
        exact ⟨by rw [HR.out, hD.out, HF.out]; rfl, hb.next z1⟩
      · have hd : decide (v ≤ b) = false := by simpa using hvb
        have hs := sign_z _ Z k _ (hz.below z1) hk
        unfold SignPost PV.num at hs
        dsimp only at hs
        by_cases h0 : Z = 0
        · subst h0
          rw [show Int.sign 0 = 0 from rfl] at hs
          have HF := hide (show risingB b ((v, 0) :: L.drop (q + 1)) = false by simp [risingB])
          go_wp2_with fail
          refine hs.mono ?_
          rintro e w1 ⟨rfl, b1⟩
          go_wp2_with fail
          go_ret
          exact ⟨by rw [HR.out, hD.out, HF.out]; rfl, (hb.next z1).next b1⟩
        · have h1 : (Z.sign == 0) = false := sgn_ne h0
          have HT := hide (show risingB b ((v, Z) :: L.drop (q + 1)) = risingB v (L.drop (q + 1)) by simp [risingB, h0]; omega)
          generalize Z.sign = sg at *
          clear h0
          go_wp2_with fail
          refine hs.mono ?_
          rintro e w1 ⟨rfl, b1⟩
          have y0 := (z0.next b1).c0
          go_wp2_with fail
          go_roundw
          case rel => exact ⟨q + 1, v, by omega, by go_num, rfl, Lib.hid (by rw [HR.out, hD.out, HT.out]), (hb.next z1).next b1⟩
          case measure => simp [intOf] <;> omega
    · have HT := hide (show risingB b (L.drop q) = true by rw [List.drop_of_length_le (by have := hlen.out; omega)]; rfl)
      go_wp2_with fail
      go_ret
      exact ⟨by rw [HR.out, HT.out]; rfl, hb⟩

theorem isNaN_any (x : Int) (w : World) : Calls Tryz.prog 109 #[.int .i64 x] w (fun e w' => e = .returned (.bool false) ∧ w' = w) := by
  have h : (x != x) = false := by simp
  go_enter Tryz.func109, Tryz.ntmps109
  go_wp2_with fail
  go_ret
  exact ⟨rfl, rfl⟩
theorem compare_any (x y : Int) (w : World) : Calls Tryz.prog 69 #[.int .i64 x, .int .i64 y] w (fun e w' => e = .returned (.int .i64 (cmpZ x y)) ∧ w' = w) := by
  rcases Int.lt_trichotomy x y with h | h | h
  · have H := hide (show cmpZ x y = -1 by unfold cmpZ; rw [if_pos h])
    go_enter Tryz.func69, Tryz.ntmps69
    go_wp2_with (go_at_call 109; refine (isNaN_any _ _).mono ?_; rintro e w' ⟨rfl, rfl⟩)
    go_ret
    exact ⟨by rw [H.out]; rfl, rfl⟩
  · have H := hide (show cmpZ x y = 0 by unfold cmpZ; rw [if_neg (by omega), if_neg (by omega)])
    have h1 : ¬ x < y := by omega
    have h2 : ¬ y < x := by omega
    clear h
    go_enter Tryz.func69, Tryz.ntmps69
    go_wp2_with (go_at_call 109; refine (isNaN_any _ _).mono ?_; rintro e w' ⟨rfl, rfl⟩)
    go_ret
    exact ⟨by rw [H.out]; rfl, rfl⟩
  · have H := hide (show cmpZ x y = 1 by unfold cmpZ; rw [if_neg (by omega), if_pos h])
    have h1 : ¬ x < y := by omega
    go_enter Tryz.func69, Tryz.ntmps69
    go_wp2_with (go_at_call 109; refine (isNaN_any _ _).mono ?_; rintro e w' ⟨rfl, rfl⟩)
    go_ret
    exact ⟨by rw [H.out]; rfl, rfl⟩
open Go.Shelf Go.Lib Go.Sort in
theorem plain1_any (x y : PV) (W : World) : Calls Tryz.prog 68 #[x.agg, y.agg] W (fun e w' => e = .returned (.int .i64 (cmpZ x.v y.v)) ∧ ∃ q os', w' = grow (W.drewN q) os') := by
  obtain ⟨xv, xs, xB, xm, xd, xZ⟩ := x
  obtain ⟨yv, ys, yB, ym, yd, yZ⟩ := y
  obtain ⟨z0, z1, -, -⟩ := bstart2 51 51 W #[.int .i64 xv, .bool xs, .slice xB xm xd] #[.int .i64 yv, .bool ys, .slice yB ym yd]
  have x0 := z0.c0
  have y0 := z1.c0
  show Calls _ _ #[.agg #[.int .i64 xv, .bool xs, .slice xB xm xd], .agg #[.int .i64 yv, .bool ys, .slice yB ym yd]] _ _
  dsimp only
  go_enter Tryz.func68, Tryz.ntmps68
  go_wp2_with (go_at_call 69; refine (compare_any _ _ _).mono ?_; rintro e w' ⟨rfl, rfl⟩)
  go_ret
  exact ⟨rfl, 0, _, by rw [alloc_eq_grow, alloc_eq_grow, grow_grow]; rfl⟩
end Go.Proofs.YtdeakieenppmiaaGreat
/- slices.SortFunc over parts by their variables; slices.Clone of parts. -/
namespace Go.Proofs.YtdeakieenppmiaaGreat
open Go.RowKit
open Tm

instance : Inhabited PV := ⟨⟨0, false, none, 0, 0, 0⟩⟩
theorem PV.cells_len (p : PV) : p.cells.length = 3 := rfl
theorem PV.one (p : PV) : ∀ v ∈ p.cells, v.oneCell' = true := by
  intro v hv
  simp [PV.cells] at hv
  rcases hv with rfl | rfl | rfl <;> rfl
theorem PV.nls (p : PV) : NLs p.cells := by
  intro v hv
  simp [PV.cells] at hv
  rcases hv with rfl | rfl | rfl
  · exact NL.i64 _
  · exact NL.bool _
  · exact NL.slice _ _ _
theorem flat_mem {ps : List PV} {u : Value} (h : u ∈ flat ps) : ∃ p ∈ ps, u ∈ p.cells := by
  unfold flat at h
  obtain ⟨l, hl, hu⟩ := List.mem_flatten.1 h
  obtain ⟨p, hp, rfl⟩ := List.mem_map.1 hl
  exact ⟨p, hp, hu⟩
theorem flat_one (ps : List PV) : ∀ u ∈ flat ps, u.oneCell' = true := fun u hu => by
  obtain ⟨p, _, h⟩ := flat_mem hu
  exact p.one u h
theorem flat_nls (ps : List PV) : NLs (flat ps) := fun u hu => by
  obtain ⟨p, _, h⟩ := flat_mem hu
  exact p.nls u h
open Go.Shelf Go.Lib Go.Sort in
theorem flatK_flat (d : Array PV) : (flatK PV.cells 3 d).toList = flat d.toList := by
  apply List.ext_getElem?
  intro t
  by_cases ht : t < d.size * 3
  · have hq : t / 3 < d.size := by omega
    have hg : d.toList[t / 3]? = some d[t / 3] := by simp [hq]
    obtain ⟨g0, g1, g2⟩ := flat_get d.toList (t / 3) _ hg
    have h1 := get_flatK PV.cells 3 d t ht
    have hs : t < (flatK PV.cells 3 d).size := by rw [size_flatK]; exact ht
    rw [getElem!_pos _ t hs, getElem!_pos d _ hq] at h1
    have h2 : (flatK PV.cells 3 d).toList[t]? = some ((d[t / 3]).cells[t % 3]!) := by
      rw [Array.getElem?_toList, Array.getElem?_eq_getElem hs, h1]
    rw [h2]
    clear h1 h2 hg
    generalize d[t / 3] = p at *
    have h3 : t % 3 = 0 ∨ t % 3 = 1 ∨ t % 3 = 2 := by omega
    rcases h3 with h3 | h3 | h3
    · rw [show 3 * (t / 3) = t by omega] at g0
      rw [h3, g0]
      simp [PV.cells]
    · rw [show 3 * (t / 3) + 1 = t by omega] at g1
      rw [h3, g1]
      simp [PV.cells]
    · rw [show 3 * (t / 3) + 2 = t by omega] at g2
      rw [h3, g2]
      simp [PV.cells]
  · rw [List.getElem?_eq_none (by simpa using ht), List.getElem?_eq_none (by rw [flat_length]; simp; omega)]
theorem sorted_of_pairwise {L : List (Int × Int)} (h : L.Pairwise fun p q => p.1 ≤ q.1) (b : Int) (hb : ∀ p ∈ L, b ≤ p.1) : Sorted b L := by
  induction L generalizing b with
  | nil => trivial
  | cons p L ih =>
    obtain ⟨v, c⟩ := p
    rw [List.pairwise_cons] at h
    exact ⟨hb (v, c) (List.mem_cons_self ..), ih h.2 v (fun q hq => h.1 q hq)⟩
theorem low_bound (L : List (Int × Int)) : ∃ b, ∀ p ∈ L, b ≤ p.1 := by
  induction L with
  | nil => exact ⟨0, fun p hp => by cases hp⟩
  | cons p L ih =>
    obtain ⟨b, hb⟩ := ih
    refine ⟨min b p.1, fun q hq => ?_⟩
    rcases List.mem_cons.1 hq with rfl | hq
    · omega
    · have := hb q hq; omega
open Go.Shelf Go.Lib Go.Sort in
theorem lt_of_cmp (x y : PV) : ltOf (fun a b : PV => cmpZ a.v b.v) x y = decide (x.v < y.v) := by
  unfold ltOf cmpZ
  by_cases h1 : x.v < y.v
  · simp [h1]
  · by_cases h2 : y.v < x.v
    · simp [h1, h2]
    · simp [h1, h2]
open Go.Shelf Go.Lib Go.Sort in
theorem swo_v : SWO (ltOf fun a b : PV => cmpZ a.v b.v) where
  irrefl x := by rw [lt_of_cmp]; simp
  trans x y z h1 h2 := by rw [lt_of_cmp] at *; simp at *; omega
  ntrans x y z h1 h2 := by rw [lt_of_cmp] at *; simp at *; omega
def SortPost (base g n c : Nat) (ps : List PV) (w : World) (e : Ending) (w' : World) : Prop :=
  e = .returned (.tuple #[]) ∧ ∃ qs : List PV, qs.Perm ps ∧ LRow 51 3 w' base (.slice (some ⟨g, 0, none⟩) n c) n (flat qs) ∧ (∃ b, Sorted b (lin qs)) ∧ Only g w w'
open Go.Shelf Go.Lib Go.Sort in
set_option maxHeartbeats 1000000 in
theorem sortPart_any (base g n c : Nat) (ps : List PV) (w : World) (h : LRow 51 3 w base (.slice (some ⟨g, 0, none⟩) n c) n (flat ps)) (hn : n < 4611686018427387904) :
    Calls Tryz.prog 67 #[.slice (some ⟨g, 0, none⟩) n c, .func (.func 68) #[] #[]] w (SortPost base g n c ps w) := by
  obtain ⟨hl, hv⟩ := h
  rcases hv with ⟨hv, -⟩ | ⟨g', cap, cur, hv, hbase, hh, h1, h2, h3, h4, h5⟩
  · cases hv
  injection hv with e1 e2 e3
  injection e1 with e1
  injection e1 with e1
  subst e1 e3
  have hpn : ps.length = n := by rw [flat_length] at hl; omega
  have eg : ∀ args w, (callFunc 68 args).run Tryz.prog w = .ok (.enter 68 args) w := enters_of Tryz.func68 (by kernel_rfl) rfl
  have hds : ps.toArray.size = n := by simpa using hpn
  have hlt : g < w.heap.size := (Array.getElem?_eq_some_iff.1 hh).1
  have hH : HoldsK PV.cells 3 w g 0 ps.toArray := by
    intro j hj
    rw [size_flatK, hds] at hj
    have hjs : j < (flatK PV.cells 3 ps.toArray).size := by rw [size_flatK, hds]; exact hj
    have e1 : (flatK PV.cells 3 ps.toArray)[j]! = (flatK PV.cells 3 ps.toArray)[j] := getElem!_pos _ j hjs
    have e2 : (flat ps)[j]? = some ((flatK PV.cells 3 ps.toArray)[j]) := by
      have := flatK_flat ps.toArray
      rw [show ps.toArray.toList = ps from rfl] at this
      rw [← this, Array.getElem?_toList, Array.getElem?_eq_getElem hjs]
    rw [e1, Nat.zero_add]
    refine ⟨?_, by simp [World.frozen?, hh]⟩
    rw [cell_of_row w g j _ _ _ hh]
    rw [← h4, List.getElem?_take_of_lt hj] at e2
    simpa using e2
  have hcmp : CmpLays Tryz.prog 68 #[] PV.cells 3 (fun a b : PV => cmpZ a.v b.v) g 0 ps.toArray.size w := fun _ _ _ _ x y => plain1_any x y _
  have hcon := AnyQ.slices_SortFunc Tryz.sortPart 3 Tryz.isAgg51 Tryz.sizeOf51 PV.cells (fun _ => rfl) PV.one (fun a b : PV => cmpZ a.v b.v) swo_v 68 #[] g 0 c ps.toArray w eg hcmp hH hlt (by rw [hds]; exact hn)
  rw [hds] at hcon
  refine Calls.mono hcon ?_
  rintro e w' ⟨rfl, d', m, os, hp, hs, rfl⟩
  have hds' : d'.size = n := by rw [hp.1, hds]
  refine ⟨rfl, d'.toList, ?_, ⟨by rw [flat_length]; simp [hds']; omega, .inr ⟨g, c, putCells id 0 (flatK PV.cells 3 d') cur, rfl, hbase, ?_, h1, h2, ?_, ?_, ?_⟩⟩, ?_, ?_⟩
  · have := hp.2.2
    rw [show d'.extract 0 n = d' by rw [← hds']; simp, show ps.toArray.extract 0 n = ps.toArray by rw [← hds]; simp] at this
    exact this
  · show (grow _ os).heap[g]? = _
    rw [heap_grow_old _ _ (by rw [show (putRowK PV.cells 3 (Sort.ahead w m) g 0 d').heap.size = w.heap.size from size_putRowK _ _ _ _ _ _]; exact hlt)]
    show ((w.heap.modify g (onCells (putCells id 0 (flatK PV.cells 3 d'))))[g]?) = _
    rw [Array.getElem?_modify, if_pos rfl, hh]
    rfl
  · simpa [putCells] using h3
  · have hcs : n * 3 ≤ cur.size := by rw [h3]; exact Nat.mul_le_mul_right _ h1
    rw [← flatK_flat d']
    apply List.ext_getElem?
    intro t
    by_cases ht : t < n * 3
    · have hts : t < (flatK PV.cells 3 d').size := by rw [size_flatK, hds']; exact ht
      rw [List.getElem?_take_of_lt ht, Array.getElem?_toList, Array.getElem?_toList, Array.getElem?_eq_getElem hts]
      unfold putCells
      rw [Array.getElem?_mapIdx, Array.getElem?_eq_getElem (by omega), Option.map_some, if_pos ⟨Nat.zero_le _, by omega⟩, Nat.sub_zero, getElem!_pos _ t hts]
      rfl
    · rw [List.getElem?_eq_none (by simp; omega), List.getElem?_eq_none (by simp [size_flatK, hds']; omega)]
  · intro u hu
    unfold putCells at hu
    rw [Array.toList_mapIdx] at hu
    obtain ⟨i, hi, rfl⟩ := List.mem_mapIdx.1 hu
    split
    · rename_i hr
      have hts : i - 0 < (flatK PV.cells 3 d').size := by omega
      rw [getElem!_pos (flatK PV.cells 3 d') (i - 0) hts]
      have : (flatK PV.cells 3 d')[i - 0] ∈ flat d'.toList := by rw [← flatK_flat]; simp
      exact flat_nls _ _ this
    · exact h5 _ (List.getElem_mem hi)
  · obtain ⟨b, hb⟩ := low_bound (lin d'.toList)
    refine ⟨b, sorted_of_pairwise ?_ b hb⟩
    unfold lin
    rw [List.pairwise_map]
    rw [List.pairwise_iff_getElem]
    intro i j hi hj hij
    have h6 := hs i j (Nat.zero_le _) hij (by simp at hj; omega)
    rw [lt_of_cmp] at h6
    simp at hi hj
    rw [getElem!_pos d' i hi, getElem!_pos d' j hj] at h6
    simp at h6
    simpa [PV.part] using h6
  · refine ⟨rfl, rfl, rfl, ?_, fun k hk hne => ?_⟩
    · show w.heap.size ≤ (grow _ os).heap.size
      rw [size_grow, show (putRowK PV.cells 3 (Sort.ahead w m) g 0 d').heap.size = w.heap.size from size_putRowK _ _ _ _ _ _]
      omega
    · show (grow _ os).heap[k]? = _
      rw [heap_grow_old _ _ (by rw [show (putRowK PV.cells 3 (Sort.ahead w m) g 0 d').heap.size = w.heap.size from size_putRowK _ _ _ _ _ _]; exact hk)]
      show ((w.heap.modify g (onCells (putCells id 0 (flatK PV.cells 3 d'))))[k]?) = _
      rw [Array.getElem?_modify, if_neg (fun e => hne (by rw [e]))]
end Go.Proofs.YtdeakieenppmiaaGreat
/- slices.Clone, slices.IndexFunc and slices.DeleteFunc over parts. -/
namespace Go.Proofs.YtdeakieenppmiaaGreat
open Go.RowKit
open Tm

theorem part_info : (Tryz.prog.info? 51).map (fun i => (i.zero, i.size, i.bytes)) = some (some (.agg #[.int .i64 0, .bool false, .slice none 0 0]), 3, 40) := by kernel_rfl
theorem part_zero_nls : NLs (Value.agg #[.int .i64 0, .bool false, .slice none 0 0]).cells.toList := by
  show NLs [.int .i64 0, .bool false, .slice none 0 0]
  intro u hu
  simp at hu
  rcases hu with rfl | rfl | rfl
  · exact NL.i64 _
  · exact NL.bool _
  · exact NL.slice _ _ _
theorem addr_add (b o j : Nat) : (⟨b, o, none⟩ : Addr).add j = ⟨b, o + j, none⟩ := by
  by_cases hj0 : j = 0
  · subst hj0; rfl
  · simp [Addr.add, hj0]
/-- append(xs, parts...), xs a list of the call's own. -/
theorem wpList_append_parts {w : World} {ops : Array Oper} {rest : List Oper} {o : Oper} {a : Act} {Q : Exit → Act → World → Prop} (hgd : o.guard = none) (s x : Operand)
    (ho : o.op = .call { callee := .builtin .append, args := #[s, x], argTypes := #[22, 22] }) (base : Nat) (v : Value) (ps : List PV) (hs : a.eval s = v) (hown : LRow 51 3 w base v ps.length (flat ps))
    (b q m c : Nat) (qs : List PV) (hx : a.eval x = .slice (some ⟨b, q, none⟩) m c) (hl : qs.length = m) (hnews : ∀ j u, (flat qs)[j]? = some u → w.cell? ⟨b, q + j, none⟩ = some u) (hn : ps.length + m ≤ 1099511627776) (hbase : base ≤ w.heap.size)
    (h : ∀ v' w', LRow 51 3 w' base v' (ps ++ qs).length (flat (ps ++ qs)) → w.grownBy w' v.ownBlock → wpList Tryz.prog ops Q rest (a.put o.dst v') w') : wpList Tryz.prog ops Q (o :: rest) a w := by
  obtain ⟨i0, hi0, hz0, hz1, hz2⟩ := info_parts part_info
  refine wpList_append_lrow hgd s x 22 ho base 51 i0 _ 3 40 Tryz.underlying22 hi0 hz0 hz1 hz2 rfl (by decide) part_zero_nls v ps.length (flat ps) hs hown ⟨b, q, none⟩ m c (flat qs) hx (by rw [flat_length]; omega)
    (fun j u hu => by rw [addr_add]; exact hnews j u hu) (flat_one qs) (flat_nls qs) (by unfold maxLen; omega) (by omega) hbase ?_
  intro v' w' h1 h2
  refine h v' w' ?_ h2
  rw [List.length_append, flat_append, hl]
  exact h1
theorem run_eql_slice_some {P : Program} (w : World) (t e : TypeId) (a : Addr) (n c : Nat) (h : P.underlying t = some (.slice e)) : (binOp .eql t (.slice (some a) n c) (.slice none 0 0)).run P w = .ok (.bool false) w := by
  simp only [binOp]
  simp [Op.equal, Op.maxDepth, Lib.run_equalIn_slice_nil w 9999 t e (some a) n c 0 0 h]
def ClonePost (n : Nat) (ps : List PV) (w : World) (e : Ending) (w' : World) : Prop := ∃ g c, e = .returned (.slice (some ⟨g, 0, none⟩) n c) ∧ LRow 51 3 w' w.heap.size (.slice (some ⟨g, 0, none⟩) n c) n (flat ps) ∧ Below w.heap.size w w'
set_option maxRecDepth 100000 in
set_option maxHeartbeats 1000000 in
theorem clonePart_any (A : Option Addr) (n c : Nat) (ps : List PV) (k : Nat) (w : World) (hx : PartsIn w A n ps k) (h0 : 0 < n) (hn : n ≤ 1099511627) :
    Calls Tryz.prog 66 #[.slice A n c] w (ClonePost n ps w) := by
  obtain ⟨b, o, rfl, hc⟩ := hx.2.1 h0
  have hl := hx.1
  go_enter Tryz.func66, Tryz.ntmps66
  have heq := fun W => run_eql_slice_some (P := Tryz.prog) W 22 51 ⟨b, o, none⟩ n c Tryz.underlying22
  have hown : LRow 51 3 (w.alloc (.cells #[] 51)) w.heap.size (.slice (some ⟨w.heap.size, 0, none⟩) 0 0) ([] : List PV).length (flat []) := LRow.made #[] 0 (Nat.le_refl _) (by unfold maxLen; omega) rfl (fun u hu => by simp at hu)
  have hnews : ∀ j u, (flat ps)[j]? = some u → (w.alloc (.cells #[] 51)).cell? ⟨b, o + j, none⟩ = some u := fun j u hu => by
    have h1 := hc j u hu
    have hlt := World.block_lt_of_cell? w _ h1
    exact (World.cell?_of_block (w := w) (a := ⟨b, o + j, none⟩) ((bl_alloc w _).block b hlt)).trans h1
  have hnn : ([] : List PV).length + n ≤ 1099511627776 := by simp; omega
  have HO := hide hown
  have HN := hide hnews
  clear hown hnews hc
  go_wp2_with (at_builtin; refine wpList_append_parts rfl _ _ rfl w.heap.size _ [] rfl HO.out b o n c ps rfl hl HN.out hnn (by simp) ?_; intro v' w' h1 h2)
  rw [List.nil_append, hl] at h1
  have hb := HO.out.old (bl_alloc w _) h2 (Nat.le_refl _) (Nat.le_refl _)
  obtain ⟨A', c', rfl, -, -, h5⟩ := h1.len
  obtain ⟨g, rfl⟩ := h5 h0
  clear h2 heq
  go_wp2_with fail
  go_ret
  exact ⟨g, c', rfl, h1, hb⟩
end Go.Proofs.YtdeakieenppmiaaGreat
/- slices.IndexFunc and slices.DeleteFunc over parts: those whose coefficient is 0 go. -/
namespace Go.Proofs.YtdeakieenppmiaaGreat
open Go.RowKit
open Tm

def nz (p : PV) : Bool := decide (p.Z ≠ 0)
def IdxPost (ps : List PV) (w : World) (e : Ending) (w' : World) : Prop :=
  ∃ r : Int, e = .returned (.int .i64 r) ∧ Below w.heap.size w w' ∧ ((r = -1 ∧ ∀ p ∈ ps, nz p = true) ∨ ∃ i : Nat, r = (i : Int) ∧ i < ps.length ∧ (∀ p ∈ ps.take i, nz p = true) ∧ ∀ p, ps[i]? = some p → nz p = false)
/-- Where part i of a list lies. -/
theorem PartsIn.at3 {w : World} {A : Option Addr} {n k i : Nat} {ps : List PV} (h : PartsIn w A n ps k) (hi : i < n) : ∃ (b o : Nat) (p : PV), A = some ⟨b, o, none⟩ ∧ b < w.heap.size ∧ ps[i]? = some p ∧ w.cell? ⟨b, o + i * 3, none⟩ = some (.int .i64 p.v) ∧ w.cell? ⟨b, o + i * 3 + 1, none⟩ = some (.bool p.s) ∧ w.cell? ⟨b, o + i * 3 + 2, none⟩ = some (.slice p.B p.m p.d) ∧ ZIn w p.num p.Z k := by
  obtain ⟨b, o, p, e, hp, c0, c1, c2, hz⟩ := h.at_ hi
  have e0 : o + 3 * i = o + i * 3 := by omega
  have e1 : o + (3 * i + 1) = o + i * 3 + 1 := by omega
  have e2 : o + (3 * i + 2) = o + i * 3 + 2 := by omega
  rw [e0] at c0
  rw [e1] at c1
  rw [e2] at c2
  exact ⟨b, o, p, e, World.block_lt_of_cell? w _ c0, hp, c0, c1, c2, hz⟩
set_option maxRecDepth 100000 in
set_option maxHeartbeats 1000000 in
theorem indexPart_any (A : Option Addr) (n c : Nat) (ps : List PV) (k : Nat) (w : World) (hx : PartsIn w A n ps k) (hn : n ≤ 1099511627) (hk : k ≤ 1099511627776) :
    Calls Tryz.prog 110 #[.slice A n c, .func (.func 71) #[] #[]] w (IdxPost ps w) := by
  have hlen := hide hx.1
  go_enter Tryz.func110, Tryz.ntmps110
  go_wp2_with fail
  go_loopw [8] (fun i wr => ∃ q : Nat, q ≤ n ∧ i = .int .i64 q ∧ Hid (∀ p ∈ ps.take q, nz p = true) ∧ Below w.heap.size w wr) (fun i _ => n - (intOf i).toNat)
  case atStart => exact ⟨0, Nat.zero_le _, rfl, Lib.hid (fun p hp => by simp at hp), Below.refl _ _⟩
  case round =>
    obtain ⟨q, hq, rfl, HA, hb⟩ := hrel
    by_cases hqn : q < n
    · obtain ⟨bb, o, p, rfl, hlt, hp, c0, c1, c2, hz⟩ := (hx.below hb).at3 hqn
      have hP := hide hp
      clear hp
      have hcon := plain2_any p k wr hz hk
      unfold PV.agg at hcon
      by_cases h0 : p.Z = 0
      · have hnz : nz p = false := by simp [nz, h0]
        have HZ := hide hnz
        rw [show decide (p.Z = 0) = true by simpa using h0] at hcon
        clear h0 hnz
        generalize p.v = pv at *
        generalize p.s = psg at *
        generalize p.B = pB at *
        generalize p.m = pm at *
        generalize p.d = pd at *
        go_wp2_with fail
        refine hcon.mono ?_
        rintro e w1 ⟨rfl, b1⟩
        go_wp2_with fail
        go_ret
        exact ⟨_, rfl, hb.next b1, .inr ⟨q, rfl, by have := hlen.out; omega, HA.out, fun p' hp' => by rw [hP.out] at hp'; injection hp' with hp'; subst hp'; exact HZ.out⟩⟩
      · have HZ := hide (show nz p = true by simp [nz, h0])
        rw [show decide (p.Z = 0) = false by simpa using h0] at hcon
        clear h0
        have HA2 := hide (show ∀ p' ∈ ps.take (q + 1), nz p' = true from fun p' hp' => by
          rw [List.take_add_one, hP.out] at hp'
          rcases List.mem_append.1 hp' with h | h
          · exact HA.out p' h
          · simp at h; subst h; exact HZ.out)
        clear hP HZ
        generalize p.v = pv at *
        generalize p.s = psg at *
        generalize p.B = pB at *
        generalize p.m = pm at *
        generalize p.d = pd at *
        go_wp2_with fail
        refine hcon.mono ?_
        rintro e w1 ⟨rfl, b1⟩
        go_wp2_with fail
        go_roundw
        case rel => exact ⟨q + 1, by omega, by go_num, HA2, hb.next b1⟩
        case measure => simp [intOf] <;> omega
    · go_wp2_with fail
      go_ret
      refine ⟨-1, rfl, hb, .inl ⟨rfl, fun p hp => HA.out p ?_⟩⟩
      rw [List.take_of_length_le (by have := hlen.out; omega)]
      exact hp

theorem flat_set (rs : List PV) (i : Nat) (p : PV) (h : i < rs.length) : (((flat rs).set (i * 3) (.int .i64 p.v)).set (i * 3 + 1) (.bool p.s)).set (i * 3 + 2) (.slice p.B p.m p.d) = flat (rs.set i p) := by
  induction rs generalizing i with
  | nil => simp at h
  | cons q rs ih =>
    cases i with
    | zero => simp [flat_cons, PV.cells]
    | succ i =>
      have := ih i (by simpa using h)
      rw [List.set_cons_succ, flat_cons, flat_cons, ← this]
      simp [PV.cells, show (i + 1) * 3 = i * 3 + 1 + 1 + 1 by omega]
theorem flat_drop (ps : List PV) (k : Nat) : flat (ps.drop k) = (flat ps).drop (3 * k) := by
  induction ps generalizing k with
  | nil => simp [flat]
  | cons p ps ih =>
    cases k with
    | zero => simp
    | succ k =>
      rw [List.drop_succ_cons, ih, flat_cons]
      simp [PV.cells, show 3 * (k + 1) = 3 * k + 1 + 1 + 1 by omega]
/-- clear of the end of a list of the call's own. -/
theorem wpList_clear_parts {w : World} {ops : Array Oper} {rest : List Oper} {o : Oper} {a : Act} {Q : Exit → Act → World → Prop} (hgd : o.guard = none) (x : Operand)
    (ho : o.op = .call { callee := .builtin .clear, args := #[x], argTypes := #[22] }) (base g n c i m d : Nat) (rs : List PV) (hl : rs.length = n) (hown : LRow 51 3 w base (.slice (some ⟨g, 0, none⟩) n c) n (flat rs))
    (hx : a.eval x = .slice (some ⟨g, i * 3, none⟩) m d) (hm : 0 < m) (him : i + m = n)
    (h : ∀ w', LRow 51 3 w' base (.slice (some ⟨g, 0, none⟩) i c) i (flat (rs.take i)) → Only g w w' → wpList Tryz.prog ops Q rest (a.put o.dst (.tuple #[])) w') : wpList Tryz.prog ops Q (o :: rest) a w := by
  rcases hown.2 with ⟨hv, -⟩ | ⟨g', cap, cur, hv, hbase, hh, h1, h2, h3, h4, h5⟩
  · cases hv
  injection hv with e1 e2 e3
  injection e1 with e1
  injection e1 with e1
  subst e1 e3
  have hzl : (Builtin.zeroCells (Value.agg #[.int .i64 0, .bool false, .slice none 0 0]).cells m).toList.length = m * 3 := by
    simp [Builtin.zeroCells, Value.cells]
  have hzn : NLs (Builtin.zeroCells (Value.agg #[.int .i64 0, .bool false, .slice none 0 0]).cells m).toList := by
    intro u hu
    have hu2 : u ∈ (Builtin.zeroCells (Value.agg #[.int .i64 0, .bool false, .slice none 0 0]).cells m) := by simpa using hu
    unfold Builtin.zeroCells at hu2
    obtain ⟨q, -, hq⟩ := Array.mem_map.1 hu2
    have hlt : q % (Value.agg #[.int .i64 0, .bool false, .slice none 0 0]).cells.size < (Value.agg #[.int .i64 0, .bool false, .slice none 0 0]).cells.size := Nat.mod_lt _ (by decide)
    rw [getElem!_pos (Value.agg #[.int .i64 0, .bool false, .slice none 0 0]).cells _ hlt] at hq
    exact part_zero_nls u (by rw [← hq]; simp)
  have hz1 : ∀ u ∈ (Builtin.zeroCells (Value.agg #[.int .i64 0, .bool false, .slice none 0 0]).cells m).toList, u.oneCell' = true := by
    intro u hu
    have hu2 : u ∈ (Builtin.zeroCells (Value.agg #[.int .i64 0, .bool false, .slice none 0 0]).cells m) := by simpa using hu
    unfold Builtin.zeroCells at hu2
    obtain ⟨q, -, hq⟩ := Array.mem_map.1 hu2
    have hlt : q % (Value.agg #[.int .i64 0, .bool false, .slice none 0 0]).cells.size < (Value.agg #[.int .i64 0, .bool false, .slice none 0 0]).cells.size := Nat.mod_lt _ (by decide)
    rw [getElem!_pos (Value.agg #[.int .i64 0, .bool false, .slice none 0 0]).cells _ hlt] at hq
    have h6 : u ∈ [Value.int .i64 0, .bool false, .slice none 0 0] := by
      have : u ∈ (Value.agg #[.int .i64 0, .bool false, .slice none 0 0]).cells := by rw [← hq]; simp
      simpa [Value.cells] using this
    simp at h6
    rcases h6 with rfl | rfl | rfl <;> rfl
  have hcs : (i + m) * 3 ≤ cur.size := by rw [h3, him]; exact Nat.mul_le_mul_right _ h1
  have hst := run_storeCells_at Tryz.prog g (i * 3) 51 (Builtin.zeroCells (Value.agg #[.int .i64 0, .bool false, .slice none 0 0]).cells m).toList 0 cur w hh (by rw [hzl]; omega) hz1
  simp only [Nat.add_zero] at hst
  obtain ⟨m', rfl⟩ : ∃ m', m = m' + 1 := ⟨m - 1, by omega⟩
  have hv0 := Tryz.zeroValue51
  have hcl : (Builtin.clear_ #[22] o.type #[.slice (some ⟨g, i * 3, none⟩) (m' + 1) d]).run Tryz.prog w = .ok (.tuple #[]) (w.setRow g (cur.toList.take (i * 3) ++ (Builtin.zeroCells (Value.agg #[.int .i64 0, .bool false, .slice none 0 0]).cells (m' + 1)).toList ++ cur.toList.drop (i * 3 + (Builtin.zeroCells (Value.agg #[.int .i64 0, .bool false, .slice none 0 0]).cells (m' + 1)).toList.length)).toArray) := by
    simp only [Builtin.clear_, run_underlying Tryz.underlying22, Sem.run_bind, Sem.run_pure, Result.andThen_ok, hv0, hst]
    simp [run_underlying Tryz.underlying22, hv0, hst]
  have hrun : (execOp a.eval o).run Tryz.prog w = .ok (.value (.tuple #[])) (w.setRow g (cur.toList.take (i * 3) ++ (Builtin.zeroCells (Value.agg #[.int .i64 0, .bool false, .slice none 0 0]).cells (m' + 1)).toList ++ cur.toList.drop (i * 3 + (Builtin.zeroCells (Value.agg #[.int .i64 0, .bool false, .slice none 0 0]).cells (m' + 1)).toList.length)).toArray) := by
    unfold execOp
    simp only [ho, resolve, invoke, builtin, Sem.run_bind, Sem.run_pure, Result.andThen_ok, List.map_toArray, List.map_cons, List.map_nil, hx, hcl]
  refine wpList_plain hgd fun K hK => ?_
  unfold Oper.wp
  rw [hrun]
  refine hK _ _ (h _ ⟨by rw [flat_length, List.length_take]; omega, .inr ⟨g, c, _, rfl, hbase, setRow_heap w g cur _ _ _ hh, by omega, h2, ?_, ?_, ?_⟩⟩ (only_setRow w g _))
  · simp only [List.size_toArray, List.length_append, List.length_take, List.length_drop, Array.length_toList, hzl]
    omega
  · rw [flat_take]
    have e : flat rs = cur.toList.take (n * 3) := h4.symm
    rw [e, List.take_take, show min (3 * i) (n * 3) = i * 3 by omega]
    rw [List.append_assoc, List.take_append_of_le_length (by simp; omega), List.take_take, Nat.min_self]
  · exact ((h5.take _).append hzn).append (h5.drop _)
end Go.Proofs.YtdeakieenppmiaaGreat
