/- Texts of one seat, put together: Inc Mem Add. -/
import Derived.Test.YtdeakieenppmiaaGreatDoorB02
set_option linter.unusedVariables false
/- bits.Add32, bits.Sub32, nat.increase, nat.decrease. -/
namespace Go.Proofs.YtdeakieenppmiaaGreatDoor
open Go.RowKit


theorem hi32 (n : Nat) (h : n < 4294967296) : n / 2147483648 = (n.testBit 31).toNat := by
  rw [Nat.testBit_eq_decide_div_mod_eq]
  show n / 2147483648 = (decide (n / 2147483648 % 2 = 1)).toNat
  have h1 : n / 2147483648 < 2 := by omega
  by_cases h2 : n / 2147483648 = 1
  · rw [h2]; rfl
  · have : n / 2147483648 = 0 := by omega
    rw [this]; rfl
theorem hi32_iff (n : Nat) (h : n < 4294967296) : n.testBit 31 = decide (2147483648 ≤ n) := by
  rw [Nat.testBit_eq_decide_div_mod_eq]
  show decide (n / 2147483648 % 2 = 1) = _
  rw [decide_eq_decide]
  omega
theorem all32 : Nat.testBit 4294967295 31 = true := by decide
theorem borrowN (x y z d : Nat) (hx : x < 4294967296) (hy : y < 4294967296) (hz : z ≤ 1) (hd : d < 4294967296) (e : (d + y + z) % 4294967296 = x) :
    ((4294967295 ^^^ x) &&& y ||| (4294967295 ^^^ (x ^^^ y)) &&& d) / 2147483648 = if x < y + z then 1 else 0 := by
  have l1 : 4294967295 ^^^ x < 2 ^ 32 := Nat.xor_lt_two_pow (by omega) (by omega)
  have l2 : x ^^^ y < 2 ^ 32 := Nat.xor_lt_two_pow (by omega) (by omega)
  have l3 : 4294967295 ^^^ (x ^^^ y) < 2 ^ 32 := Nat.xor_lt_two_pow (by omega) l2
  have l4 : (4294967295 ^^^ x) &&& y < 2 ^ 32 := Nat.and_lt_two_pow _ (by omega)
  have l5 : (4294967295 ^^^ (x ^^^ y)) &&& d < 2 ^ 32 := Nat.and_lt_two_pow _ (by omega)
  have l6 : (4294967295 ^^^ x) &&& y ||| (4294967295 ^^^ (x ^^^ y)) &&& d < 2 ^ 32 := Nat.or_lt_two_pow l4 l5
  rw [hi32 _ l6]
  simp only [Nat.testBit_or, Nat.testBit_and, Nat.testBit_xor, all32, hi32_iff x hx, hi32_iff y hy, hi32_iff d hd]
  by_cases h1 : 2147483648 ≤ x <;> by_cases h2 : 2147483648 ≤ y <;> by_cases h3 : 2147483648 ≤ d <;> simp only [h1, h2, h3, decide_true, decide_false, Bool.true_bne, Bool.false_bne, Bool.not_true, Bool.not_false, Bool.and_true, Bool.and_false, Bool.or_true, Bool.or_false, Bool.toNat_true, Bool.toNat_false] <;> split <;> omega
theorem borrow32 (x y z : Nat) (hx : x < 4294967296) (hy : y < 4294967296) (hz : z ≤ 1) :
    bits BinOp.or IntKind.u32 (bits BinOp.and IntKind.u32 (bits BinOp.xor IntKind.u32 IntKind.u32.max x) y)
      (bits BinOp.and IntKind.u32 (bits BinOp.xor IntKind.u32 IntKind.u32.max (bits BinOp.xor IntKind.u32 x y)) (((x : Int) - y - z) % 4294967296)) / 2147483648 = ((if x < y + z then 1 else 0 : Nat) : Int) := by
  obtain ⟨d, hd⟩ : ∃ d : Nat, ((x : Int) - y - z) % 4294967296 = (d : Int) := ⟨(((x : Int) - y - z) % 4294967296).toNat, by omega⟩
  have hd1 : d < 4294967296 := by omega
  have hd2 : (d + y + z) % 4294967296 = x := by omega
  rw [hd]
  have em : (IntKind.u32.max : Int) = ((4294967295 : Nat) : Int) := rfl
  have l1 : 4294967295 ^^^ x < 2 ^ 32 := Nat.xor_lt_two_pow (by omega) (by omega)
  have l2 : x ^^^ y < 2 ^ 32 := Nat.xor_lt_two_pow (by omega) (by omega)
  have l3 : 4294967295 ^^^ (x ^^^ y) < 2 ^ 32 := Nat.xor_lt_two_pow (by omega) l2
  have l4 : (4294967295 ^^^ x) &&& y < 2 ^ 32 := Nat.and_lt_two_pow _ (by omega)
  have l5 : (4294967295 ^^^ (x ^^^ y)) &&& d < 2 ^ 32 := Nat.and_lt_two_pow _ (by omega)
  rw [em, u32_xor_nat _ _ (by omega) hx, u32_xor_nat _ _ hx hy, u32_xor_nat _ _ (by omega) l2, u32_and_nat _ _ l1 hy, u32_and_nat _ _ l3 hd1, u32_or_nat _ _ l4 l5]
  have := borrowN x y z d hx hy hz hd1 hd2
  omega

def Add32Post (x y z : Nat) (w : World) (e : Ending) (w' : World) : Prop :=
  ∃ s c : Nat, e = .returned (.tuple #[.int .u32 (s : Int), .int .u32 (c : Int)]) ∧ s < 4294967296 ∧ c ≤ 1 ∧ Hid (s + 4294967296 * c = x + y + z) ∧ w = w'

set_option maxHeartbeats 400000 in
theorem add32_any (x y z : Nat) (w : World) (hx : x < 4294967296) (hy : y < 4294967296) (hz : z ≤ 1) :
    Calls Tryz.prog 191 #[.int .u32 (x : Int), .int .u32 (y : Int), .int .u32 (z : Int)] w (Add32Post x y z w) := by
  go_enter Tryz.func191, Tryz.ntmps191
  go_wp2_with fail
  go_ret2
  refine ⟨(x + y + z) % 4294967296, (x + y + z) / 4294967296, ?_, by omega, by omega, by show _ = _; omega, rfl⟩
  have e1 : ((((x + y + z) % 4294967296 : Nat)) : Int) = ((x : Int) + (y : Int) + (z : Int)) % 4294967296 := by omega
  have e2 : ((((x + y + z) / 4294967296 : Nat)) : Int) = ((x : Int) + (y : Int) + (z : Int)) / 4294967296 := by omega
  rw [e1, e2]
  rfl
def Sub32Post (x y z : Nat) (w : World) (e : Ending) (w' : World) : Prop :=
  ∃ s c : Nat, e = .returned (.tuple #[.int .u32 (s : Int), .int .u32 (c : Int)]) ∧ s < 4294967296 ∧ c ≤ 1 ∧ Hid (s + y + z = x + 4294967296 * c) ∧ w = w'

set_option maxHeartbeats 400000 in
theorem sub32_any (x y z : Nat) (w : World) (hx : x < 4294967296) (hy : y < 4294967296) (hz : z ≤ 1) :
    Calls Tryz.prog 192 #[.int .u32 (x : Int), .int .u32 (y : Int), .int .u32 (z : Int)] w (Sub32Post x y z w) := by
  go_enter Tryz.func192, Tryz.ntmps192
  go_wp2_with fail
  go_ret2
  refine ⟨((x : Int) - y - z).toNat % 4294967296 + (if x < y + z then x + 4294967296 - y - z else 0), if x < y + z then 1 else 0, ?_, ?_, ?_, ?_, rfl⟩
  · have hb := borrow32 x y z hx hy hz
    have e1 : (((((x : Int) - y - z).toNat % 4294967296 + (if x < y + z then x + 4294967296 - y - z else 0) : Nat)) : Int) = ((x : Int) - (y : Int) - (z : Int)) % 4294967296 := by split <;> omega
    rw [e1, ← hb]
    rfl
  · split <;> omega
  · split <;> omega
  · show _ = _
    split <;> omega

/-- ws laid over zs from place o on. -/
def put (zs : List Nat) (o : Nat) (ws : List Nat) : List Nat := zs.take o ++ (ws ++ zs.drop (o + ws.length))
theorem put_length (zs : List Nat) (o : Nat) (ws : List Nat) (h : o + ws.length ≤ zs.length) : (put zs o ws).length = zs.length := by simp [put]; omega
theorem put_ok {zs : List Nat} (hz : Limb.Ok zs) (o : Nat) {ws : List Nat} (hw : Limb.Ok ws) : Limb.Ok (put zs o ws) := (hz.take o).append (hw.append (hz.drop _))
theorem put_getD (zs : List Nat) (o : Nat) (ws : List Nat) (h : o + ws.length ≤ zs.length) (i : Nat) (hi : i < ws.length) : (put zs o ws).getD (o + i) 0 = ws.getD i 0 := by
  unfold put
  have hl : (zs.take o).length = o := by rw [List.length_take]; omega
  rw [List.getD_eq_getElem?_getD, List.getElem?_append_right (by omega), hl, List.getElem?_append_left (by omega), List.getD_eq_getElem?_getD]
  have : o + i - o = i := by omega
  rw [this]
theorem put_set (zs : List Nat) (o : Nat) (ws : List Nat) (h : o + ws.length ≤ zs.length) (i v : Nat) (hi : i < ws.length) : (put zs o ws).set (o + i) v = put zs o (ws.set i v) := by
  unfold put
  have hl : (zs.take o).length = o := by rw [List.length_take]; omega
  rw [List.set_append_right _ _ (by omega), hl, List.set_append_left _ _ (by omega), List.length_set]
  have : o + i - o = i := by omega
  rw [this]
theorem put_self (zs : List Nat) (o n : Nat) (h : o + n ≤ zs.length) : put zs o ((zs.drop o).take n) = zs := by
  unfold put
  have hl : ((zs.drop o).take n).length = n := by rw [List.length_take, List.length_drop]; omega
  rw [hl, ← List.drop_drop, List.take_append_drop, List.take_append_drop]
/-- The window of n limbs from place o on. -/
def win (zs : List Nat) (o n : Nat) : List Nat := (zs.drop o).take n
theorem win_length (zs : List Nat) (o n : Nat) (h : o + n ≤ zs.length) : (win zs o n).length = n := by unfold win; rw [List.length_take, List.length_drop]; omega
theorem win_ok {zs : List Nat} (h : Limb.Ok zs) (o n : Nat) : Limb.Ok (win zs o n) := (h.drop o).take n

/-- Nothing but block g has turned. -/
def Only (g : Nat) (w w' : World) : Prop := w.grownBy w' (some g)
theorem Only.refl (g : Nat) (w : World) : Only g w w := World.grownBy.refl w _
theorem Only.gb {g : Nat} {w w' : World} (h : Only g w w') : w.grownBy w' (some g) := h
theorem Only.trans {g : Nat} {a b c : World} (h : Only g a b) (k : Only g b c) : Only g a c :=
  ⟨k.os.trans h.os, k.tape.trans h.tape, k.output.trans h.output, Nat.le_trans h.size k.size, fun i hi hne => (k.block i (Nat.lt_of_lt_of_le hi h.size) hne).trans (h.block i hi hne)⟩
theorem Only.setCell {g : Nat} {a w : World} (h : Only g a w) (i : Nat) (u : Value) : Only g a (w.setCell ⟨g, i, none⟩ u) :=
  ⟨h.os, h.tape, h.output, by simpa [World.setCell] using h.size, fun k hk hne => (Below.heap_setCell w ⟨g, i, none⟩ u k (fun hh => hne (by rw [hh]))).trans (h.block k hk hne)⟩
theorem Only.drewN {g : Nat} {a w : World} (h : Only g a w) (n : Nat) : Only g a (w.drewN n) := ⟨h.os, h.tape, h.output, h.size, h.block⟩
theorem Only.drew {g : Nat} {a w : World} (h : Only g a w) : Only g a w.drew := ⟨h.os, h.tape, h.output, h.size, h.block⟩
theorem Only.below {g B : Nat} {a w : World} (h : Only g a w) (hB : B ≤ a.heap.size) (hg : B ≤ g) : Below B a w :=
  ⟨h.os, h.tape, h.output, h.size, fun k hk => h.block k (by omega) (fun hh => by injection hh with hh; omega)⟩

def IncPost (g o n : Nat) (zs : List Nat) (N : Nat) (w : World) (e : Ending) (w' : World) : Prop :=
  e = .returned (.tuple #[]) ∧ Row w' g (put zs o (Limb.fixed n N)) ∧ Only g w w'

def IncRel (g o n : Nat) (zs ys : List Nat) (w : World) (k c : Nat) (wr : World) : Prop :=
  ∃ cur : List Nat, cur.length = n ∧ Limb.Ok cur ∧ Row wr g (put zs o cur) ∧ Only g w wr ∧ Limb.val cur + 4294967296 ^ k * c = Limb.val (win zs o n) + Limb.val (ys.take k)

theorem IncRel.start (g o n : Nat) (zs ys : List Nat) (w : World) (hz : Limb.Ok zs) (hr : Row w g zs) (hn : o + n ≤ zs.length) : IncRel g o n zs ys w 0 0 w :=
  ⟨win zs o n, win_length zs o n hn, win_ok hz o n, by unfold win; rw [put_self zs o n hn]; exact hr, Only.refl g w, by simp [Limb.val]⟩
theorem IncRel.at_ {g o n : Nat} {zs ys : List Nat} {w : World} {k c : Nat} {wr : World} (h : IncRel g o n zs ys w k c wr) (hn : o + n ≤ zs.length) (hk : k < n) :
    ∃ z : Nat, z < 4294967296 ∧ wr.cell? ⟨g, o + k, none⟩ = some (.int .u32 (z : Int)) ∧ wr.frozen? ⟨g, o + k, none⟩ = false ∧
      ∀ x s c' : Nat, s < 4294967296 → s + 4294967296 * c' = z + x + c → (k < ys.length → x = ys.getD k 0) → (ys.length ≤ k → x = 0) →
        IncRel g o n zs ys w (k + 1) c' (wr.setCell ⟨g, o + k, none⟩ (.int .u32 (s : Int))) := by
  obtain ⟨cur, hl, ho, hr, hon, hv⟩ := h
  have hfit : o + cur.length ≤ zs.length := by omega
  refine ⟨cur.getD k 0, ho.getD k, ?_, hr.frozen _, fun x s c' hs he hx1 hx2 => ?_⟩
  · rw [hr.cell (i := o + k) (by rw [put_length _ _ _ hfit]; omega), put_getD zs o cur hfit k (by omega)]
  · refine ⟨cur.set k s, by simp [hl], ho.set k s hs, ?_, hon.setCell _ _, ?_⟩
    · rw [← put_set zs o cur hfit k s (by omega)]
      exact hr.set_ _ _
    · rw [Limb.step_set cur k s x c c' (by omega) _ hv he]
      by_cases hy : k < ys.length
      · rw [Limb.val_take_succ ys k hy, hx1 hy]; omega
      · rw [hx2 (by omega), List.take_of_length_le (by omega), List.take_of_length_le (by omega)]; omega
theorem IncRel.done {g o n : Nat} {zs ys : List Nat} {w : World} {k c : Nat} {wr : World} (h : IncRel g o n zs ys w k c wr) (hy : ys.length ≤ k) (hc : c = 0 ∨ k = n) :
    Row wr g (put zs o (Limb.fixed n (Limb.val (win zs o n) + Limb.val ys))) ∧ Only g w wr := by
  obtain ⟨cur, hl, ho, hr, hon, hv⟩ := h
  refine ⟨?_, hon⟩
  rw [List.take_of_length_le hy] at hv
  have e : cur = Limb.fixed n (Limb.val (win zs o n) + Limb.val ys) := by
    rcases hc with rfl | rfl
    · exact Limb.eq_fixed n _ 0 ho hl (by rw [← hv]; simp)
    · exact Limb.eq_fixed _ _ c ho hl hv
  rw [← e]; exact hr

set_option maxHeartbeats 1000000 in
theorem increase_any (g o n c : Nat) (zs : List Nat) (B : Option Addr) (m d : Nat) (ys : List Nat) (w : World) (hr : Row w g zs) (hz : Limb.Ok zs) (hn : o + n ≤ zs.length) (hc : n ≤ 4611686018427387904)
    (hy : Nums w B m ys) (hmn : m ≤ n) (hap : 0 < m → Apart B g) :
    Calls Tryz.prog 164 #[.slice (some ⟨g, o, none⟩) n c, .slice B m d] w (IncPost g o n zs (Limb.val (win zs o n) + Limb.val ys) w) := by
  have R := hide (IncRel.start g o n zs ys w hz hr hn)
  clear hr hz
  go_enter Tryz.func164, Tryz.ntmps164
  go_wp2_with fail
  go_loopw [4, 10] (fun c i wr => ∃ k z : Nat, k ≤ m ∧ z ≤ 1 ∧ i = .int .i64 (k : Int) ∧ c = .int .u32 (z : Int) ∧ Hid (IncRel g o n zs ys w k z wr)) (fun _ i _ => m - (intOf i).toNat)
  case atStart => exact ⟨0, 0, Nat.zero_le _, Nat.zero_le _, rfl, rfl, R.out⟩
  case round =>
    clear R
    obtain ⟨k, z, hk, hz1, rfl, rfl, R⟩ := hrel
    by_cases hkm : k < m
    · obtain ⟨b1, o1, y, rfl, hyb, hye, hyc⟩ := hy.at_ hkm
      have hap1 := hap (by omega)
      have hon : Only g w wr := by obtain ⟨_, _, _, _, hon, _⟩ := R.out; exact hon
      have hy2 := (hy.grown hon hap1).at_ hkm
      obtain ⟨b2, o2, y2, hb2, hyb2, hye2, hyc2⟩ := hy2
      obtain ⟨rfl, rfl⟩ : b1 = b2 ∧ o1 = o2 := by simpa using hb2
      obtain rfl : y = y2 := hye.trans hye2.symm
      obtain ⟨zz, hzz, hcell, hfroz, hstep⟩ := R.out.at_ hn (by omega)
      have HY := Lib.hid hye
      have HS := hide hstep
      clear hye hstep hye2 hyc hb2 hon hap hap1 hyb2
      go_wp2_with (go_at_call 191; refine (add32_any _ _ _ _ (by omega) (by omega) (by omega)).mono ?_; rintro e w' ⟨s, c', rfl, hs, hc', HE, rfl⟩)
      go_roundw
      case rel => exact ⟨k + 1, c', by omega, hc', by go_num, rfl, HS.out y s c' hs HE.out (fun _ => HY.out) (fun h => by have := hy.len; omega)⟩
      case measure => simp [intOf]; omega
    · have hkm2 : k = m := by omega
      subst hkm2
      clear hkm
      go_wp2_with fail
      go_loopw [4, 7] (fun c i wr => ∃ j z : Nat, k ≤ j ∧ j ≤ n ∧ z ≤ 1 ∧ i = .int .i64 (j : Int) ∧ c = .int .u32 (z : Int) ∧ Hid (IncRel g o n zs ys w j z wr)) (fun _ i _ => n - (intOf i).toNat)
      case atStart => exact ⟨k, z, Nat.le_refl _, hmn, hz1, rfl, rfl, R⟩
      case round =>
        clear R
        obtain ⟨j, z2, hkj, hj, hz2, rfl, rfl, R⟩ := hrel
        have hyl := hy.len
        have HYL := Lib.hid hyl
        clear hyl
        by_cases hz0 : z2 = 0
        · have h0 : ((z2 : Int) != 0) = false := by simp [hz0]
          have HZ0 := Lib.hid hz0
          clear hz0
          go_wp2_with fail
          go_end0
          exact ⟨rfl, R.out.done (by rw [HYL.out]; exact hkj) (.inl HZ0.out)⟩
        · have h0 : ((z2 : Int) != 0) = true := by simp; omega
          have hz1 : 1 ≤ z2 := by omega
          clear hz0
          by_cases hjn : j < n
          · obtain ⟨zz, hzz, hcell, hfroz, hstep⟩ := R.out.at_ hn hjn
            have HS := hide hstep
            clear hstep
            go_wp2_with (go_at_call 191; refine (add32_any zz 0 z2 _ (by omega) (by omega) (by omega)).mono ?_; rintro e w' ⟨s, c', rfl, hs, hc', HE, rfl⟩)
            go_roundw
            case rel => exact ⟨j + 1, c', by omega, by omega, hc', by go_num, rfl, HS.out 0 s c' hs HE.out (fun h => by have := HYL.out; omega) (fun _ => rfl)⟩
            case measure => simp [intOf]; omega
          · go_wp2_with fail
            go_end0
            exact ⟨rfl, R.out.done (by rw [HYL.out]; exact hkj) (.inr (by omega))⟩

def DecRel (g o n : Nat) (zs ys : List Nat) (w : World) (k c : Nat) (wr : World) : Prop :=
  ∃ cur : List Nat, cur.length = n ∧ Limb.Ok cur ∧ Row wr g (put zs o cur) ∧ Only g w wr ∧ Limb.val cur + Limb.val (ys.take k) = Limb.val (win zs o n) + 4294967296 ^ k * c

theorem DecRel.start (g o n : Nat) (zs ys : List Nat) (w : World) (hz : Limb.Ok zs) (hr : Row w g zs) (hn : o + n ≤ zs.length) : DecRel g o n zs ys w 0 0 w :=
  ⟨win zs o n, win_length zs o n hn, win_ok hz o n, by unfold win; rw [put_self zs o n hn]; exact hr, Only.refl g w, by simp [Limb.val]⟩
theorem DecRel.at_ {g o n : Nat} {zs ys : List Nat} {w : World} {k c : Nat} {wr : World} (h : DecRel g o n zs ys w k c wr) (hn : o + n ≤ zs.length) (hk : k < n) :
    ∃ z : Nat, z < 4294967296 ∧ wr.cell? ⟨g, o + k, none⟩ = some (.int .u32 (z : Int)) ∧ wr.frozen? ⟨g, o + k, none⟩ = false ∧
      ∀ x s c' : Nat, s < 4294967296 → s + x + c = z + 4294967296 * c' → (k < ys.length → x = ys.getD k 0) → (ys.length ≤ k → x = 0) →
        DecRel g o n zs ys w (k + 1) c' (wr.setCell ⟨g, o + k, none⟩ (.int .u32 (s : Int))) := by
  obtain ⟨cur, hl, ho, hr, hon, hv⟩ := h
  have hfit : o + cur.length ≤ zs.length := by omega
  refine ⟨cur.getD k 0, ho.getD k, ?_, hr.frozen _, fun x s c' hs he hx1 hx2 => ?_⟩
  · rw [hr.cell (i := o + k) (by rw [put_length _ _ _ hfit]; omega), put_getD zs o cur hfit k (by omega)]
  · refine ⟨cur.set k s, by simp [hl], ho.set k s hs, ?_, hon.setCell _ _, ?_⟩
    · rw [← put_set zs o cur hfit k s (by omega)]
      exact hr.set_ _ _
    · rw [← Limb.step_unset cur k s x c c' (by omega) _ _ hv he]
      by_cases hy : k < ys.length
      · rw [Limb.val_take_succ ys k hy, hx1 hy]
      · rw [hx2 (by omega), List.take_of_length_le (by omega), List.take_of_length_le (by omega)]; omega
theorem DecRel.more {g o n : Nat} {zs ys : List Nat} {w : World} {k c : Nat} {wr : World} (h : DecRel g o n zs ys w k c wr) (hy : ys.length ≤ k) (hkn : k ≤ n) (hle : Limb.val ys ≤ Limb.val (win zs o n)) (hc : 1 ≤ c) : k < n := by
  obtain ⟨cur, hl, ho, hr, hon, hv⟩ := h
  rw [List.take_of_length_le hy] at hv
  apply Nat.lt_of_le_of_ne hkn
  rintro rfl
  have h1 := Limb.val_lt cur ho
  rw [hl] at h1
  have h2 : 4294967296 ^ k * 1 ≤ 4294967296 ^ k * c := Nat.mul_le_mul_left _ hc
  omega
theorem DecRel.done {g o n : Nat} {zs ys : List Nat} {w : World} {k : Nat} {wr : World} (h : DecRel g o n zs ys w k 0 wr) (hy : ys.length ≤ k) :
    Row wr g (put zs o (Limb.fixed n (Limb.val (win zs o n) - Limb.val ys))) ∧ Only g w wr := by
  obtain ⟨cur, hl, ho, hr, hon, hv⟩ := h
  refine ⟨?_, hon⟩
  rw [List.take_of_length_le hy] at hv
  have e : cur = Limb.fixed n (Limb.val (win zs o n) - Limb.val ys) := Limb.eq_fixed n _ 0 ho hl (by omega)
  rw [← e]; exact hr

set_option maxHeartbeats 1000000 in
theorem decrease_any (g o n c : Nat) (zs : List Nat) (B : Option Addr) (m d : Nat) (ys : List Nat) (w : World) (hr : Row w g zs) (hz : Limb.Ok zs) (hn : o + n ≤ zs.length) (hc : n ≤ 4611686018427387904)
    (hy : Nums w B m ys) (hmn : m ≤ n) (hap : 0 < m → Apart B g) (hle : Limb.val ys ≤ Limb.val (win zs o n)) :
    Calls Tryz.prog 165 #[.slice (some ⟨g, o, none⟩) n c, .slice B m d] w (IncPost g o n zs (Limb.val (win zs o n) - Limb.val ys) w) := by
  have R := hide (DecRel.start g o n zs ys w hz hr hn)
  have HLE := hide hle
  clear hr hz hle
  go_enter Tryz.func165, Tryz.ntmps165
  go_wp2_with fail
  go_loopw [4, 10] (fun c i wr => ∃ k z : Nat, k ≤ m ∧ z ≤ 1 ∧ i = .int .i64 (k : Int) ∧ c = .int .u32 (z : Int) ∧ Hid (DecRel g o n zs ys w k z wr)) (fun _ i _ => m - (intOf i).toNat)
  case atStart => exact ⟨0, 0, Nat.zero_le _, Nat.zero_le _, rfl, rfl, R.out⟩
  case round =>
    clear R
    obtain ⟨k, z, hk, hz1, rfl, rfl, R⟩ := hrel
    by_cases hkm : k < m
    · obtain ⟨b1, o1, y, rfl, hyb, hye, hyc⟩ := hy.at_ hkm
      have hap1 := hap (by omega)
      have hon : Only g w wr := by obtain ⟨_, _, _, _, hon, _⟩ := R.out; exact hon
      have hy2 := (hy.grown hon hap1).at_ hkm
      obtain ⟨b2, o2, y2, hb2, hyb2, hye2, hyc2⟩ := hy2
      obtain ⟨rfl, rfl⟩ : b1 = b2 ∧ o1 = o2 := by simpa using hb2
      obtain rfl : y = y2 := hye.trans hye2.symm
      obtain ⟨zz, hzz, hcell, hfroz, hstep⟩ := R.out.at_ hn (by omega)
      have HY := Lib.hid hye
      have HS := hide hstep
      clear hye hstep hye2 hyc hb2 hon hap hap1 hyb2
      go_wp2_with (go_at_call 192; refine (sub32_any _ _ _ _ (by omega) (by omega) (by omega)).mono ?_; rintro e w' ⟨s, c', rfl, hs, hc', HE, rfl⟩)
      go_roundw
      case rel => exact ⟨k + 1, c', by omega, hc', by go_num, rfl, HS.out y s c' hs HE.out (fun _ => HY.out) (fun h => by have := hy.len; omega)⟩
      case measure => simp [intOf]; omega
    · have hkm2 : k = m := by omega
      subst hkm2
      clear hkm
      go_wp2_with fail
      go_loopw [4, 7] (fun c i wr => ∃ j z : Nat, k ≤ j ∧ j ≤ n ∧ z ≤ 1 ∧ i = .int .i64 (j : Int) ∧ c = .int .u32 (z : Int) ∧ Hid (DecRel g o n zs ys w j z wr)) (fun _ i _ => n - (intOf i).toNat)
      case atStart => exact ⟨k, z, Nat.le_refl _, hmn, hz1, rfl, rfl, R⟩
      case round =>
        clear R
        obtain ⟨j, z2, hkj, hj, hz2, rfl, rfl, R⟩ := hrel
        have hyl := hy.len
        have HYL := Lib.hid hyl
        clear hyl
        by_cases hz0 : z2 = 0
        · subst hz0
          go_wp2_with fail
          go_end0
          exact ⟨rfl, R.out.done (by rw [HYL.out]; exact hkj)⟩
        · have h0 : ((z2 : Int) != 0) = true := by simp; omega
          have hz1 : 1 ≤ z2 := by omega
          clear hz0
          have hjn : j < n := R.out.more (by rw [HYL.out]; exact hkj) hj HLE.out hz1
          obtain ⟨zz, hzz, hcell, hfroz, hstep⟩ := R.out.at_ hn hjn
          have HS := hide hstep
          clear hstep
          go_wp2_with (go_at_call 192; refine (sub32_any zz 0 z2 _ (by omega) (by omega) (by omega)).mono ?_; rintro e w' ⟨s, c', rfl, hs, hc', HE, rfl⟩)
          go_roundw
          case rel => exact ⟨j + 1, c', by omega, by omega, hc', by go_num, rfl, HS.out 0 s c' hs HE.out (fun h => by have := HYL.out; omega) (fun _ => rfl)⟩
          case measure => simp [intOf]; omega

/-- Nothing is taken away from nothing. -/
theorem decrease_nil (A B : Option Addr) (c d : Nat) (w : World) :
    Calls Tryz.prog 165 #[.slice A 0 c, .slice B 0 d] w fun e w' => e = .returned (.tuple #[]) ∧ w = w' := by
  go_enter Tryz.func165, Tryz.ntmps165
  go_wp2_with fail
  refine wp_loop_rounds 1 ?_; rw [rounds_succ]
  go_wp2_with fail
  refine wp_loop_rounds 1 ?_; rw [rounds_succ]
  go_wp2_with fail
  go_end0
  exact ⟨rfl, rfl⟩
end Go.Proofs.YtdeakieenppmiaaGreatDoor
/- make and copy on slices of limbs, as laws for the walk. -/
namespace Go.Proofs.YtdeakieenppmiaaGreatDoor
open Go.RowKit

theorem wpList_make_u32 (w : World) {ops : Array Oper} {rest : List Oper} {o : Oper} {a : Act} {Q : Exit → Act → World → Prop} (hg : o.guard = none) (l c : Operand) (hop : o.op = Op.makeSlice 24 l c)
    (L : Int) (n : Nat) (hl : a.eval l = .int .i64 L) (hc : a.eval c = .int .i64 L) (hL : L = (n : Int)) (hn : n ≤ 35184372088832)
    (hK : ∀ w', Row w' w.heap.size (List.replicate n 0) → Below w.heap.size w w' → w.heap.size < w'.heap.size → wpList Tryz.prog ops Q rest (a.put o.dst (.slice (some ⟨w.heap.size, 0, none⟩) n n)) w') :
    wpList Tryz.prog ops Q (o :: rest) a w := by
  obtain ⟨i0, hi0, hz0, hz1, hz2⟩ := info_parts u32_info
  refine wpList_make_full _ hg l c _ hop w.heap.size 92 i0 _ 1 Tryz.underlying24 hi0 hz0 hz1 .i64 .i64 L L n hl hc hL hL (by rw [hz2]; omega) (by unfold maxLen; omega) (Nat.le_refl _) ?_
  intro w' ho hgr
  have hr := (Row.made (base := w.heap.size) ho).1
  exact hK w' hr ((Below.refl _ _).grown hgr (Nat.le_refl _) (fun k hk => by cases hk)) hr.lt

theorem only_setRow (w : World) (g : Nat) (cs : Array Value) : Only g w (w.setRow g cs) :=
  ⟨rfl, rfl, rfl, by simp [World.setRow], fun k _ hne => setRow_other w g k cs (fun hh => hne (by rw [hh]))⟩

theorem wpList_copy_u32 {w : World} {ops : Array Oper} {rest : List Oper} {o : Oper} {a : Act} {Q : Exit → Act → World → Prop} (hgd : o.guard = none) (d s : Operand)
    (ho : o.op = .call { callee := .builtin .copy, args := #[d, s], argTypes := #[24, 24] })
    (g off : Nat) (D A : Option Addr) (dLen dCap m c : Nat) (hd : a.eval d = .slice D dLen dCap) (hD : 0 < m → D = some ⟨g, off, none⟩) (hs : a.eval s = .slice A m c)
    (zs xs : List Nat) (hr : Row w g zs) (hx : Nums w A m xs) (hm : m ≤ dLen) (hfit : off + m ≤ zs.length)
    (h : ∀ w', Row w' g (put zs off xs) → Only g w w' → wpList Tryz.prog ops Q rest (a.put o.dst (goInt m)) w') : wpList Tryz.prog ops Q (o :: rest) a w := by
  have hl := hx.len
  by_cases h0 : m = 0
  · subst h0
    have hnil : xs = [] := List.eq_nil_of_length_eq_zero hl
    subst hnil
    refine wpList_copy_nothing hgd d s _ _ ho 92 Tryz.underlying24 u32_size D A dLen dCap 0 c hd hs (by simp) ?_
    exact h w (by simpa [put] using hr) (Only.refl g w)
  · obtain ⟨b, q, rfl, hcell⟩ := hx.2.2 (by omega)
    have hmin : Nat.min m dLen = m := Nat.min_eq_left hm
    have hul : (u32s xs).length = m := by rw [u32s_length, hl]
    obtain rfl := hD (by omega)
    refine wpList_copy_own hgd d s _ _ ho 92 Tryz.underlying24 u32_size g off dLen dCap ⟨b, q, none⟩ m c hd hs (u32s zs).toArray 92 hr (u32s xs) (by rw [hul, hmin]) ?_ (by rw [hul]; simp [u32s_length]; omega) (u32s_one xs) ?_
    · intro j v hj
      have hjm : j < m := by
        rcases Nat.lt_or_ge j m with h1 | h1
        · exact h1
        · rw [List.getElem?_eq_none (by omega)] at hj; cases hj
      rw [u32s_get xs j (by omega)] at hj
      injection hj with hj
      rw [← hj, ← hcell j hjm]
      by_cases hj0 : j = 0
      · subst hj0; rfl
      · simp [Addr.add, hj0]
    · rw [hul]
      refine h _ ?_ (only_setRow w g _)
      unfold Row at hr ⊢
      have e : (List.take off (u32s zs) ++ (u32s xs ++ List.drop (off + m) (u32s zs))) = u32s (put zs off xs) := by
        unfold put
        rw [u32s_append, u32s_append, u32s_take, u32s_drop, hl]
      have hh := setRow_heap w g _ (List.take off (u32s zs) ++ (u32s xs ++ List.drop (off + m) (u32s zs))).toArray _ _ hr
      rw [e] at hh
      exact (by simpa [e] using hh)
end Go.Proofs.YtdeakieenppmiaaGreatDoor
/- nat.Trim, nat.Add, nat.Sub. -/
namespace Go.Proofs.YtdeakieenppmiaaGreatDoor
open Go.RowKit

def TrimPost (N : Nat) (w : World) (e : Ending) (w' : World) : Prop := ∃ A n, e = .returned (.slice A n n) ∧ Own w' w.heap.size A n n N ∧ Below w.heap.size w w'

set_option maxHeartbeats 1000000 in
theorem trim_any (A : Option Addr) (n c : Nat) (xs : List Nat) (w : World) (hx : Nums w A n xs) (hc : n ≤ c) (hm : c ≤ 9223372036854775807) (hb : n ≤ 1099511627776) :
    Calls Tryz.prog 160 #[.slice A n c] w (TrimPost (Limb.val xs) w) := by
  obtain ⟨i0, hi0, hz0, hz1, hz2⟩ := info_parts u32_info
  generalize ha : Limb.val xs = a
  have HA := Lib.hid ha
  clear ha
  go_enter Tryz.func160, Tryz.ntmps160
  go_wp2_with fail
  refine (trimmed_any A n c xs w hx hc hm).mono ?_
  rintro e w' ⟨A1, n1, rfl, hcut1, rfl⟩
  rw [HA.out] at hcut1
  obtain ⟨hn1, hn2, hx1, _⟩ := hcut1
  have HN := Lib.hid hn1
  clear hn1 hx HA
  by_cases h0 : n1 = 0
  · subst h0
    go_wp2_with fail
    go_ret
    refine ⟨none, 0, rfl, ?_, Below.refl _ _⟩
    have : a = 0 := (Limb.canon_len_zero a).1 HN.out.symm
    rw [this]
    exact Own.zero _ _ _ _ (by omega)
  · have h1 : ((n1 : Int) == 0) = false := by simp; omega
    have hpos : 1 ≤ n1 := by omega
    clear h0
    go_wp2_with (first
      | (at_make; refine wpList_make_u32 _ rfl _ _ rfl _ n1 rfl rfl rfl (by omega) ?_; intro w1 hr1 hb1 hs1)
      | (with_reducible refine wpList_copy_u32 rfl _ _ rfl w.heap.size 0 _ _ _ _ n1 n1 rfl (fun _ => rfl) rfl _ (Limb.canon a) hr1 (hx1.below hb1) (Nat.le_refl _) (by simp) ?_; intro w2 hr2 ho2))
    go_ret
    have hle := Limb.canon_len_le
    have hput : put (List.replicate n1 0) 0 (Limb.canon a) = Limb.canon a := by
      unfold put
      rw [← HN.out]; simp
    rw [hput] at hr2
    exact ⟨_, n1, rfl, Own.row hr2 (Limb.ok_canon a) (Nat.le_refl _) (Nat.le_refl _) (by rw [← HN.out]; exact Nat.le_refl _) (by omega) (by rw [HN.out]; simp), hb1.trans (ho2.below (by omega) (Nat.le_refl _))⟩

theorem getD_ext {xs ys : List Nat} (hl : xs.length = ys.length) (h : ∀ i, i < xs.length → xs.getD i 0 = ys.getD i 0) : xs = ys := by
  apply List.ext_getElem hl
  intro i h1 h2
  have := h i h1
  rwa [List.getD_eq_getElem?_getD, List.getD_eq_getElem?_getD, List.getElem?_eq_getElem h1, List.getElem?_eq_getElem h2] at this
theorem Row.take_eq {w : World} {g m : Nat} {zs xs : List Nat} (hr : Row w g zs) (hx : Nums w (some ⟨g, 0, none⟩) m xs) (hm : m ≤ zs.length) : zs.take m = xs := by
  have hl := hx.len
  apply getD_ext (by rw [List.length_take]; omega)
  intro i hi
  rw [List.length_take] at hi
  obtain ⟨b, o, x, hbo, _, hx2, hc⟩ := hx.at_ (i := i) (by omega)
  injection hbo with hbo
  injection hbo with h1 h2
  subst h1
  subst h2
  rw [Nat.zero_add, hr.cell (i := i) (by omega)] at hc
  injection hc with hc
  injection hc with _ hc
  rw [← hx2, List.getD_eq_getElem?_getD, List.getElem?_take_of_lt (by omega), ← List.getD_eq_getElem?_getD]
  omega
theorem Own.ofCut {w : World} {g n m N base : Nat} {A' : Option Addr} {zs : List Nat} (hr : Row w g zs) (ho : Limb.Ok zs) (hi : IsCut w (some ⟨g, 0, none⟩) A' n m N) (hb : base ≤ g) (hn : n ≤ zs.length) (h62 : n ≤ 4611686018427387904) : Own w base A' m m N := by
  obtain ⟨h1, h2, h3, h4⟩ := hi
  refine ⟨h1, Nat.le_refl _, by omega, fun h0 => ?_⟩
  have hm : 0 < m := by
    rcases Nat.eq_zero_or_pos m with hm | hm
    · exact absurd ((Limb.canon_len_zero N).1 (by rw [← h1]; exact hm)) h0
    · exact hm
  rcases h4 with rfl | rfl
  · exact ⟨g, zs, rfl, hb, hr, ho, by omega, hr.take_eq h3 (by omega)⟩
  · obtain ⟨_, _, e, _⟩ := h3.2.2 hm
    cases e
def TrimRowPost (base N : Nat) (w : World) (e : Ending) (w' : World) : Prop := ∃ A' m, e = .returned (.slice A' m m) ∧ Own w base A' m m N ∧ w = w'
/-- nat.trimmed on the first n limbs of a row. -/
theorem trimmed_row (g n c N base : Nat) (zs : List Nat) (w : World) (hr : Row w g zs) (ho : Limb.Ok zs) (hn : n ≤ zs.length) (hc : n ≤ c) (hm : c ≤ 4611686018427387904) (hb : base ≤ g) (hN : Limb.val (zs.take n) = N) :
    Calls Tryz.prog 116 #[.slice (some ⟨g, 0, none⟩) n c] w (TrimRowPost base N w) := by
  subst hN
  have hx := hr.nums ho (o := 0) (n := n) (by omega)
  rw [List.drop_zero] at hx
  refine (trimmed_any _ n c _ w hx hc (by omega)).mono ?_
  rintro e w' ⟨A', m, rfl, hi, rfl⟩
  exact ⟨A', m, rfl, Own.ofCut hr ho hi hb hn (by omega), rfl⟩

theorem pow_le {a b : Nat} (h : a ≤ b) : 4294967296 ^ a ≤ 4294967296 ^ b := Nat.pow_le_pow_right (by omega) h
theorem add_lt (a b k : Nat) (ha : a < 4294967296 ^ k) (hb : b < 4294967296 ^ k) : a + b < 4294967296 ^ (k + 1) := by
  rw [Nat.pow_succ]; omega

theorem Nums.ofCanon {w : World} {A : Option Addr} {n N : Nat} (h : Nums w A n (Limb.canon N)) : n = L N := h.1.symm

def AddTail (a b n1 : Nat) : Prop := a + b < 4294967296 ^ (n1 + 1) ∧ put (List.replicate (n1 + 1) 0) 0 (Limb.canon a) = Limb.fixed (n1 + 1) a ∧ put (Limb.fixed (n1 + 1) a) 0 (Limb.fixed (n1 + 1) (a + b)) = Limb.fixed (n1 + 1) (a + b) ∧ Limb.val (win (Limb.fixed (n1 + 1) a) 0 (n1 + 1)) = a ∧ Limb.val ((Limb.fixed (n1 + 1) (a + b)).take (n1 + 1)) = a + b
theorem addTail (a b n1 m1 : Nat) (hn : n1 = (Limb.canon a).length) (hm : m1 = (Limb.canon b).length) (h : m1 ≤ n1) : AddTail a b n1 := by
  have ha := Limb.canon_lt a
  have hb := Limb.canon_lt b
  rw [← hn] at ha
  rw [← hm] at hb
  have hp := pow_le h
  have hs := add_lt a b n1 ha (by omega)
  have ha2 : a < 4294967296 ^ (n1 + 1) := by omega
  refine ⟨hs, ?_, ?_, ?_, ?_⟩
  · rw [Limb.fixed_eq_canon _ a ha2]
    unfold put
    rw [← hn]
    simp
  · unfold put
    rw [Limb.fixed_length, List.drop_of_length_le (by rw [Limb.fixed_length]; omega)]
    simp
  · unfold win
    rw [List.drop_zero, List.take_of_length_le (by rw [Limb.fixed_length]; omega), Limb.fixed_val, Nat.mod_eq_of_lt ha2]
  · rw [List.take_of_length_le (by rw [Limb.fixed_length]; omega), Limb.fixed_val, Nat.mod_eq_of_lt hs]
def CutPost (N : Nat) (w : World) (e : Ending) (w' : World) : Prop := ∃ A n, e = .returned (.slice A n n) ∧ Own w' w.heap.size A n n N ∧ Below w.heap.size w w'

set_option maxHeartbeats 2000000 in
theorem add_any (A B : Option Addr) (n c m d : Nat) (xs ys : List Nat) (w : World) (hx : Nums w A n xs) (hc : n ≤ c) (hm : c ≤ 9223372036854775807) (hn40 : n ≤ 1099511627776) (hy : Nums w B m ys) (hd : m ≤ d) (hmd : d ≤ 9223372036854775807) (hm40 : m ≤ 1099511627776) :
    Calls Tryz.prog 118 #[.slice A n c, .slice B m d] w (CutPost (Limb.val xs + Limb.val ys) w) := by
  generalize ha : Limb.val xs = a
  generalize hb : Limb.val ys = b
  have HA := Lib.hid ha
  have HB := Lib.hid hb
  clear ha hb
  go_enter Tryz.func118, Tryz.ntmps118
  go_wp2_with fail
  refine (trimmed_any A n c xs w hx hc hm).mono ?_
  rintro e w' ⟨A1, n1, rfl, hcut1, rfl⟩
  rw [HA.out] at hcut1
  go_wp2_with fail
  refine (trimmed_any B m d ys w hy hd hmd).mono ?_
  rintro e w' ⟨B1, m1, rfl, hcut2, rfl⟩
  rw [HB.out] at hcut2
  clear hx hy HA HB
  obtain ⟨hn1, hn2, hx1, _⟩ := hcut1
  obtain ⟨hm1, hm2, hy1, _⟩ := hcut2
  have HN := Lib.hid hn1
  have HM := Lib.hid hm1
  clear hn1 hm1
  by_cases hl : n1 < m1
  · have T := hide (addTail b a m1 n1 HM.out HN.out (by omega))
    go_wp2_with (first
      | (at_make; refine wpList_make_u32 _ rfl _ _ rfl _ (m1 + 1) rfl rfl (by omega) (by omega) ?_; intro w1 hr1 hb1 hs1)
      | (with_reducible refine wpList_copy_u32 rfl _ _ rfl w.heap.size 0 _ _ _ _ m1 m1 rfl (fun _ => rfl) rfl _ (Limb.canon b) hr1 (hy1.below hb1) (by omega) (by simp) ?_; intro w2 hr2 ho2)
      | fail)
    rw [T.out.2.1] at hr2
    have hb2 := hb1.trans (ho2.below (Nat.le_of_lt hs1) (Nat.le_refl _))
    refine (increase_any w.heap.size 0 (m1 + 1) _ (Limb.fixed (m1 + 1) b) A1 n1 n1 (Limb.canon a) _ hr2 (Limb.fixed_ok _ _) (by rw [Limb.fixed_length]; omega) (by omega) (hx1.below hb2) (by omega) (fun h => hx1.apart h (Nat.le_refl _))).mono ?_
    rintro e w3 ⟨rfl, hr3, ho3⟩
    rw [T.out.2.2.2.1, Limb.val_canon, T.out.2.2.1] at hr3
    have hb3 := hb2.trans (ho3.below hb2.size (Nat.le_refl _))
    go_wp2_with fail
    refine (trimmed_row w.heap.size (m1 + 1) _ (b + a) w.heap.size _ _ hr3 (Limb.fixed_ok _ _) (by rw [Limb.fixed_length]; omega) (by omega) (by omega) (Nat.le_refl _) T.out.2.2.2.2).mono ?_
    rintro e w4 ⟨A', k, rfl, how, rfl⟩
    go_wp2_with fail
    go_ret
    exact ⟨A', k, rfl, by rw [Nat.add_comm a b]; exact how, hb3⟩
  · have T := hide (addTail a b n1 m1 HN.out HM.out (by omega))
    have hl2 : m1 ≤ n1 := by omega
    clear hl
    go_wp2_with (first
      | (at_make; refine wpList_make_u32 _ rfl _ _ rfl _ (n1 + 1) rfl rfl (by omega) (by omega) ?_; intro w1 hr1 hb1 hs1)
      | (with_reducible refine wpList_copy_u32 rfl _ _ rfl w.heap.size 0 _ _ _ _ n1 n1 rfl (fun _ => rfl) rfl _ (Limb.canon a) hr1 (hx1.below hb1) (by omega) (by simp) ?_; intro w2 hr2 ho2)
      | fail)
    rw [T.out.2.1] at hr2
    have hb2 := hb1.trans (ho2.below (Nat.le_of_lt hs1) (Nat.le_refl _))
    refine (increase_any w.heap.size 0 (n1 + 1) _ (Limb.fixed (n1 + 1) a) B1 m1 m1 (Limb.canon b) _ hr2 (Limb.fixed_ok _ _) (by rw [Limb.fixed_length]; omega) (by omega) (hy1.below hb2) (by omega) (fun h => hy1.apart h (Nat.le_refl _))).mono ?_
    rintro e w3 ⟨rfl, hr3, ho3⟩
    rw [T.out.2.2.2.1, Limb.val_canon, T.out.2.2.1] at hr3
    have hb3 := hb2.trans (ho3.below hb2.size (Nat.le_refl _))
    go_wp2_with fail
    refine (trimmed_row w.heap.size (n1 + 1) _ (a + b) w.heap.size _ _ hr3 (Limb.fixed_ok _ _) (by rw [Limb.fixed_length]; omega) (by omega) (by omega) (Nat.le_refl _) T.out.2.2.2.2).mono ?_
    rintro e w4 ⟨A', k, rfl, how, rfl⟩
    go_wp2_with fail
    go_ret
    exact ⟨A', k, rfl, how, hb3⟩

def SubNoPost (w : World) (e : Ending) (w' : World) : Prop := e = .returned (.tuple #[.slice none 0 0, .bool false]) ∧ ∃ k, w' = w.drewN k
def SubYesPost (N : Nat) (w : World) (e : Ending) (w' : World) : Prop := ∃ A n, e = .returned (.tuple #[.slice A n n, .bool true]) ∧ Own w' w.heap.size A n n N ∧ Below w.heap.size w w'

set_option maxHeartbeats 1000000 in
theorem sub_no (A B : Option Addr) (n c m d : Nat) (xs ys : List Nat) (w : World) (hx : Nums w A n xs) (hc : n ≤ c) (hm : c ≤ 9223372036854775807) (hy : Nums w B m ys) (hd : m ≤ d) (hmd : d ≤ 9223372036854775807) (hlt : Limb.val xs < Limb.val ys) :
    Calls Tryz.prog 119 #[.slice A n c, .slice B m d] w (SubNoPost w) := by
  have h0 := cmpN_lt hlt
  go_enter Tryz.func119, Tryz.ntmps119
  go_wp2_with fail
  refine (cmp_any A B n c m d xs ys w hx hc hm hy hd hmd).mono ?_
  rintro e w' ⟨rfl, k, rfl⟩
  clear hlt
  go_wp2_with fail
  go_ret2
  exact ⟨rfl, k, rfl⟩

def SubTail (a b n1 : Nat) : Prop := Limb.val (win (Limb.canon a) 0 n1) = a ∧ put (Limb.canon a) 0 (Limb.fixed n1 (a - b)) = Limb.fixed n1 (a - b) ∧ Limb.val ((Limb.fixed n1 (a - b)).take n1) = a - b
theorem subTail (a b n1 : Nat) (hn : n1 = (Limb.canon a).length) : SubTail a b n1 := by
  have ha := Limb.canon_lt a
  rw [← hn] at ha
  refine ⟨?_, ?_, ?_⟩
  · unfold win
    rw [List.drop_zero, List.take_of_length_le (by omega), Limb.val_canon]
  · unfold put
    rw [Limb.fixed_length, List.drop_of_length_le (by omega)]
    simp
  · rw [List.take_of_length_le (by rw [Limb.fixed_length]; omega), Limb.fixed_val, Nat.mod_eq_of_lt (by omega)]

/-- A trimmed copy is a row of its own, known whole. -/
def TrimRow (w' : World) (base : Nat) (A : Option Addr) (n N : Nat) : Prop := n = (Limb.canon N).length ∧ (N ≠ 0 → ∃ g, A = some ⟨g, 0, none⟩ ∧ base ≤ g ∧ Row w' g (Limb.canon N))
theorem Own.trimRow {w : World} {base n N : Nat} {A : Option Addr} (h : Own w base A n n N) : n = (Limb.canon N).length ∧ (N ≠ 0 → ∃ g zs, A = some ⟨g, 0, none⟩ ∧ base ≤ g ∧ Row w g zs ∧ Limb.Ok zs ∧ n ≤ zs.length ∧ win zs 0 n = Limb.canon N) := by
  refine ⟨h.1, fun h0 => ?_⟩
  obtain ⟨g, zs, e, hg, hr, ho, hc, ht⟩ := h.2.2.2 h0
  exact ⟨g, zs, e, hg, hr, ho, hc, by unfold win; rw [List.drop_zero]; exact ht⟩

set_option maxHeartbeats 2000000 in
theorem sub_yes (A B : Option Addr) (n c m d : Nat) (xs ys : List Nat) (w : World) (hx : Nums w A n xs) (hc : n ≤ c) (hm : c ≤ 9223372036854775807) (hn40 : n ≤ 1099511627776) (hy : Nums w B m ys) (hd : m ≤ d) (hmd : d ≤ 9223372036854775807) (hle : Limb.val ys ≤ Limb.val xs) :
    Calls Tryz.prog 119 #[.slice A n c, .slice B m d] w (SubYesPost (Limb.val xs - Limb.val ys) w) := by
  generalize ha : Limb.val xs = a at *
  generalize hb : Limb.val ys = b at *
  have HA := Lib.hid ha
  have HB := Lib.hid hb
  clear ha hb
  have h0 := cmpN_ge hle
  go_enter Tryz.func119, Tryz.ntmps119
  go_wp2_with fail
  refine (cmp_any A B n c m d xs ys w hx hc hm hy hd hmd).mono ?_
  rintro e w' ⟨rfl, k, rfl⟩
  rw [HA.out, HB.out]
  go_wp2_with fail
  refine (trim_any A n c xs _ (hx.drewN k) hc hm hn40).mono ?_
  rintro e w1 ⟨A1, n1, rfl, how1, hb1⟩
  rw [HA.out] at how1
  have hbw1 : Below w.heap.size w w1 := (below_drewN (Below.refl _ _) k).trans hb1
  go_wp2_with fail
  refine (trimmed_any B m d ys w1 (hy.below hbw1) hd hmd).mono ?_
  rintro e w' ⟨B1, m1, rfl, hcut2, rfl⟩
  rw [HB.out] at hcut2
  obtain ⟨hm1, hm2, hy1, hB1⟩ := hcut2
  have HM := Lib.hid hm1
  have hlen : m1 ≤ n1 := by rw [hm1, how1.len]; exact Limb.canon_len_mono hle
  clear hm1
  by_cases ha0 : a = 0
  · have hb0 : b = 0 := by omega
    subst ha0
    subst hb0
    obtain rfl : n1 = 0 := how1.len
    obtain rfl : m1 = 0 := by omega
    go_wp2_with fail
    refine (decrease_nil _ _ _ _ _).mono ?_
    rintro e w' ⟨rfl, rfl⟩
    go_wp2_with fail
    refine (trimmed_any A1 0 0 [] _ (Nums.nil _ _) (by omega) (by omega)).mono ?_
    rintro e w' ⟨A2, m2, rfl, hcut3, rfl⟩
    obtain rfl : m2 = 0 := hcut3.1
    go_wp2_with fail
    go_ret2
    exact ⟨A2, 0, rfl, Own.zero _ _ _ _ (by omega), hbw1⟩
  · have T := hide (subTail a b n1 how1.len)
    have hown := how1.trimRow.2
    obtain ⟨g, zs, rfl, hg, hr1, hzok, hzl, hwin⟩ := hown ha0
    have HW := Lib.hid hwin
    have H0 := Lib.hid ha0
    clear hwin ha0
    have hap : 0 < m1 → Apart B1 g := by
      intro h
      rcases hB1 with rfl | rfl
      · have := hy.apart (g := g) (by omega) (by simpa using hg)
        exact this
      · intro ad e; cases e
    have hn1 : n1 ≤ 1099511627776 := by
      have e1 := how1.len
      have e2 : Limb.val xs < 4294967296 ^ n := by have := Limb.val_lt xs hx.ok; rwa [hx.len] at this
      rw [HA.out] at e2
      have e3 := Limb.canon_len_le a n e2
      omega
    go_wp2_with fail
    have hle2 : Limb.val (Limb.canon b) ≤ Limb.val (win zs 0 n1) := by rw [HW.out, Limb.val_canon, Limb.val_canon]; exact hle
    have hfit : 0 + n1 ≤ zs.length := by omega
    have h62 : n1 ≤ 4611686018427387904 := by omega
    refine (decrease_any g 0 n1 _ zs B1 m1 m1 (Limb.canon b) _ hr1 hzok hfit h62 hy1 hlen hap hle2).mono ?_
    rintro e w3 ⟨rfl, hr3, ho3⟩
    rw [HW.out, Limb.val_canon, Limb.val_canon] at hr3
    go_wp2_with fail
    refine (trimmed_row g n1 _ (a - b) w.heap.size _ _ hr3 (put_ok hzok _ (Limb.fixed_ok _ _)) (by rw [put_length _ _ _ (by rw [Limb.fixed_length]; omega)]; exact hzl) (by omega) (by omega) (by simpa using hg) (by
      unfold put
      rw [List.take_zero, List.nil_append, List.take_append_of_le_length (by rw [Limb.fixed_length]; omega)]
      exact T.out.2.2)).mono ?_
    rintro e w4 ⟨A', j, rfl, how, rfl⟩
    go_wp2_with fail
    go_ret2
    exact ⟨A', j, rfl, how, hbw1.trans (ho3.below hbw1.size (by simpa using hg))⟩
end Go.Proofs.YtdeakieenppmiaaGreatDoor
