/- Texts of one seat, put together: Put ShelfB Build WSign Name Bytes. -/
import Derived.Test.YtakcgkohnomgjaaGreatDoorE37
import Derived.Shelf.Strings.Builder1
import Derived.Shelf.Strconv.Itoa3
import Derived.Test.YtakcgkohnomgjaaGreatDoorE02
import Derived.Test.YtakcgkohnomgjaaGreatDoorE30
import Derived.Test.YtakcgkohnomgjaaGreatDoorE24
import Derived.Test.YtakcgkohnomgjaaGreatDoorE03
set_option linter.unusedVariables false
set_option linter.unusedSimpArgs false
/- term.Put, Without. -/
namespace Go.Proofs.YtakcgkohnomgjaaGreatDoor
open Go.RowKit Go.Maps
open Tm

set_option maxRecDepth 100000 in
set_option maxHeartbeats 2000000 in
theorem tput_any (v u : Value) (L M : List (Int × Int)) (K KM x : Int) (k ku : Nat) (w0 : World) (hv : TIn w0 v L K k) (hu : TIn w0 u M KM ku) (hx1 : -9223372036854775808 ≤ x) (hx2 : x ≤ 9223372036854775807) (hml : M.length ≤ 1000) (hl : L.length ≤ 1000) (hrg : ∀ p ∈ L, p.1 ≤ 9223372036854775807) (hk : k ≤ 100000000) (hku : ku ≤ 100000000) :
    Calls Tryz.prog 58 #[v, .int .i64 x, u] w0 (TPost (norm (putL [x] [(M, KM)] (norm L))) (K + putK [x] [(M, KM)] (norm L)) (k + ku + 1010000) w0) := by
  have hv0 := hv
  have hu0 := hu
  obtain ⟨A, n, c, s, B, m, d, rfl, -⟩ := hv
  obtain ⟨A2, n2, c2, s2, B2, m2, d2, rfl, -⟩ := hu
  obtain ⟨z0, z1, z2, z3, z4⟩ := bstart3 28 28 28 w0 #[.slice A n c, .bool s, .slice B m d] #[.slice A2 n2 c2, .bool s2, .slice B2 m2 d2] #[.slice none 0 0, .bool false, .slice none 0 0]
  have x0 := z0.c0
  have x1 := z0.c1
  have x2 := z0.c2
  have y0 := z1.c0
  have y1 := z1.c1
  have y2 := z1.c2
  go_enter Tryz.func58, Tryz.ntmps58
  generalize hW : (((w0.alloc (.cells #[.slice A n c, .bool s, .slice B m d] 28)).alloc (.cells #[.slice A2 n2 c2, .bool s2, .slice B2 m2 d2] 28)).alloc (.cells #[.slice none 0 0, .bool false, .slice none 0 0] 28)) = W0 at z0 z1 z2 z3 z4
  have a1 := bl_alloc W0 (.cells #[.int .i64 x] 3)
  have a2 := bl_alloc (W0.alloc (.cells #[.int .i64 x] 3)) (.cells #[.slice A2 n2 c2, .bool s2, .slice B2 m2 d2] 28)
  have hvi : IIn ((W0.alloc (.cells #[.int .i64 x] 3)).alloc (.cells #[.slice A2 n2 c2, .bool s2, .slice B2 m2 d2] 28)) (some ⟨W0.heap.size, 0, none⟩) 1 [x] :=
    IIn.below (w := W0.alloc (.cells #[.int .i64 x] 3)) ⟨rfl, fun _ => ⟨W0.heap.size, 0, rfl, fun j u hu => by rw [Nat.zero_add]; exact (Box.new 3 W0 #[.int .i64 x]).cell j u (by simpa [ints] using hu)⟩⟩ a2
  have hbt := Box.new 28 (W0.alloc (.cells #[.int .i64 x] 3)) #[.slice A2 n2 c2, .bool s2, .slice B2 m2 d2]
  rw [size_alloc] at hbt
  have hti := TermsIn.box (T := 28) (k := ku) (ts := [⟨A2, n2, c2, s2, B2, m2, d2, M, KM⟩]) hbt (fun t ht => by simp at ht; subst ht; exact (((hu0.below z3).below a1).below a2))
  have hpa := tputAll_any _ L K k (some ⟨W0.heap.size, 0, none⟩) 1 1 [x] (some ⟨W0.heap.size + 1, 0, none⟩) 1 1 [⟨A2, n2, c2, s2, B2, m2, d2, M, KM⟩] ku _ (((hv0.below z3).below a1).below a2) hvi (by omega) (fun y hy => by simp at hy; subst hy; exact ⟨hx1, hx2⟩) hti (by omega) (fun t ht => by simp at ht; subst ht; exact hml) hl hrg hk hku
  have HT := hide ((z3.next a1).next a2)
  have HR := hide ((z2.next a1).next a2)
  clear hv0 hu0 z0 z1 z2 z3 a1 a2 hvi hbt hti hrg
  subst hW
  simp only [size_alloc] at hpa
  go_wp2_with fail
  refine hpa.mono ?_
  rintro e w1 ⟨v1, rfl, r1, b1⟩
  obtain ⟨A3, n3, c3, s3, B3, m3, d3, rfl⟩ := r1.form
  have k1 := HR.out.next b1
  go_wp2_with (with_reducible refine wpList_store_t rfl _ _ rfl (w0.heap.size + 1 + 1) _ _ _ _ _ _ _ rfl rfl _ _ _ k1 ?_; intro w7 k7 ho7)
  refine bodyPost_t rfl rfl k7 rfl ?_
  exact ⟨_, rfl, r1.only k1 ho7, zback (HT.out.next b1) (by omega) ho7⟩
theorem coef_filter (L : List (Int × Int)) (x v : Int) : coef (L.filter fun p => decide (p.1 ≠ x)) v = if v = x then 0 else coef L v := by
  induction L with
  | nil => simp [coef]
  | cons p ps ih =>
    obtain ⟨u, c⟩ := p
    rw [List.filter_cons]
    by_cases h : u = x
    · rw [if_neg (by simp [h]), ih, coef]
      split
      · rfl
      · rw [if_neg (by omega), Int.zero_add]
    · rw [if_pos (by simp [h]), coef, ih, coef]
      by_cases h2 : v = x
      · rw [if_pos h2, if_pos h2, if_neg (by omega)]; rfl
      · rw [if_neg h2, if_neg h2]
theorem place_one (x u : Int) (M : List (Int × Int)) (KM : Int) : place [x] [(M, KM)] u = if x = u then (M, KM) else ([(u, 1)], 0) := by
  unfold place firstAt
  by_cases h : x = u
  · rw [if_pos h, if_pos h]; rfl
  · rw [if_neg h, if_neg h]; rfl
theorem coef_drop (x : Int) (P : List (Int × Int)) (v : Int) : coef (putL [x] [([], 0)] P) v = if v = x then 0 else coef P v := by
  induction P with
  | nil => simp [putL, coef]
  | cons p ps ih =>
    obtain ⟨u, c⟩ := p
    rw [putL, coef_append, ih, place_one, coef]
    by_cases h : x = u
    · rw [if_pos h]
      by_cases h2 : v = x
      · rw [if_pos h2, if_pos h2]; rfl
      · rw [if_neg h2, if_neg h2, if_neg (by omega)]; rfl
    · rw [if_neg h]
      simp only [List.map_cons, List.map_nil, coef, Int.mul_one, Int.add_zero]
      by_cases h2 : v = x
      · rw [if_pos h2, if_pos h2, if_neg (by omega)]; rfl
      · rw [if_neg h2, if_neg h2]
theorem putK_drop (x : Int) (P : List (Int × Int)) : putK [x] [([], 0)] P = 0 := by
  induction P with
  | nil => rfl
  | cons p ps ih =>
    rw [putK, ih, place_one]
    split <;> simp
/-- A list without a variable. -/
def without (L : List (Int × Int)) (x : Int) : List (Int × Int) := L.filter fun p => decide (p.1 ≠ x)
theorem without_put (L : List (Int × Int)) (x : Int) : norm (putL [x] [([], 0)] (norm L)) = norm (without L x) :=
  norm_same (fun v => by unfold without; rw [coef_drop, coef_filter, norm_coef])
set_option maxRecDepth 100000 in
set_option maxHeartbeats 1000000 in
theorem twithout_any (v : Value) (L : List (Int × Int)) (K x : Int) (k : Nat) (w0 : World) (hv : TIn w0 v L K k) (hx1 : -9223372036854775808 ≤ x) (hx2 : x ≤ 9223372036854775807) (hl : L.length ≤ 1000) (hrg : ∀ p ∈ L, p.1 ≤ 9223372036854775807) (hk : k ≤ 100000000) :
    Calls Tryz.prog 17 #[v, .int .i64 x] w0 (TPost (norm (without L x)) K (k + 1010000) w0) := by
  have hv0 := hv
  obtain ⟨A, n, c, s, B, m, d, rfl, -⟩ := hv
  obtain ⟨z0, z1, z2, -⟩ := bstart2 28 28 w0 #[.slice A n c, .bool s, .slice B m d] #[.slice none 0 0, .bool false, .slice none 0 0]
  have hp := tput_any _ (.agg #[.slice none 0 0, .bool false, .slice none 0 0]) L [] K 0 x k 0 _ (hv0.below z2) (zeroTerm_res _ 0).in_ hx1 hx2 (by simp) hl hrg hk (by omega)
  rw [without_put, putK_drop, Int.add_zero] at hp
  have x0 := z0.c0
  have x1 := z0.c1
  have x2 := z0.c2
  clear hrg
  go_enter Tryz.func17, Tryz.ntmps17
  go_wp2_with fail
  refine hp.mono ?_
  rintro e w1 ⟨v1, rfl, r1, b1⟩
  obtain ⟨A1, n1, c1, s1, B1, m1, d1, rfl⟩ := r1.form
  have k1 := z1.next b1
  go_wp2_with (with_reducible refine wpList_store_t rfl _ _ rfl (w0.heap.size + 1) _ _ _ _ _ _ _ rfl rfl _ _ _ k1 ?_; intro w3 k3 ho3)
  refine bodyPost_t rfl rfl k3 rfl ?_
  exact ⟨_, rfl, r1.only k1 ho3, zback (z2.next b1) (by omega) ho3⟩
end Go.Proofs.YtakcgkohnomgjaaGreatDoor
/- strings.Builder.String and strconv.Itoa: the library's own contracts, laid at this program. -/
namespace Go.Proofs.YtakcgkohnomgjaaGreatDoor
open Go.Shelf
def Tryz.bString_ren : Go.Shelf.Ren := ⟨fun | 169 => 85 | n => n, fun | 70 => 92 | 9 => 9 | 0 => 0 | 72 => 95 | 37 => 93 | 127 => 123 | 3 => 3 | 5 => 5 | n => n, fun | n => n⟩
theorem Tryz.bString : Go.Proofs.Lays.n169 Tryz.prog Tryz.bString_ren := {
  mixed := by kernel_rfl
  f169 := Tryz.func85.trans (congrArg some (by kernel_rfl))
  t0 := Tryz.underlying0
  a0 := Tryz.isAgg0
  z0 := Tryz.sizeOf0
  v0 := Tryz.zeroValue0
  t3 := Tryz.underlying3
  a3 := Tryz.isAgg3
  z3 := Tryz.sizeOf3
  v3 := Tryz.zeroValue3
  t9 := Tryz.underlying9
  a9 := Tryz.isAgg9
  z9 := Tryz.sizeOf9
  v9 := Tryz.zeroValue9
  t37 := Tryz.underlying93
  a37 := Tryz.isAgg93
  z37 := Tryz.sizeOf93
  v37 := Tryz.zeroValue93
  t70 := Tryz.underlying92
  a70 := Tryz.isAgg92
  z70 := Tryz.sizeOf92
  v70 := Tryz.zeroValue92
  t72 := Tryz.underlying95
  a72 := Tryz.isAgg95
  z72 := Tryz.sizeOf95
  v72 := Tryz.zeroValue95
  t127 := Tryz.underlying123
  a127 := Tryz.isAgg123
  z127 := Tryz.sizeOf123
  v127 := Tryz.zeroValue123 }
def Tryz.sItoa_ren : Go.Shelf.Ren := ⟨fun | 171 => 86 | 243 => 116 | 246 => 134 | 283 => 151 | 284 => 152 | 285 => 153 | 286 => 154 | 129 => 146 | 317 => 166 | 318 => 167 | 319 => 168 | 320 => 169 | 337 => 173 | 338 => 174 | n => n, fun | 3 => 3 | 9 => 9 | 2 => 2 | 4 => 4 | 171 => 152 | 0 => 0 | 53 => 115 | 37 => 93 | 5 => 5 | 173 => 154 | 212 => 167 | 51 => 86 | 20 => 20 | 213 => 168 | 46 => 132 | 232 => 173 | 233 => 174 | n => n, fun | 17 => 0 | 18 => 1 | 19 => 2 | n => n⟩
theorem Tryz.sItoa : Go.Proofs.Lays.n171 Tryz.prog Tryz.sItoa_ren := {
  mixed := by kernel_rfl
  f129 := Tryz.func146.trans (congrArg some (by kernel_rfl))
  f171 := Tryz.func86.trans (congrArg some (by kernel_rfl))
  f243 := Tryz.func116.trans (congrArg some (by kernel_rfl))
  f246 := Tryz.func134.trans (congrArg some (by kernel_rfl))
  f283 := Tryz.func151.trans (congrArg some (by kernel_rfl))
  f284 := Tryz.func152.trans (congrArg some (by kernel_rfl))
  f285 := Tryz.func153.trans (congrArg some (by kernel_rfl))
  f286 := Tryz.func154.trans (congrArg some (by kernel_rfl))
  f317 := Tryz.func166.trans (congrArg some (by kernel_rfl))
  f318 := Tryz.func167.trans (congrArg some (by kernel_rfl))
  f319 := Tryz.func168.trans (congrArg some (by kernel_rfl))
  f320 := Tryz.func169.trans (congrArg some (by kernel_rfl))
  f337 := Tryz.func173.trans (congrArg some (by kernel_rfl))
  f338 := Tryz.func174.trans (congrArg some (by kernel_rfl))
  t0 := Tryz.underlying0
  a0 := Tryz.isAgg0
  z0 := Tryz.sizeOf0
  v0 := Tryz.zeroValue0
  t2 := Tryz.underlying2
  a2 := Tryz.isAgg2
  z2 := Tryz.sizeOf2
  v2 := Tryz.zeroValue2
  t3 := Tryz.underlying3
  a3 := Tryz.isAgg3
  z3 := Tryz.sizeOf3
  v3 := Tryz.zeroValue3
  t4 := Tryz.underlying4
  a4 := Tryz.isAgg4
  z4 := Tryz.sizeOf4
  v4 := Tryz.zeroValue4
  t5 := Tryz.underlying5
  a5 := Tryz.isAgg5
  z5 := Tryz.sizeOf5
  v5 := Tryz.zeroValue5
  t9 := Tryz.underlying9
  a9 := Tryz.isAgg9
  z9 := Tryz.sizeOf9
  v9 := Tryz.zeroValue9
  t20 := Tryz.underlying20
  a20 := Tryz.isAgg20
  z20 := Tryz.sizeOf20
  v20 := Tryz.zeroValue20
  t37 := Tryz.underlying93
  a37 := Tryz.isAgg93
  z37 := Tryz.sizeOf93
  v37 := Tryz.zeroValue93
  t46 := Tryz.underlying132
  a46 := Tryz.isAgg132
  z46 := Tryz.sizeOf132
  v46 := Tryz.zeroValue132
  t51 := Tryz.underlying86
  a51 := Tryz.isAgg86
  z51 := Tryz.sizeOf86
  v51 := Tryz.zeroValue86
  t53 := Tryz.underlying115
  a53 := Tryz.isAgg115
  z53 := Tryz.sizeOf115
  v53 := Tryz.zeroValue115
  t171 := Tryz.underlying152
  a171 := Tryz.isAgg152
  z171 := Tryz.sizeOf152
  v171 := Tryz.zeroValue152
  t173 := Tryz.underlying154
  a173 := Tryz.isAgg154
  z173 := Tryz.sizeOf154
  v173 := Tryz.zeroValue154
  t212 := Tryz.underlying167
  a212 := Tryz.isAgg167
  z212 := Tryz.sizeOf167
  v212 := Tryz.zeroValue167
  t213 := Tryz.underlying168
  a213 := Tryz.isAgg168
  z213 := Tryz.sizeOf168
  t232 := Tryz.underlying173
  a232 := Tryz.isAgg173
  z232 := Tryz.sizeOf173
  v232 := Tryz.zeroValue173
  t233 := Tryz.underlying174
  a233 := Tryz.isAgg174
  z233 := Tryz.sizeOf174
  v233 := Tryz.zeroValue174
  g17 := by kernel_rfl
  g18 := by kernel_rfl
  g19 := by kernel_rfl }
end Go.Proofs.YtakcgkohnomgjaaGreatDoor
/- strings.Builder: copyCheck, WriteString, Len, String at a builder of the call's own. -/
namespace Go.Proofs.YtakcgkohnomgjaaGreatDoor
open Go.Shelf Go.RowKit

theorem builder_size : (Tryz.prog.info? 95).map (·.size) = some 2 := by kernel_rfl
theorem builder_lies : liesAt Tryz.prog Tryz.prog.depth 95 (2 / Tryz.prog.cellsOf 95) 0 95 1 = true := by kernel_rfl
set_option maxRecDepth 100000 in
set_option maxHeartbeats 1000000 in
theorem copyCheck_used (b : Nat) (w : World) (h0 : w.cell? ⟨b, 0, none⟩ = some (.pointer (some ⟨b, 0, none⟩))) :
    Calls Tryz.prog 115 #[.pointer (some ⟨b, 0, none⟩)] w fun e w' => e = .returned (.tuple #[]) ∧ w' = w := by
  obtain ⟨j, hj, -⟩ := Option.map_eq_some_iff.1 builder_size
  have hne := fun w => Lib.run_neq_ptr_same (P := Tryz.prog) w ⟨b, 0, none⟩ Tryz.underlying92 hj
  clear hj
  go_enter Tryz.func115, Tryz.ntmps115
  go_wp2_with fail
  go_end0
  exact ⟨rfl, rfl⟩
set_option maxRecDepth 100000 in
set_option maxHeartbeats 1000000 in
theorem copyCheck_fresh (b : Nat) (w : World) (h0 : w.cell? ⟨b, 0, none⟩ = some (.pointer none)) (hsh : w.shape? b = some (95, 2)) (hfz : w.frozen? ⟨b, 0, none⟩ = false) :
    Calls Tryz.prog 115 #[.pointer (some ⟨b, 0, none⟩)] w fun e w' => e = .returned (.tuple #[]) ∧ w' = w.setCell ⟨b, 0, none⟩ (.pointer (some ⟨b, 0, none⟩)) := by
  obtain ⟨j, hj, hjs⟩ := Option.map_eq_some_iff.1 builder_size
  have hne := fun w => Lib.run_neq_ptr_same (P := Tryz.prog) w ⟨b, 0, none⟩ Tryz.underlying92 hj
  have hto := Lib.run_to_unsafe (P := Tryz.prog) w ⟨b, 0, none⟩ Tryz.underlying92 Tryz.underlying137 hj (by rw [hjs]; decide) hsh (Nat.zero_lt_succ 1)
  have hfrom := Lib.run_from_unsafe (P := Tryz.prog) w ⟨b, 0, none⟩ Tryz.underlying137 Tryz.underlying92 hj hsh builder_lies
  have hx := Lib.run_noEscape (P := Tryz.prog) w (.pointer (some ⟨b, 0, none⟩))
  have hcf := fun (args : Array Value) (w : World) => run_callFunc_extern (P := Tryz.prog) (w := w) (args := args) Tryz.func133 (by kernel_rfl) (by kernel_rfl) (by kernel_rfl) (e := Extern.AbiNoEscape.same) (by kernel_rfl)
  clear hj hjs
  go_enter Tryz.func115, Tryz.ntmps115
  go_wp2_with fail
  go_end0
  exact ⟨rfl, rfl⟩
/-- Block b is a builder of bytes bs; the row of its bytes lies at B or behind it. -/
def Bld (w : World) (B b : Nat) (bs : List Value) : Prop := ∃ p v, (p = .pointer none ∨ p = .pointer (some ⟨b, 0, none⟩)) ∧ Box 95 w b #[p, v] ∧ w.ownsRow B 5 1 v bs.length bs
/-- What writing into builder b leaves: all that lies below B, and every variable that is no row of bytes. -/
structure BW (B b : Nat) (w w' : World) : Prop where
  os : w'.os = w.os
  tape : w'.tape = w.tape
  output : w'.output = w.output
  size : w.heap.size ≤ w'.heap.size
  low : ∀ k, k < w.heap.size → k < B → k ≠ b → w'.heap[k]? = w.heap[k]?
  box : ∀ T g cs, T ≠ 5 → g ≠ b → Box T w g cs → Box T w' g cs
theorem BW.refl (B b : Nat) (w : World) : BW B b w w := ⟨rfl, rfl, rfl, Nat.le_refl _, fun _ _ _ _ => rfl, fun _ _ _ _ _ h => h⟩
theorem BW.trans {B b : Nat} {a c d : World} (h : BW B b a c) (k : BW B b c d) : BW B b a d :=
  ⟨k.os.trans h.os, k.tape.trans h.tape, k.output.trans h.output, Nat.le_trans h.size k.size, fun i h0 h1 h2 => (k.low i (Nat.lt_of_lt_of_le h0 h.size) h1 h2).trans (h.low i h0 h1 h2), fun T g cs h1 h2 x => k.box T g cs h1 h2 (h.box T g cs h1 h2 x)⟩
theorem BW.of_below {B b : Nat} {w w' : World} (h : Below w.heap.size w w') : BW B b w w' := ⟨h.os, h.tape, h.output, h.size, fun k hk _ _ => h.block k hk, fun _ _ _ _ _ x => x.next h⟩
theorem BW.of_only {B b : Nat} {w w' : World} (h : Only b w w') : BW B b w w' :=
  ⟨h.gb.os, h.gb.tape, h.gb.output, h.gb.size, fun k hk _ hne => h.gb.block k hk (fun e => hne (by injection e)), fun _ _ _ _ hne x => x.other h hne⟩
theorem BW.only {b : Nat} {w w' : World} (h : BW w.heap.size b w w') : Only b w w' := ⟨h.os, h.tape, h.output, h.size, fun k hk hne => h.low k hk hk (fun e => hne (by rw [e]))⟩
theorem BW.mono {B B' b : Nat} {w w' : World} (h : BW B b w w') (hB : B' ≤ B) : BW B' b w w' := ⟨h.os, h.tape, h.output, h.size, fun k h0 h1 h2 => h.low k h0 (Nat.lt_of_lt_of_le h1 hB) h2, h.box⟩
theorem BW.below {B b C : Nat} {w w' : World} (h : BW B b w w') (hC : C ≤ B) (hb : C ≤ b) (hw : C ≤ w.heap.size) : Below C w w' := ⟨h.os, h.tape, h.output, h.size, fun k hk => h.low k (by omega) (by omega) (by omega)⟩
theorem byte_info : (Tryz.prog.info? 5).map (fun i => (i.zero, i.size, i.bytes)) = some (some (.int .u8 0), 1, 1) := by kernel_rfl
theorem own_grown {w w' : World} {B : Nat} {T : TypeId} {v : Value} {n g : Nat} {xs : List Value} {cs : Array Value} (hT : T ≠ 5) (hown : w.ownsRow B 5 1 v n xs) (hg : w.grownBy w' v.ownBlock) (x : Box T w g cs) : Box T w' g cs :=
  x.grown hg (fun e => Lib.ownBlock_ne hown x hT e.symm)
theorem Bld.fresh {w : World} {B b : Nat} (h : Box 95 w b #[.pointer none, .slice none 0 0]) : Bld w B b [] := ⟨_, _, .inl rfl, h, World.ownsRow_nil _ _ _ _⟩
theorem Bld.below {w w' : World} {B b : Nat} {bs : List Value} (h : Bld w B b bs) (hb : Below w.heap.size w w') : Bld w' B b bs := by
  obtain ⟨p, v, hp, x, ho⟩ := h
  refine ⟨p, v, hp, x.next hb, ho.kept (row := none) ⟨hb.os, hb.tape, hb.output, hb.size, fun k hk _ => hb.block k hk⟩ ?_⟩
  rcases ho.2 with ⟨rfl, _⟩ | ⟨g, cap, cur, rfl, _⟩
  · exact .inl rfl
  · exact .inr (by simp [Value.ownBlock])
def BldPost (r : Value) (B b : Nat) (bs : List Value) (w : World) (e : Ending) (w' : World) : Prop := e = .returned r ∧ Bld w' B b bs ∧ BW B b w w'
theorem bld_ne {w : World} {B b n : Nat} {v p q : Value} {xs : List Value} (ho : w.ownsRow B 5 1 v n xs) (x : Box 95 w b #[p, q]) : v.ownBlock ≠ some b := Lib.ownBlock_ne ho x (by decide)
theorem own_slice {w : World} {B n : Nat} {v : Value} {xs : List Value} (ho : w.ownsRow B 5 1 v n xs) : ∃ ao m cap, v = .slice ao m cap := by
  rcases ho.2 with ⟨rfl, _⟩ | ⟨g, cap, cur, rfl, _⟩
  · exact ⟨_, _, _, rfl⟩
  · exact ⟨_, _, _, rfl⟩
theorem bset0 {w : World} {b : Nat} {p q : Value} (x : Box 95 w b #[p, q]) (y : Value) : Box 95 (w.setCell ⟨b, 0, none⟩ y) b #[y, q] := by
  unfold Box at x ⊢
  simp [World.setCell, Array.getElem?_modify, x]
theorem bset1 {w : World} {b : Nat} {p q : Value} (x : Box 95 w b #[p, q]) (y : Value) : Box 95 (w.setCell ⟨b, 1, none⟩ y) b #[p, y] := by
  unfold Box at x ⊢
  simp [World.setCell, Array.getElem?_modify, x]
/-- Behind copyCheck: used. -/
theorem copyCheck_any (B b : Nat) (bs : List Value) (w : World) (h : Bld w B b bs) : Calls Tryz.prog 115 #[.pointer (some ⟨b, 0, none⟩)] w fun e w' => e = .returned (.tuple #[]) ∧ (∃ v, Box 95 w' b #[.pointer (some ⟨b, 0, none⟩), v] ∧ w'.ownsRow B 5 1 v bs.length bs) ∧ BW B b w w' := by
  obtain ⟨p, v, rfl | rfl, x, ho⟩ := h
  · refine (copyCheck_fresh b w (x.cell 0 _ rfl) (by unfold Box at x; simp [World.shape?, x]) (x.fr 0)).mono ?_
    rintro e w' ⟨rfl, rfl⟩
    exact ⟨rfl, ⟨v, bset0 x _, ho.kept (row := some b) (only_set1 w b 0 _) (.inr (bld_ne ho x))⟩, BW.of_only (only_set1 w b 0 _)⟩
  · refine (copyCheck_used b w (x.cell 0 _ rfl)).mono ?_
    rintro e w' ⟨rfl, rfl⟩
    exact ⟨rfl, ⟨v, x, ho⟩, BW.refl _ _ _⟩
set_option maxRecDepth 100000 in
set_option maxHeartbeats 2000000 in
theorem writeString_any (B b : Nat) (bs : List Value) (s : ByteArray) (w : World) (h : Bld w B b bs) (hlen : bs.length + s.size ≤ 140737488355328) (hBw : B ≤ w.heap.size) :
    Calls Tryz.prog 84 #[.pointer (some ⟨b, 0, none⟩), .string s] w (BldPost (.tuple #[.int .i64 s.size, .nilIface]) B b (bs ++ Lib.strCells s) w) := by
  have hc := copyCheck_any B b bs w h
  obtain ⟨i0, hi, hz0, hz1, hz2⟩ := info_parts byte_info
  clear h
  go_enter Tryz.func84, Tryz.ntmps84
  go_wp2_with fail
  refine hc.mono ?_
  rintro e w1 ⟨rfl, ⟨v, x, ho⟩, b1⟩
  have c1 : w1.cell? ⟨b, 1, none⟩ = some v := x.cell 1 _ rfl
  have hB1 : B ≤ w1.heap.size := Nat.le_trans hBw b1.size
  have h63 : bs.length + s.size ≤ maxLen := by unfold maxLen; omega
  have X := hide x
  have HB1 := hide b1
  clear x b1 hc
  go_wp2_with (at_builtin; refine Lib.wpList_append_own_string _ rfl _ _ 93 9 rfl B 5 i0 Tryz.underlying93 Tryz.underlying9 hi hz0 hz1 hz2 v bs.length bs rfl ho s rfl h63 hlen hB1 ?_; intro v2 w2 ho2 g2 hnil; clear hnil; obtain ⟨ao2, n2, cap2, rfl⟩ := own_slice ho2; have y := own_grown (by decide) ho g2 X.out; have u0 : w2.cell? ⟨b, 1, none⟩ = some v := y.cell 1 _ rfl; have u1 := y.fr 1; have hb2 := hide (HB1.out.trans ⟨g2.os, g2.tape, g2.output, g2.size, fun k h0 hk hne => g2.block k h0 (fun e => by have := (ho.lt k e.symm).1; omega), fun T g cs hT hne z => own_grown hT ho g2 z⟩); have Y := hide y; have HO2 := hide ho2; clear y ho2 g2)

  go_ret2
  refine ⟨rfl, ⟨_, .slice ao2 n2 cap2, .inr rfl, bset1 Y.out _, ?_⟩, hb2.out.trans (BW.of_only (only_set1 w2 b 1 _))⟩
  rw [List.length_append, Lib.strCells_length]
  exact HO2.out.kept (row := some b) (only_set1 w2 b 1 _) (.inr (bld_ne HO2.out Y.out))
set_option maxRecDepth 100000 in
set_option maxHeartbeats 1000000 in
theorem builderLen_any (B b : Nat) (bs : List Value) (w : World) (h : Bld w B b bs) : Calls Tryz.prog 113 #[.pointer (some ⟨b, 0, none⟩)] w (fun e w' => e = .returned (.int .i64 (bs.length : Nat)) ∧ w' = w) := by
  obtain ⟨p, v, -, x, ho⟩ := h
  obtain ⟨ao, cap, hv⟩ : ∃ ao cap, v = .slice ao bs.length cap := by
    rcases ho.2 with ⟨rfl, h0⟩ | ⟨g, cap, cur, rfl, _⟩
    · exact ⟨none, 0, by rw [h0]⟩
    · exact ⟨_, _, rfl⟩
  subst hv
  have c1 : w.cell? ⟨b, 1, none⟩ = some (.slice ao bs.length cap) := x.cell 1 _ rfl
  clear ho
  go_enter Tryz.func113, Tryz.ntmps113
  go_wp2_with fail
  go_ret
  exact ⟨rfl, rfl⟩
set_option maxRecDepth 100000 in
theorem builder_extra : Builder.Extra Tryz.prog Tryz.bString_ren := { sizeBuilder := builder_size, liesBuilder := builder_lies, t5 := Tryz.underlying5, a5 := Tryz.isAgg5, z5 := Tryz.sizeOf5, v5 := Tryz.zeroValue5, infoByte := byte_info, cellsByte := by kernel_rfl, sizeByte := by kernel_rfl, neB5 := by decide }
theorem builderString_any (B C b : Nat) (l : List UInt8) (w : World) (h : Bld w B b (Lib.byteCells l)) (hC : C ≤ B) (hCb : C ≤ b) (hw : C ≤ w.heap.size) : Calls Tryz.prog 85 #[.pointer (some ⟨b, 0, none⟩)] w (fun e w' => e = .returned (.string ⟨l.toArray⟩) ∧ Below C w w') := by
  obtain ⟨p, v, hp, x, ho⟩ := h
  have ho' : w.ownsRow C 5 1 v (Lib.byteCells l).length (Lib.byteCells l) := by
    refine ⟨ho.1, ?_⟩
    rcases ho.2 with h0 | ⟨g, cap, cur, h1, h2, h3⟩
    · exact .inl h0
    · exact .inr ⟨g, cap, cur, h1, Nat.le_trans hC h2, h3⟩
  have hb : Lib.IsBuilder (Tryz.bString_ren.t 72) (Tryz.bString_ren.t 5) C b (Lib.byteCells l) w := by
    rcases hp with rfl | rfl
    · exact Or.inl ⟨hCb, v, x, ho', bld_ne ho x⟩
    · exact Or.inr ⟨hCb, v, x, ho', bld_ne ho x⟩
  exact (Any.Builder_String_any Tryz.bString builder_extra C b l w hb hw).mono (fun e w' ⟨h1, h2⟩ => ⟨h1, h2⟩)
end Go.Proofs.YtakcgkohnomgjaaGreatDoor
/- term.writeSign, Name. -/
namespace Go.Proofs.YtakcgkohnomgjaaGreatDoor
open Go.Shelf Go.RowKit

/-- What stands ahead of a summand. -/
def signB : Bool → Bool → List UInt8
  | true, true => [32, 45, 32]
  | true, false => [32, 43, 32]
  | false, true => [45]
  | false, false => []
set_option maxRecDepth 100000 in
set_option maxHeartbeats 4000000 in
theorem writeSign_any (B b : Nat) (bs : List Value) (v : Value) (Z : Int) (k : Nat) (w : World) (h : Bld w B b bs) (hv : ZIn w v Z k) (hk : k ≤ 1099511627776) (hlen : bs.length + 3 ≤ 140737488355328) (hB : B ≤ w.heap.size) :
    Calls Tryz.prog 81 #[.pointer (some ⟨b, 0, none⟩), v] w (BldPost (.tuple #[]) B b (bs ++ Lib.byteCells (signB (decide (0 < bs.length)) (decide (Z < 0)))) w) := by
  have hv0 := hv
  obtain ⟨s, A, n, c, xs, rfl, -⟩ := hv
  obtain ⟨z0, z1, -⟩ := zstart1 w #[.bool s, .slice A n c]
  have hs := sign_z _ Z k _ (hv0.below z1) hk
  unfold SignPost at hs
  have H1 := hide (h.below z1)
  have HB1 := hide (BW.of_below (B := B) (b := b) z1)
  have x0 := Blk.c0 z0
  have x1 := Blk.c1 z0
  clear hv0 z0 z1
  by_cases hz : Z < 0
  · have hz1 : Z.sign < 0 := by rw [Int.sign_eq_neg_one_of_neg hz]; decide
    have hd : decide (Z < 0) = true := by simpa using hz
    by_cases hn : 0 < bs.length
    · have hdn := hide (show signB (decide (0 < bs.length)) (decide (Z < 0)) = [32, 45, 32] by rw [hd, show decide (0 < bs.length) = true by simpa using hn]; rfl)
      have hd2 : decide ((0 : Int) < (bs.length : Nat)) = true := by simpa using hn
      go_enter Tryz.func81, Tryz.ntmps81
      go_wp2_with fail
      refine hs.mono ?_
      rintro e w1 ⟨rfl, b1⟩
      have H2 := H1.out.below b1
      have HW := hide (HB1.out.trans (BW.of_below b1))
      have hB1 : B ≤ w1.heap.size := Nat.le_trans hB HW.out.size
      have hle := builderLen_any B b bs w1 H2
      have hwr := writeString_any B b bs ⟨#[32, 45, 32]⟩ w1 H2 hlen hB1
      unfold BldPost at hwr
      clear x0 x1 hs H2 H1 HB1 h hd
      go_wp2_with fail
      refine hle.mono ?_
      rintro e w2 ⟨rfl, rfl⟩
      go_wp2_with fail
      refine hwr.mono ?_
      rintro e w3 ⟨rfl, h3, b3⟩
      go_wp2_with fail
      go_end0
      exact ⟨rfl, by rw [hdn.out]; exact h3, HW.out.trans b3⟩
    · have hdn := hide (show signB (decide (0 < bs.length)) (decide (Z < 0)) = [45] by rw [hd, show decide (0 < bs.length) = false by simpa using hn]; rfl)
      have hd2 : decide ((0 : Int) < (bs.length : Nat)) = false := by simpa using hn
      go_enter Tryz.func81, Tryz.ntmps81
      go_wp2_with fail
      refine hs.mono ?_
      rintro e w1 ⟨rfl, b1⟩
      have H2 := H1.out.below b1
      have HW := hide (HB1.out.trans (BW.of_below b1))
      have hB1 : B ≤ w1.heap.size := Nat.le_trans hB HW.out.size
      have hle := builderLen_any B b bs w1 H2
      have hwr := writeString_any B b bs ⟨#[45]⟩ w1 H2 (Nat.le_trans (show bs.length + 1 ≤ bs.length + 3 by omega) hlen) hB1
      unfold BldPost at hwr
      clear x0 x1 hs H2 H1 HB1 h hd
      go_wp2_with fail
      refine hle.mono ?_
      rintro e w2 ⟨rfl, rfl⟩
      go_wp2_with fail
      refine hle.mono ?_
      rintro e w2 ⟨rfl, rfl⟩
      go_wp2_with fail
      refine hwr.mono ?_
      rintro e w3 ⟨rfl, h3, b3⟩
      go_wp2_with fail
      go_end0
      exact ⟨rfl, by rw [hdn.out]; exact h3, HW.out.trans b3⟩
  · have hz1 : ¬ Z.sign < 0 := by
      intro hh
      exact hz (Int.sign_neg_iff.1 hh)
    have hd : decide (Z < 0) = false := by simpa using hz
    by_cases hn : 0 < bs.length
    · have hdn := hide (show signB (decide (0 < bs.length)) (decide (Z < 0)) = [32, 43, 32] by rw [hd, show decide (0 < bs.length) = true by simpa using hn]; rfl)
      have hd2 : decide ((0 : Int) < (bs.length : Nat)) = true := by simpa using hn
      go_enter Tryz.func81, Tryz.ntmps81
      go_wp2_with fail
      refine hs.mono ?_
      rintro e w1 ⟨rfl, b1⟩
      have H2 := H1.out.below b1
      have HW := hide (HB1.out.trans (BW.of_below b1))
      have hB1 : B ≤ w1.heap.size := Nat.le_trans hB HW.out.size
      have hle := builderLen_any B b bs w1 H2
      have hwr := writeString_any B b bs ⟨#[32, 43, 32]⟩ w1 H2 hlen hB1
      unfold BldPost at hwr
      clear x0 x1 hs H2 H1 HB1 h hd
      go_wp2_with fail
      refine hle.mono ?_
      rintro e w2 ⟨rfl, rfl⟩
      go_wp2_with fail
      refine hle.mono ?_
      rintro e w2 ⟨rfl, rfl⟩
      go_wp2_with fail
      refine hwr.mono ?_
      rintro e w3 ⟨rfl, h3, b3⟩
      go_wp2_with fail
      go_end0
      exact ⟨rfl, by rw [hdn.out]; exact h3, HW.out.trans b3⟩
    · have hdn := hide (show signB (decide (0 < bs.length)) (decide (Z < 0)) = [] by rw [hd, show decide (0 < bs.length) = false by simpa using hn]; rfl)
      have hd2 : decide ((0 : Int) < (bs.length : Nat)) = false := by simpa using hn
      go_enter Tryz.func81, Tryz.ntmps81
      go_wp2_with fail
      refine hs.mono ?_
      rintro e w1 ⟨rfl, b1⟩
      have H2 := hide (H1.out.below b1)
      have HW := hide (HB1.out.trans (BW.of_below b1))
      have hle := builderLen_any B b bs w1 H2.out
      clear x0 x1 hs H1 HB1 h hd
      go_wp2_with fail
      refine hle.mono ?_
      rintro e w2 ⟨rfl, rfl⟩
      go_wp2_with fail
      refine hle.mono ?_
      rintro e w2 ⟨rfl, rfl⟩
      go_wp2_with fail
      go_end0
      exact ⟨rfl, by rw [hdn.out]; simpa [Lib.byteCells] using H2.out, HW.out⟩
end Go.Proofs.YtakcgkohnomgjaaGreatDoor
/- term.Name. -/
namespace Go.Proofs.YtakcgkohnomgjaaGreatDoor
open Go.Shelf Go.RowKit

/-- The slice (A, n) reads as these strings. -/
def StrsIn (w : World) (A : Option Addr) (n : Nat) (ns : List ByteArray) : Prop := ns.length = n ∧ (0 < n → ∃ b o, A = some ⟨b, o, none⟩ ∧ ∀ j s, ns[j]? = some s → w.cell? ⟨b, o + j, none⟩ = some (.string s))
theorem StrsIn.below {w w' : World} {A : Option Addr} {n : Nat} {ns : List ByteArray} (h : StrsIn w A n ns) (hb : Below w.heap.size w w') : StrsIn w' A n ns := by
  refine ⟨h.1, fun hn => ?_⟩
  obtain ⟨b, o, e, hc⟩ := h.2 hn
  refine ⟨b, o, e, fun j u hu => ?_⟩
  have h1 := hc j u hu
  have hlt := World.block_lt_of_cell? w _ h1
  exact (World.cell?_of_block (w := w) (a := ⟨b, o + j, none⟩) (hb.block b hlt)).trans h1
def NamePost (s : ByteArray) (w : World) (e : Ending) (w' : World) : Prop := e = .returned (.string s) ∧ Below w.heap.size w w'
set_option maxRecDepth 100000 in
set_option maxHeartbeats 1000000 in
theorem name_in (A : Option Addr) (n c i : Nat) (ns : List ByteArray) (s : ByteArray) (w : World) (h : StrsIn w A n ns) (hn : n ≤ 9223372036854775807) (hi : ns[i]? = some s) : Calls Tryz.prog 47 #[.int .i64 i, .slice A n c] w (NamePost s w) := by
  have hin : i < n := by rw [← h.1]; exact (List.getElem?_eq_some_iff.1 hi).1
  obtain ⟨b, o, rfl, hc⟩ := h.2 (by omega)
  have c0 := hc i s hi
  clear h hc hi
  go_enter Tryz.func47, Tryz.ntmps47
  go_wp2_with fail
  go_ret
  exact ⟨rfl, Below.refl _ _⟩
theorem itoa_small (i : Nat) (hi : i < 100) (w : World) : Calls Tryz.prog 86 #[.int .i64 i] w (fun e w' => e = .returned (.string ⟨(Lib.decDigits i).toArray⟩) ∧ Below w.heap.size w w') := by
  refine (Any.strconv_Itoa_small Tryz.sItoa i hi w).mono ?_
  rintro e w' ⟨rfl, rfl⟩
  exact ⟨rfl, Below.refl _ _⟩
set_option maxRecDepth 100000 in
set_option maxHeartbeats 1000000 in
theorem name_three (w : World) : Calls Tryz.prog 47 #[.int .i64 3, .slice none 0 0] w (NamePost ⟨#[118, 51]⟩ w) := by
  have hi := itoa_small 3 (by decide) w
  rw [Lib.decDigits_one (by decide)] at hi
  go_enter Tryz.func47, Tryz.ntmps47
  go_wp2_with fail
  refine hi.mono ?_
  rintro e w1 ⟨rfl, b1⟩
  go_wp2_with fail
  go_ret
  exact ⟨rfl, b1⟩
end Go.Proofs.YtakcgkohnomgjaaGreatDoor
/- Rows of bytes: make. -/
namespace Go.Proofs.YtakcgkohnomgjaaGreatDoor
open Go.RowKit

def u8s (xs : List Nat) : List Value := xs.map fun (x : Nat) => Value.int .u8 (x : Int)
theorem u8s_length (xs : List Nat) : (u8s xs).length = xs.length := by simp [u8s]
theorem u8s_get (xs : List Nat) (i : Nat) (h : i < xs.length) : (u8s xs)[i]? = some (.int .u8 ((xs.getD i 0 : Nat) : Int)) := by
  simp [u8s, List.getElem?_map, List.getD_eq_getElem?_getD, List.getElem?_eq_getElem h]
theorem u8s_replicate (n : Nat) : u8s (List.replicate n 0) = List.replicate n (.int .u8 0) := by simp [u8s]
/-- Block g is a row of just the bytes zs. -/
def BRow (w : World) (g : Nat) (zs : List Nat) : Prop := w.heap[g]? = some (.cells (u8s zs).toArray 5 (0, 0))
theorem BRow.lt {w : World} {g : Nat} {zs : List Nat} (h : BRow w g zs) : g < w.heap.size := by
  rcases Nat.lt_or_ge g w.heap.size with hlt | hge
  · exact hlt
  · unfold BRow at h; rw [Array.getElem?_eq_none hge] at h; cases h
theorem BRow.cell {w : World} {g : Nat} {zs : List Nat} {i : Nat} (h : BRow w g zs) (hi : i < zs.length) : w.cell? ⟨g, i, none⟩ = some (.int .u8 ((zs.getD i 0 : Nat) : Int)) := by
  rw [cell_of_row w g i _ _ _ h, List.getElem?_toArray, u8s_get zs i hi]
theorem BRow.frozen {w : World} {g : Nat} {zs : List Nat} (h : BRow w g zs) (i : Nat) : w.frozen? ⟨g, i, none⟩ = false := by
  unfold BRow at h
  simp [World.frozen?, h]
theorem BRow.set_ {w : World} {g : Nat} {zs : List Nat} (h : BRow w g zs) (i v : Nat) : BRow (w.setCell ⟨g, i, none⟩ (.int .u8 (v : Int))) g (zs.set i v) := by
  unfold BRow at h ⊢
  simp [World.setCell, Array.getElem?_modify, h, u8s, List.map_set]
theorem BRow.keep {w w' : World} {g : Nat} {zs : List Nat} (h : BRow w g zs) (hk : w'.heap[g]? = w.heap[g]?) : BRow w' g zs := hk.trans h
theorem BRow.other {w w' : World} {g r : Nat} {zs : List Nat} (h : BRow w g zs) (ho : Only r w w') (hne : g ≠ r) : BRow w' g zs := h.keep (ho.block g h.lt (fun hh => hne (by injection hh)))

theorem u8_info : (Tryz.prog.info? 5).map (fun i => (i.zero, i.size, i.bytes)) = some (some (.int .u8 0), 1, 1) := by kernel_rfl
theorem BRow.made {w' : World} {g n : Nat} {base : Nat} (h : w'.ownsRow base 5 1 (.slice (some ⟨g, 0, none⟩) n n) n (madeCells (Value.int .u8 0).cells (n * 1)).toList) : BRow w' g (List.replicate n 0) ∧ base ≤ g := by
  obtain ⟨hl, hc⟩ := h
  rcases hc with ⟨h0, _⟩ | ⟨g', cap, cur, hv, hb, hh, h1, h2, h3, h4⟩
  · cases h0
  · injection hv with hv1 hv2 hv3
    injection hv1 with hv1
    injection hv1 with hv1
    subst hv1
    subst hv3
    have e : cur.toList = List.replicate n (.int .u8 0) := by
      have h5 : cur.toList.length = n * 1 := by simpa using h3
      rw [List.take_of_length_le (by omega)] at h4
      rw [h4, Nat.mul_one]
      exact toList_madeCells_one _ _
    refine ⟨?_, hb⟩
    unfold BRow
    rw [hh, u8s_replicate, ← e]
theorem wpList_make_u8 (w : World) {ops : Array Oper} {rest : List Oper} {o : Oper} {a : Act} {Q : Exit → Act → World → Prop} (hg : o.guard = none) (l c : Operand) (hop : o.op = Op.makeSlice 93 l c)
    (L : Int) (n : Nat) (hl : a.eval l = .int .i64 L) (hc : a.eval c = .int .i64 L) (hL : L = (n : Int)) (hn : n ≤ 35184372088832)
    (hK : ∀ w', BRow w' w.heap.size (List.replicate n 0) → Below w.heap.size w w' → w.heap.size < w'.heap.size → wpList Tryz.prog ops Q rest (a.put o.dst (.slice (some ⟨w.heap.size, 0, none⟩) n n)) w') :
    wpList Tryz.prog ops Q (o :: rest) a w := by
  obtain ⟨i0, hi0, hz0, hz1, hz2⟩ := info_parts u8_info
  refine wpList_make_full _ hg l c _ hop w.heap.size 5 i0 _ 1 Tryz.underlying93 hi0 hz0 hz1 .i64 .i64 L L n hl hc hL hL (by rw [hz2]; omega) (by unfold maxLen; omega) (Nat.le_refl _) ?_
  intro w' ho hgr
  have hr := (BRow.made (base := w.heap.size) ho).1
  exact hK w' hr ((Below.refl _ _).grown hgr (Nat.le_refl _) (fun k hk => by cases hk)) hr.lt
end Go.Proofs.YtakcgkohnomgjaaGreatDoor
