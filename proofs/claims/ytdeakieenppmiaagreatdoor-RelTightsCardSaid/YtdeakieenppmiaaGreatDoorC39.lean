/- Texts of one seat, put together: ShelfB Build WSign Name Bytes DecMath Scale Text DecB. -/
import Derived.Shelf.Strings.Builder1
import Derived.Shelf.Strconv.Itoa3
import Derived.Test.YtdeakieenppmiaaGreatDoorC02
import Derived.Test.YtdeakieenppmiaaGreatDoorC25
import Derived.Test.YtdeakieenppmiaaGreatDoorC22
import Derived.Test.YtdeakieenppmiaaGreatDoorC03
import Derived.Test.YtdeakieenppmiaaGreatDoorC01
import Derived.Test.YtdeakieenppmiaaGreatDoorC10
import Derived.Lib.Strings
import Derived.Laws.BytesArg
set_option linter.unusedVariables false
set_option linter.unusedSimpArgs false
set_option maxRecDepth 100000
set_option maxHeartbeats 16000000
/- strings.Builder.String and strconv.Itoa: the library's own contracts, laid at this program. -/
namespace Go.Proofs.YtdeakieenppmiaaGreatDoor
open Go.Shelf
def Tryz.bString_ren : Go.Shelf.Ren := ⟨fun | 169 => 111 | n => n, fun | 70 => 123 | 9 => 9 | 0 => 0 | 72 => 126 | 37 => 124 | 127 => 167 | 3 => 3 | 5 => 5 | n => n, fun | n => n⟩
theorem Tryz.bString : Go.Proofs.Lays.n169 Tryz.prog Tryz.bString_ren := {
 mixed := by kernel_rfl
 f169 := Tryz.func111.trans (congrArg some (by kernel_rfl))
 t0 := Tryz.underlying0
 a0 := Tryz.isAgg0
 z0 := Tryz.sizeOf0
 v0 := Tryz.zeroValue0
 t3 := Tryz.underlying3
 a3 := Tryz.isAgg3
 z3 := Tryz.sizeOf3
 v3 := Tryz.zeroValue3
 t9 := Tryz.underlying9
 a9 := Tryz.isAgg9
 z9 := Tryz.sizeOf9
 v9 := Tryz.zeroValue9
 t37 := Tryz.underlying124
 a37 := Tryz.isAgg124
 z37 := Tryz.sizeOf124
 v37 := Tryz.zeroValue124
 t70 := Tryz.underlying123
 a70 := Tryz.isAgg123
 z70 := Tryz.sizeOf123
 v70 := Tryz.zeroValue123
 t72 := Tryz.underlying126
 a72 := Tryz.isAgg126
 z72 := Tryz.sizeOf126
 v72 := Tryz.zeroValue126
 t127 := Tryz.underlying167
 a127 := Tryz.isAgg167
 z127 := Tryz.sizeOf167
 v127 := Tryz.zeroValue167 }
def Tryz.sItoa_ren : Go.Shelf.Ren := ⟨fun | 171 => 157 | 243 => 186 | 246 => 209 | 283 => 218 | 284 => 219 | 285 => 220 | 286 => 221 | 129 => 153 | 317 => 223 | 318 => 224 | 319 => 225 | 320 => 226 | 337 => 227 | 338 => 228 | n => n, fun | 3 => 3 | 9 => 9 | 2 => 2 | 4 => 4 | 171 => 211 | 0 => 0 | 53 => 110 | 37 => 124 | 5 => 5 | 173 => 213 | 212 => 218 | 51 => 92 | 20 => 20 | 213 => 219 | 46 => 120 | 232 => 220 | 233 => 221 | n => n, fun | 17 => 0 | 18 => 1 | 19 => 2 | n => n⟩
end Go.Proofs.YtdeakieenppmiaaGreatDoor
/- strings.Builder: copyCheck, WriteString, Len, String at a builder of the call's own. -/
namespace Go.Proofs.YtdeakieenppmiaaGreatDoor
open Go.Shelf Go.RowKit

theorem builder_size : (Tryz.prog.info? 126).map (·.size) = some 2 := by kernel_rfl
theorem builder_lies : liesAt Tryz.prog Tryz.prog.depth 126 (2 / Tryz.prog.cellsOf 126) 0 126 1 = true := by kernel_rfl
theorem copyCheck_used (b : Nat) (w : World) (h0 : w.cell? ⟨b, 0, none⟩ = some (.pointer (some ⟨b, 0, none⟩))) :
  Calls Tryz.prog 156 #[.pointer (some ⟨b, 0, none⟩)] w fun e w' => e = .returned (.tuple #[]) ∧ w' = w := by
 obtain ⟨j, hj, -⟩ := Option.map_eq_some_iff.1 builder_size
 have hne := fun w => Lib.run_neq_ptr_same (P := Tryz.prog) w ⟨b, 0, none⟩ Tryz.underlying123 hj
 clear hj
 go_enter Tryz.func156, Tryz.ntmps156
 go_wp2_with fail
 go_end0
 exact ⟨rfl, rfl⟩
theorem copyCheck_fresh (b : Nat) (w : World) (h0 : w.cell? ⟨b, 0, none⟩ = some (.pointer none)) (hsh : w.shape? b = some (126, 2)) (hfz : w.frozen? ⟨b, 0, none⟩ = false) :
  Calls Tryz.prog 156 #[.pointer (some ⟨b, 0, none⟩)] w fun e w' => e = .returned (.tuple #[]) ∧ w' = w.setCell ⟨b, 0, none⟩ (.pointer (some ⟨b, 0, none⟩)) := by
 obtain ⟨j, hj, hjs⟩ := Option.map_eq_some_iff.1 builder_size
 have hne := fun w => Lib.run_neq_ptr_same (P := Tryz.prog) w ⟨b, 0, none⟩ Tryz.underlying123 hj
 have hto := Lib.run_to_unsafe (P := Tryz.prog) w ⟨b, 0, none⟩ Tryz.underlying123 Tryz.underlying187 hj (by rw [hjs]; decide) hsh (Nat.zero_lt_succ 1)
 have hfrom := Lib.run_from_unsafe (P := Tryz.prog) w ⟨b, 0, none⟩ Tryz.underlying187 Tryz.underlying123 hj hsh builder_lies
 have hx := Lib.run_noEscape (P := Tryz.prog) w (.pointer (some ⟨b, 0, none⟩))
 have hcf := fun (args : Array Value) (w : World) => run_callFunc_extern (P := Tryz.prog) (w := w) (args := args) Tryz.func185 (by kernel_rfl) (by kernel_rfl) (by kernel_rfl) (e := Extern.AbiNoEscape.same) (by kernel_rfl)
 clear hj hjs
 go_enter Tryz.func156, Tryz.ntmps156
 go_wp2_with fail
 go_end0
 exact ⟨rfl, rfl⟩
/-- Block b is a builder of bytes bs; the row of its bytes lies at B or behind it. -/
def Bld (w : World) (B b : Nat) (bs : List Value) : Prop := ∃ p v, (p = .pointer none ∨ p = .pointer (some ⟨b, 0, none⟩)) ∧ Box 126 w b #[p, v] ∧ w.ownsRow B 5 1 v bs.length bs
/-- What writing into builder b leaves: all that lies below B, and every variable that is no row of bytes. -/
structure BW (B b : Nat) (w w' : World) : Prop where
 os : w'.os = w.os
 tape : w'.tape = w.tape
 output : w'.output = w.output
 size : w.heap.size ≤ w'.heap.size
 low : ∀ k, k < w.heap.size → k < B → k ≠ b → w'.heap[k]? = w.heap[k]?
 box : ∀ T g cs, T ≠ 5 → g ≠ b → Box T w g cs → Box T w' g cs
theorem BW.refl (B b : Nat) (w : World) : BW B b w w := ⟨rfl, rfl, rfl, Nat.le_refl _, fun _ _ _ _ => rfl, fun _ _ _ _ _ h => h⟩
theorem BW.trans {B b : Nat} {a c d : World} (h : BW B b a c) (k : BW B b c d) : BW B b a d :=
 ⟨k.os.trans h.os, k.tape.trans h.tape, k.output.trans h.output, Nat.le_trans h.size k.size, fun i h0 h1 h2 => (k.low i (Nat.lt_of_lt_of_le h0 h.size) h1 h2).trans (h.low i h0 h1 h2), fun T g cs h1 h2 x => k.box T g cs h1 h2 (h.box T g cs h1 h2 x)⟩
theorem BW.of_below {B b : Nat} {w w' : World} (h : Below w.heap.size w w') : BW B b w w' := ⟨h.os, h.tape, h.output, h.size, fun k hk _ _ => h.block k hk, fun _ _ _ _ _ x => x.next h⟩
theorem BW.of_only {B b : Nat} {w w' : World} (h : Only b w w') : BW B b w w' :=
 ⟨h.gb.os, h.gb.tape, h.gb.output, h.gb.size, fun k hk _ hne => h.gb.block k hk (fun e => hne (by injection e)), fun _ _ _ _ hne x => x.other h hne⟩
theorem BW.only {b : Nat} {w w' : World} (h : BW w.heap.size b w w') : Only b w w' := ⟨h.os, h.tape, h.output, h.size, fun k hk hne => h.low k hk hk (fun e => hne (by rw [e]))⟩
theorem BW.below {B b C : Nat} {w w' : World} (h : BW B b w w') (hC : C ≤ B) (hb : C ≤ b) (hw : C ≤ w.heap.size) : Below C w w' := ⟨h.os, h.tape, h.output, h.size, fun k hk => h.low k (by omega) (by omega) (by omega)⟩
theorem byte_info : (Tryz.prog.info? 5).map (fun i => (i.zero, i.size, i.bytes)) = some (some (.int .u8 0), 1, 1) := by kernel_rfl
theorem own_grown {w w' : World} {B : Nat} {T : TypeId} {v : Value} {n g : Nat} {xs : List Value} {cs : Array Value} (hT : T ≠ 5) (hown : w.ownsRow B 5 1 v n xs) (hg : w.grownBy w' v.ownBlock) (x : Box T w g cs) : Box T w' g cs :=
 x.grown hg (fun e => Lib.ownBlock_ne hown x hT e.symm)
theorem Bld.fresh {w : World} {B b : Nat} (h : Box 126 w b #[.pointer none, .slice none 0 0]) : Bld w B b [] := ⟨_, _, .inl rfl, h, World.ownsRow_nil _ _ _ _⟩
theorem Bld.below {w w' : World} {B b : Nat} {bs : List Value} (h : Bld w B b bs) (hb : Below w.heap.size w w') : Bld w' B b bs := by
 obtain ⟨p, v, hp, x, ho⟩ := h
 refine ⟨p, v, hp, x.next hb, ho.kept (row := none) ⟨hb.os, hb.tape, hb.output, hb.size, fun k hk _ => hb.block k hk⟩ ?_⟩
 rcases ho.2 with ⟨rfl, _⟩ | ⟨g, cap, cur, rfl, _⟩
 · exact .inl rfl
 · exact .inr (by simp [Value.ownBlock])
def BldPost (r : Value) (B b : Nat) (bs : List Value) (w : World) (e : Ending) (w' : World) : Prop := e = .returned r ∧ Bld w' B b bs ∧ BW B b w w'
theorem bld_ne {w : World} {B b n : Nat} {v p q : Value} {xs : List Value} (ho : w.ownsRow B 5 1 v n xs) (x : Box 126 w b #[p, q]) : v.ownBlock ≠ some b := Lib.ownBlock_ne ho x (by decide)
theorem own_slice {w : World} {B n : Nat} {v : Value} {xs : List Value} (ho : w.ownsRow B 5 1 v n xs) : ∃ ao m cap, v = .slice ao m cap := by
 rcases ho.2 with ⟨rfl, _⟩ | ⟨g, cap, cur, rfl, _⟩
 · exact ⟨_, _, _, rfl⟩
 · exact ⟨_, _, _, rfl⟩
theorem bset0 {w : World} {b : Nat} {p q : Value} (x : Box 126 w b #[p, q]) (y : Value) : Box 126 (w.setCell ⟨b, 0, none⟩ y) b #[y, q] := by
 unfold Box at x ⊢
 simp [World.setCell, Array.getElem?_modify, x]
theorem bset1 {w : World} {b : Nat} {p q : Value} (x : Box 126 w b #[p, q]) (y : Value) : Box 126 (w.setCell ⟨b, 1, none⟩ y) b #[p, y] := by
 unfold Box at x ⊢
 simp [World.setCell, Array.getElem?_modify, x]
/-- Behind copyCheck: used. -/
theorem copyCheck_any (B b : Nat) (bs : List Value) (w : World) (h : Bld w B b bs) : Calls Tryz.prog 156 #[.pointer (some ⟨b, 0, none⟩)] w fun e w' => e = .returned (.tuple #[]) ∧ (∃ v, Box 126 w' b #[.pointer (some ⟨b, 0, none⟩), v] ∧ w'.ownsRow B 5 1 v bs.length bs) ∧ BW B b w w' := by
 obtain ⟨p, v, rfl | rfl, x, ho⟩ := h
 · refine (copyCheck_fresh b w (x.cell 0 _ rfl) (by unfold Box at x; simp [World.shape?, x]) (x.fr 0)).mono ?_
   rintro e w' ⟨rfl, rfl⟩
   exact ⟨rfl, ⟨v, bset0 x _, ho.kept (row := some b) (only_set1 w b 0 _) (.inr (bld_ne ho x))⟩, BW.of_only (only_set1 w b 0 _)⟩
 · refine (copyCheck_used b w (x.cell 0 _ rfl)).mono ?_
   rintro e w' ⟨rfl, rfl⟩
   exact ⟨rfl, ⟨v, x, ho⟩, BW.refl _ _ _⟩
theorem writeString_any (B b : Nat) (bs : List Value) (s : ByteArray) (w : World) (h : Bld w B b bs) (hlen : bs.length + s.size ≤ 140737488355328) (hBw : B ≤ w.heap.size) :
  Calls Tryz.prog 109 #[.pointer (some ⟨b, 0, none⟩), .string s] w (BldPost (.tuple #[.int .i64 s.size, .nilIface]) B b (bs ++ Lib.strCells s) w) := by
 have hc := copyCheck_any B b bs w h
 obtain ⟨i0, hi, hz0, hz1, hz2⟩ := info_parts byte_info
 clear h
 go_enter Tryz.func109, Tryz.ntmps109
 go_wp2_with fail
 refine hc.mono ?_
 rintro e w1 ⟨rfl, ⟨v, x, ho⟩, b1⟩
 have c1 : w1.cell? ⟨b, 1, none⟩ = some v := x.cell 1 _ rfl
 have hB1 : B ≤ w1.heap.size := Nat.le_trans hBw b1.size
 have h63 : bs.length + s.size ≤ maxLen := by unfold maxLen; omega
 have X := hide x
 have HB1 := hide b1
 clear x b1 hc
 go_wp2_with (at_builtin; refine Lib.wpList_append_own_string _ rfl _ _ 124 9 rfl B 5 i0 Tryz.underlying124 Tryz.underlying9 hi hz0 hz1 hz2 v bs.length bs rfl ho s rfl h63 hlen hB1 ?_; intro v2 w2 ho2 g2 hnil; clear hnil; obtain ⟨ao2, n2, cap2, rfl⟩ := own_slice ho2; have y := own_grown (by decide) ho g2 X.out; have u0 : w2.cell? ⟨b, 1, none⟩ = some v := y.cell 1 _ rfl; have u1 := y.fr 1; have hb2 := hide (HB1.out.trans ⟨g2.os, g2.tape, g2.output, g2.size, fun k h0 hk hne => g2.block k h0 (fun e => by have := (ho.lt k e.symm).1; omega), fun T g cs hT hne z => own_grown hT ho g2 z⟩); have Y := hide y; have HO2 := hide ho2; clear y ho2 g2)

 go_ret2
 refine ⟨rfl, ⟨_, .slice ao2 n2 cap2, .inr rfl, bset1 Y.out _, ?_⟩, hb2.out.trans (BW.of_only (only_set1 w2 b 1 _))⟩
 rw [List.length_append, Lib.strCells_length]
 exact HO2.out.kept (row := some b) (only_set1 w2 b 1 _) (.inr (bld_ne HO2.out Y.out))
theorem builderLen_any (B b : Nat) (bs : List Value) (w : World) (h : Bld w B b bs) : Calls Tryz.prog 154 #[.pointer (some ⟨b, 0, none⟩)] w (fun e w' => e = .returned (.int .i64 (bs.length : Nat)) ∧ w' = w) := by
 obtain ⟨p, v, -, x, ho⟩ := h
 obtain ⟨ao, cap, hv⟩ : ∃ ao cap, v = .slice ao bs.length cap := by
  rcases ho.2 with ⟨rfl, h0⟩ | ⟨g, cap, cur, rfl, _⟩
  · exact ⟨none, 0, by rw [h0]⟩
  · exact ⟨_, _, rfl⟩
 subst hv
 have c1 : w.cell? ⟨b, 1, none⟩ = some (.slice ao bs.length cap) := x.cell 1 _ rfl
 clear ho
 go_enter Tryz.func154, Tryz.ntmps154
 go_wp2_with fail
 go_ret
 exact ⟨rfl, rfl⟩
theorem builder_extra : Builder.Extra Tryz.prog Tryz.bString_ren := { sizeBuilder := builder_size, liesBuilder := builder_lies, t5 := Tryz.underlying5, a5 := Tryz.isAgg5, z5 := Tryz.sizeOf5, v5 := Tryz.zeroValue5, infoByte := byte_info, cellsByte := by kernel_rfl, sizeByte := by kernel_rfl, neB5 := by decide }
theorem builderString_any (B C b : Nat) (l : List UInt8) (w : World) (h : Bld w B b (Lib.byteCells l)) (hC : C ≤ B) (hCb : C ≤ b) (hw : C ≤ w.heap.size) : Calls Tryz.prog 111 #[.pointer (some ⟨b, 0, none⟩)] w (fun e w' => e = .returned (.string ⟨l.toArray⟩) ∧ Below C w w') := by
 obtain ⟨p, v, hp, x, ho⟩ := h
 have ho' : w.ownsRow C 5 1 v (Lib.byteCells l).length (Lib.byteCells l) := by
  refine ⟨ho.1, ?_⟩
  rcases ho.2 with h0 | ⟨g, cap, cur, h1, h2, h3⟩
  · exact .inl h0
  · exact .inr ⟨g, cap, cur, h1, Nat.le_trans hC h2, h3⟩
 have hb : Lib.IsBuilder (Tryz.bString_ren.t 72) (Tryz.bString_ren.t 5) C b (Lib.byteCells l) w := by
  rcases hp with rfl | rfl
  · exact Or.inl ⟨hCb, v, x, ho', bld_ne ho x⟩
  · exact Or.inr ⟨hCb, v, x, ho', bld_ne ho x⟩
 exact (Any.Builder_String_any Tryz.bString builder_extra C b l w hb hw).mono (fun e w' ⟨h1, h2⟩ => ⟨h1, h2⟩)
end Go.Proofs.YtdeakieenppmiaaGreatDoor
/- term.writeSign, Name. -/
namespace Go.Proofs.YtdeakieenppmiaaGreatDoor
open Go.Shelf Go.RowKit

/-- What stands ahead of a summand. -/
def signB : Bool → Bool → List UInt8
 | true, true => [32, 45, 32]
 | true, false => [32, 43, 32]
 | false, true => [45]
 | false, false => []
theorem writeSign_any (B b : Nat) (bs : List Value) (v : Value) (Z : Int) (k : Nat) (w : World) (h : Bld w B b bs) (hv : ZIn w v Z k) (hk : k ≤ 1099511627776) (hlen : bs.length + 3 ≤ 140737488355328) (hB : B ≤ w.heap.size) :
   Calls Tryz.prog 106 #[.pointer (some ⟨b, 0, none⟩), v] w (BldPost (.tuple #[]) B b (bs ++ Lib.byteCells (signB (decide (0 < bs.length)) (decide (Z < 0)))) w) := by
 have hv0 := hv
 obtain ⟨s, A, n, c, xs, rfl, -⟩ := hv
 obtain ⟨z0, z1, -⟩ := zstart1 w #[.bool s, .slice A n c]
 have hs := sign_z _ Z k _ (hv0.below z1) hk
 unfold SignPost at hs
 have H1 := hide (h.below z1)
 have HB1 := hide (BW.of_below (B := B) (b := b) z1)
 have x0 := Blk.c0 z0
 have x1 := Blk.c1 z0
 clear hv0 z0 z1
 by_cases hz : Z < 0
 · have hz1 : Z.sign < 0 := by rw [Int.sign_eq_neg_one_of_neg hz]; decide
   have hd : decide (Z < 0) = true := by simpa using hz
   by_cases hn : 0 < bs.length
   · have hdn := hide (show signB (decide (0 < bs.length)) (decide (Z < 0)) = [32, 45, 32] by rw [hd, show decide (0 < bs.length) = true by simpa using hn]; rfl)
     have hd2 : decide ((0 : Int) < (bs.length : Nat)) = true := by simpa using hn
     go_enter Tryz.func106, Tryz.ntmps106
     go_wp2_with fail
     refine hs.mono ?_
     rintro e w1 ⟨rfl, b1⟩
     have H2 := H1.out.below b1
     have HW := hide (HB1.out.trans (BW.of_below b1))
     have hB1 : B ≤ w1.heap.size := Nat.le_trans hB HW.out.size
     have hle := builderLen_any B b bs w1 H2
     have hwr := writeString_any B b bs ⟨#[32, 45, 32]⟩ w1 H2 hlen hB1
     unfold BldPost at hwr
     clear x0 x1 hs H2 H1 HB1 h hd
     go_wp2_with fail
     refine hle.mono ?_
     rintro e w2 ⟨rfl, rfl⟩
     go_wp2_with fail
     refine hwr.mono ?_
     rintro e w3 ⟨rfl, h3, b3⟩
     go_wp2_with fail
     go_end0
     exact ⟨rfl, by rw [hdn.out]; exact h3, HW.out.trans b3⟩
   · have hdn := hide (show signB (decide (0 < bs.length)) (decide (Z < 0)) = [45] by rw [hd, show decide (0 < bs.length) = false by simpa using hn]; rfl)
     have hd2 : decide ((0 : Int) < (bs.length : Nat)) = false := by simpa using hn
     go_enter Tryz.func106, Tryz.ntmps106
     go_wp2_with fail
     refine hs.mono ?_
     rintro e w1 ⟨rfl, b1⟩
     have H2 := H1.out.below b1
     have HW := hide (HB1.out.trans (BW.of_below b1))
     have hB1 : B ≤ w1.heap.size := Nat.le_trans hB HW.out.size
     have hle := builderLen_any B b bs w1 H2
     have hwr := writeString_any B b bs ⟨#[45]⟩ w1 H2 (Nat.le_trans (show bs.length + 1 ≤ bs.length + 3 by omega) hlen) hB1
     unfold BldPost at hwr
     clear x0 x1 hs H2 H1 HB1 h hd
     go_wp2_with fail
     refine hle.mono ?_
     rintro e w2 ⟨rfl, rfl⟩
     go_wp2_with fail
     refine hle.mono ?_
     rintro e w2 ⟨rfl, rfl⟩
     go_wp2_with fail
     refine hwr.mono ?_
     rintro e w3 ⟨rfl, h3, b3⟩
     go_wp2_with fail
     go_end0
     exact ⟨rfl, by rw [hdn.out]; exact h3, HW.out.trans b3⟩
 · have hz1 : ¬ Z.sign < 0 := by
     intro hh
     exact hz (Int.sign_neg_iff.1 hh)
   have hd : decide (Z < 0) = false := by simpa using hz
   by_cases hn : 0 < bs.length
   · have hdn := hide (show signB (decide (0 < bs.length)) (decide (Z < 0)) = [32, 43, 32] by rw [hd, show decide (0 < bs.length) = true by simpa using hn]; rfl)
     have hd2 : decide ((0 : Int) < (bs.length : Nat)) = true := by simpa using hn
     go_enter Tryz.func106, Tryz.ntmps106
     go_wp2_with fail
     refine hs.mono ?_
     rintro e w1 ⟨rfl, b1⟩
     have H2 := H1.out.below b1
     have HW := hide (HB1.out.trans (BW.of_below b1))
     have hB1 : B ≤ w1.heap.size := Nat.le_trans hB HW.out.size
     have hle := builderLen_any B b bs w1 H2
     have hwr := writeString_any B b bs ⟨#[32, 43, 32]⟩ w1 H2 hlen hB1
     unfold BldPost at hwr
     clear x0 x1 hs H2 H1 HB1 h hd
     go_wp2_with fail
     refine hle.mono ?_
     rintro e w2 ⟨rfl, rfl⟩
     go_wp2_with fail
     refine hle.mono ?_
     rintro e w2 ⟨rfl, rfl⟩
     go_wp2_with fail
     refine hwr.mono ?_
     rintro e w3 ⟨rfl, h3, b3⟩
     go_wp2_with fail
     go_end0
     exact ⟨rfl, by rw [hdn.out]; exact h3, HW.out.trans b3⟩
   · have hdn := hide (show signB (decide (0 < bs.length)) (decide (Z < 0)) = [] by rw [hd, show decide (0 < bs.length) = false by simpa using hn]; rfl)
     have hd2 : decide ((0 : Int) < (bs.length : Nat)) = false := by simpa using hn
     go_enter Tryz.func106, Tryz.ntmps106
     go_wp2_with fail
     refine hs.mono ?_
     rintro e w1 ⟨rfl, b1⟩
     have H2 := hide (H1.out.below b1)
     have HW := hide (HB1.out.trans (BW.of_below b1))
     have hle := builderLen_any B b bs w1 H2.out
     clear x0 x1 hs H1 HB1 h hd
     go_wp2_with fail
     refine hle.mono ?_
     rintro e w2 ⟨rfl, rfl⟩
     go_wp2_with fail
     refine hle.mono ?_
     rintro e w2 ⟨rfl, rfl⟩
     go_wp2_with fail
     go_end0
     exact ⟨rfl, by rw [hdn.out]; simpa [Lib.byteCells] using H2.out, HW.out⟩
end Go.Proofs.YtdeakieenppmiaaGreatDoor
/- term.Name. -/
namespace Go.Proofs.YtdeakieenppmiaaGreatDoor
open Go.Shelf Go.RowKit

/-- The slice (A, n) reads as these strings. -/
def StrsIn (w : World) (A : Option Addr) (n : Nat) (ns : List ByteArray) : Prop := ns.length = n ∧ (0 < n → ∃ b o, A = some ⟨b, o, none⟩ ∧ ∀ j s, ns[j]? = some s → w.cell? ⟨b, o + j, none⟩ = some (.string s))
def NamePost (s : ByteArray) (w : World) (e : Ending) (w' : World) : Prop := e = .returned (.string s) ∧ Below w.heap.size w w'
theorem name_in (A : Option Addr) (n c i : Nat) (ns : List ByteArray) (s : ByteArray) (w : World) (h : StrsIn w A n ns) (hn : n ≤ 9223372036854775807) (hi : ns[i]? = some s) : Calls Tryz.prog 110 #[.int .i64 i, .slice A n c] w (NamePost s w) := by
 have hin : i < n := by rw [← h.1]; exact (List.getElem?_eq_some_iff.1 hi).1
 obtain ⟨b, o, rfl, hc⟩ := h.2 (by omega)
 have c0 := hc i s hi
 clear h hc hi
 go_enter Tryz.func110, Tryz.ntmps110
 go_wp2_with fail
 go_ret
 exact ⟨rfl, Below.refl _ _⟩
end Go.Proofs.YtdeakieenppmiaaGreatDoor
/- Rows of bytes: make. -/
namespace Go.Proofs.YtdeakieenppmiaaGreatDoor
open Go.RowKit

def u8s (xs : List Nat) : List Value := xs.map fun (x : Nat) => Value.int .u8 (x : Int)
theorem u8s_get (xs : List Nat) (i : Nat) (h : i < xs.length) : (u8s xs)[i]? = some (.int .u8 ((xs.getD i 0 : Nat) : Int)) := by
 simp [u8s, List.getElem?_map, List.getD_eq_getElem?_getD, List.getElem?_eq_getElem h]
theorem u8s_replicate (n : Nat) : u8s (List.replicate n 0) = List.replicate n (.int .u8 0) := by simp [u8s]
/-- Block g is a row of just the bytes zs. -/
def BRow (w : World) (g : Nat) (zs : List Nat) : Prop := w.heap[g]? = some (.cells (u8s zs).toArray 5 (0, 0))
theorem BRow.lt {w : World} {g : Nat} {zs : List Nat} (h : BRow w g zs) : g < w.heap.size := by
 rcases Nat.lt_or_ge g w.heap.size with hlt | hge
 · exact hlt
 · unfold BRow at h; rw [Array.getElem?_eq_none hge] at h; cases h
theorem BRow.cell {w : World} {g : Nat} {zs : List Nat} {i : Nat} (h : BRow w g zs) (hi : i < zs.length) : w.cell? ⟨g, i, none⟩ = some (.int .u8 ((zs.getD i 0 : Nat) : Int)) := by
 rw [cell_of_row w g i _ _ _ h, List.getElem?_toArray, u8s_get zs i hi]
theorem BRow.frozen {w : World} {g : Nat} {zs : List Nat} (h : BRow w g zs) (i : Nat) : w.frozen? ⟨g, i, none⟩ = false := by
 unfold BRow at h
 simp [World.frozen?, h]
theorem BRow.set_ {w : World} {g : Nat} {zs : List Nat} (h : BRow w g zs) (i v : Nat) : BRow (w.setCell ⟨g, i, none⟩ (.int .u8 (v : Int))) g (zs.set i v) := by
 unfold BRow at h ⊢
 simp [World.setCell, Array.getElem?_modify, h, u8s, List.map_set]
theorem BRow.keep {w w' : World} {g : Nat} {zs : List Nat} (h : BRow w g zs) (hk : w'.heap[g]? = w.heap[g]?) : BRow w' g zs := hk.trans h
theorem BRow.other {w w' : World} {g r : Nat} {zs : List Nat} (h : BRow w g zs) (ho : Only r w w') (hne : g ≠ r) : BRow w' g zs := h.keep (ho.block g h.lt (fun hh => hne (by injection hh)))

theorem u8_info : (Tryz.prog.info? 5).map (fun i => (i.zero, i.size, i.bytes)) = some (some (.int .u8 0), 1, 1) := by kernel_rfl
theorem BRow.made {w' : World} {g n : Nat} {base : Nat} (h : w'.ownsRow base 5 1 (.slice (some ⟨g, 0, none⟩) n n) n (madeCells (Value.int .u8 0).cells (n * 1)).toList) : BRow w' g (List.replicate n 0) ∧ base ≤ g := by
 obtain ⟨hl, hc⟩ := h
 rcases hc with ⟨h0, _⟩ | ⟨g', cap, cur, hv, hb, hh, h1, h2, h3, h4⟩
 · cases h0
 · injection hv with hv1 hv2 hv3
   injection hv1 with hv1
   injection hv1 with hv1
   subst hv1
   subst hv3
   have e : cur.toList = List.replicate n (.int .u8 0) := by
    have h5 : cur.toList.length = n * 1 := by simpa using h3
    rw [List.take_of_length_le (by omega)] at h4
    rw [h4, Nat.mul_one]
    exact toList_madeCells_one _ _
   refine ⟨?_, hb⟩
   unfold BRow
   rw [hh, u8s_replicate, ← e]
theorem wpList_make_u8 (w : World) {ops : Array Oper} {rest : List Oper} {o : Oper} {a : Act} {Q : Exit → Act → World → Prop} (hg : o.guard = none) (l c : Operand) (hop : o.op = Op.makeSlice 124 l c)
  (L : Int) (n : Nat) (hl : a.eval l = .int .i64 L) (hc : a.eval c = .int .i64 L) (hL : L = (n : Int)) (hn : n ≤ 35184372088832)
  (hK : ∀ w', BRow w' w.heap.size (List.replicate n 0) → Below w.heap.size w w' → w.heap.size < w'.heap.size → wpList Tryz.prog ops Q rest (a.put o.dst (.slice (some ⟨w.heap.size, 0, none⟩) n n)) w') :
  wpList Tryz.prog ops Q (o :: rest) a w := by
 obtain ⟨i0, hi0, hz0, hz1, hz2⟩ := info_parts u8_info
 refine wpList_make_full _ hg l c _ hop w.heap.size 5 i0 _ 1 Tryz.underlying124 hi0 hz0 hz1 .i64 .i64 L L n hl hc hL hL (by rw [hz2]; omega) (by unfold maxLen; omega) (Nat.le_refl _) ?_
 intro w' ho hgr
 have hr := (BRow.made (base := w.heap.size) ho).1
 exact hK w' hr ((Below.refl _ _).grown hgr (Nat.le_refl _) (fun k hk => by cases hk)) hr.lt
end Go.Proofs.YtdeakieenppmiaaGreatDoor
/- Decimal digits of plain numbers. -/
namespace Go.Proofs.YtdeakieenppmiaaGreatDoor.Dec

/-- The lowest k decimal digits of N as bytes, the highest first. -/
def low (N : Nat) : Nat → List Nat
 | 0 => []
 | k + 1 => (48 + N / 10 ^ k % 10) :: low N k
theorem low_length (N k : Nat) : (low N k).length = k := by
 induction k with
 | zero => rfl
 | succ k ih => simp [low, ih]
theorem low_get (N k i : Nat) (h : i < k) : (low N k).getD i 0 = 48 + N / 10 ^ (k - 1 - i) % 10 := by
 induction k generalizing i with
 | zero => omega
 | succ k ih =>
  cases i with
  | zero => simp [low]
  | succ i =>
   have := ih i (by omega)
   have e : k + 1 - 1 - (i + 1) = k - 1 - i := by omega
   rw [e, ← this]
   simp [low]
theorem low_drop (N k j : Nat) (h : j ≤ k) : (low N k).drop j = low N (k - j) := by
 induction j generalizing k with
 | zero => simp
 | succ j ih =>
  obtain ⟨i, rfl⟩ : ∃ i, k = i + 1 := ⟨k - 1, by omega⟩
  have e : i + 1 - (j + 1) = i - j := by omega
  rw [low, List.drop_succ_cons, ih i (by omega), e]
/-- N has k decimal digits (0 has one). -/
def IsLen (N k : Nat) : Prop := 1 ≤ k ∧ N < 10 ^ k ∧ (k = 1 ∨ 10 ^ (k - 1) ≤ N)
/-- The number of the first i digits. -/
def upto (d : Nat → Nat) : Nat → Nat
 | 0 => 0
 | i + 1 => upto d i * 10 + d i
theorem upto_lt (d : Nat → Nat) (i : Nat) (h : ∀ j, j < i → d j ≤ 9) : upto d i < 10 ^ i := by
 induction i with
 | zero => simp [upto]
 | succ i ih =>
  have h1 := ih (fun j hj => h j (by omega))
  have h2 := h i (by omega)
  rw [upto, Nat.pow_succ]
  omega
theorem digits_room (N m k : Nat) (hN : N < 4294967296 ^ m) (h : 10 ^ k ≤ N) : k < 10 * m := by
 rcases Nat.lt_or_ge k (10 * m) with h1 | h1
 · exact h1
 · have h2 : 10 ^ (10 * m) ≤ 10 ^ k := Nat.pow_le_pow_right (by omega) h1
   have h3 : 4294967296 ^ m ≤ 10 ^ (10 * m) := by
    rw [Nat.pow_mul]
    exact Nat.pow_le_pow_left (by omega) m
   omega
end Go.Proofs.YtdeakieenppmiaaGreatDoor.Dec
/- nat.scale, nat.allDigits. -/
namespace Go.Proofs.YtdeakieenppmiaaGreatDoor
open Go.RowKit
open Limb (limb limb_lt upto upto_succ upto_all upto_zero)

def ScRel (g f p : Nat) (zs : List Nat) (w : World) (k c : Nat) (wr : World) : Prop :=
 ∃ cur : List Nat, cur.length = zs.length ∧ Limb.Ok cur ∧ Row wr g cur ∧ Only g w wr ∧ (∀ t, k ≤ t → limb cur t = limb zs t) ∧ upto cur k + 4294967296 ^ k * c = upto zs k * f + p
def ScPost (g f p : Nat) (zs : List Nat) (w : World) (e : Ending) (w' : World) : Prop :=
 ∃ (cur : List Nat) (cy : Nat), e = .returned (.tuple #[]) ∧ cur.length = zs.length ∧ Limb.Ok cur ∧ Row w' g cur ∧ Only g w w' ∧ Hid (Limb.val cur + 4294967296 ^ zs.length * cy = Limb.val zs * f + p)

/-- Byte i of a text. -/
def byteAt (s : ByteArray) (i : Nat) : Nat := if h : i < s.size then (s[i]'h).toNat else 0
def allDig (s : ByteArray) : Prop := ∀ i, i < s.size → 48 ≤ byteAt s i ∧ byteAt s i ≤ 57
end Go.Proofs.YtdeakieenppmiaaGreatDoor
/- nat.Text. -/
namespace Go.Proofs.YtdeakieenppmiaaGreatDoor
open Go.RowKit
open Limb (limb limb_lt upto upto_succ upto_all upto_zero)

/-- What stands in the text's row while its last d places hold the lowest d digits of N. -/
def TxRel (gT T N d : Nat) (wr : World) : Prop := ∃ bs : List Nat, bs.length = T ∧ d ≤ T ∧ BRow wr gT bs ∧ bs.drop (T - d) = Dec.low N d
theorem TxRel.step {gT T N d : Nat} {wr : World} (h : TxRel gT T N d wr) (hd : d + 1 ≤ T) : TxRel gT T N (d + 1) (wr.setCell ⟨gT, T - (d + 1), none⟩ (.int .u8 ((48 + N / 10 ^ d % 10 : Nat) : Int))) := by
 obtain ⟨bs, hl, hd0, hr, hv⟩ := h
 refine ⟨bs.set (T - (d + 1)) (48 + N / 10 ^ d % 10), by simp [hl], hd, hr.set_ _ _, ?_⟩
 have hlt : T - (d + 1) < (bs.set (T - (d + 1)) (48 + N / 10 ^ d % 10)).length := by simp [hl]; omega
 rw [List.drop_eq_getElem_cons hlt, List.getElem_set_self, Dec.low]
 congr 1
 have e : T - (d + 1) + 1 = T - d := by omega
 rw [e, List.drop_set_of_lt (by omega), hv]
theorem TxRel.cell {gT T N d : Nat} {wr : World} (h : TxRel gT T N d wr) (i : Nat) (hi : i < T) : ∃ b : Nat, wr.cell? ⟨gT, i, none⟩ = some (.int .u8 (b : Int)) ∧ wr.frozen? ⟨gT, i, none⟩ = false := by
 obtain ⟨bs, hl, hd0, hr, hv⟩ := h
 exact ⟨_, hr.cell (by omega), hr.frozen i⟩
theorem TxRel.digit {gT T N d : Nat} {wr : World} (h : TxRel gT T N d wr) (j : Nat) (hj : j < d) : wr.cell? ⟨gT, T - (j + 1), none⟩ = some (.int .u8 ((48 + N / 10 ^ j % 10 : Nat) : Int)) := by
 obtain ⟨bs, hl, hd0, hr, hv⟩ := h
 rw [hr.cell (by omega)]
 have h1 : bs.getD (T - (j + 1)) 0 = (bs.drop (T - d)).getD (d - (j + 1)) 0 := by
  have e : T - d + (d - (j + 1)) = T - (j + 1) := by omega
  simp [List.getD_eq_getElem?_getD, List.getElem?_drop, e]
 rw [h1, hv, Dec.low_get N d _ (by omega)]
 have e2 : d - 1 - (d - (j + 1)) = j := by omega
 rw [e2]
end Go.Proofs.YtdeakieenppmiaaGreatDoor
/- The text of a plain number in decimal digits. -/
namespace Go.Proofs.YtdeakieenppmiaaGreatDoor.Dec

def dlen (N : Nat) : Nat := if h : N < 10 then 1 else dlen (N / 10) + 1
termination_by N
decreasing_by omega
theorem dlen_pos (N : Nat) : 1 ≤ dlen N := by rw [dlen]; split <;> omega
theorem dlen_is (N : Nat) : IsLen N (dlen N) := by
 induction N using Nat.strongRecOn with
 | _ N ih =>
  rw [dlen]
  split
  · rename_i h
    exact ⟨Nat.le_refl _, by simpa using h, Or.inl rfl⟩
  · rename_i h
    obtain ⟨h1, h2, h3⟩ := ih (N / 10) (by omega)
    refine ⟨by omega, ?_, Or.inr ?_⟩
    · rw [Nat.pow_succ]; omega
    · rw [Nat.add_sub_cancel]
      rcases h3 with h3 | h3
      · rw [h3]; omega
      · obtain ⟨k, hk⟩ : ∃ k, dlen (N / 10) = k + 1 := ⟨dlen (N / 10) - 1, by omega⟩
        rw [hk] at h3 ⊢
        rw [Nat.add_sub_cancel] at h3
        rw [Nat.pow_succ]; omega
/-- The first digit of a number that isn't 0. -/
theorem top_digit (N k : Nat) (h : IsLen N k) (h0 : N ≠ 0) : N / 10 ^ (k - 1) % 10 ≠ 0 := by
 obtain ⟨h1, h2, h3⟩ := h
 obtain ⟨j, rfl⟩ : ∃ j, k = j + 1 := ⟨k - 1, by omega⟩
 rw [Nat.add_sub_cancel] at h3 ⊢
 rw [Nat.pow_succ] at h2
 have hp : 0 < 10 ^ j := Nat.pow_pos (by omega)
 have h4 : N / 10 ^ j < 10 := Nat.div_lt_of_lt_mul (by omega)
 have h5 : 1 ≤ N / 10 ^ j := by
  rcases h3 with h3 | h3
  · have : j = 0 := by omega
    subst this
    simp; omega
  · exact (Nat.le_div_iff_mul_le hp).2 (by omega)
 omega
theorem digit_beyond (N k j : Nat) (h : N < 10 ^ k) (hj : k ≤ j) : N / 10 ^ j % 10 = 0 := by
 rw [Nat.div_eq_of_lt (Nat.lt_of_lt_of_le h (Nat.pow_le_pow_right (by omega) hj))]
/-- A digit of a group of nine. -/
theorem group_digit (N i j : Nat) (hj : j < 9) : N / 10 ^ (9 * i) % 1000000000 / 10 ^ j % 10 = N / 10 ^ (9 * i + j) % 10 := by
 have e : (1000000000 : Nat) = 10 ^ j * 10 ^ (9 - j) := by rw [← Nat.pow_add, show j + (9 - j) = 9 by omega]
 rw [e, Nat.mod_mul_right_div_self, Nat.div_div_eq_div_mul, ← Nat.pow_add]
 obtain ⟨k, hk⟩ : ∃ k, 9 - j = k + 1 := ⟨8 - j, by omega⟩
 rw [hk, Nat.pow_succ, Nat.mul_comm (10 ^ k) 10, Nat.mod_mul_right_mod]
def str (xs : List Nat) : ByteArray := strOfNums (xs.map fun (x : Nat) => (x : Int))
theorem str_size (xs : List Nat) : (str xs).size = xs.length := by rw [str, strOfNums_size, List.length_map]
/-- The text of N. -/
def text (N : Nat) : ByteArray := str (low N (dlen N))
theorem text_size (N : Nat) : (text N).size = dlen N := by rw [text, str_size, low_length]
theorem div_group (N i : Nat) : N / 10 ^ (9 * i) / 1000000000 = N / 10 ^ (9 * (i + 1)) := by
 rw [Nat.div_div_eq_div_mul, show (1000000000 : Nat) = 10 ^ 9 from rfl, ← Nat.pow_add, show 9 * i + 9 = 9 * (i + 1) by omega]
/-- Room for one group more. -/
theorem group_room (N m i : Nat) (hN : N < 4294967296 ^ m) (h : N / 10 ^ (9 * i) ≠ 0) : 9 * (i + 1) ≤ 10 * m + 8 := by
 have h1 : 10 ^ (9 * i) ≤ N := by
  rcases Nat.lt_or_ge N (10 ^ (9 * i)) with h2 | h2
  · exact absurd (Nat.div_eq_of_lt h2) h
  · exact h2
 have := digits_room N m (9 * i) hN h1
 omega
end Go.Proofs.YtdeakieenppmiaaGreatDoor.Dec
