/- 'LexNames', walked. -/
import Derived.Test.YtifikcaiknnjfaaLexLaw
import Derived.Test.YtifikcaiknnjfaaOpenSs
namespace Go.Proofs.Ytifikcaiknnjfaa
open Go.RowKit
open Lx

theorem LRow.apart {T T' : TypeId} {sz sz' : Nat} {w : World} {base base' : Nat} {v v' : Value} {n n' : Nat} {xs xs' : List Value} (h : LRow T sz w base v n xs) (k : LRow T' sz' w base' v' n' xs') (hT : T ≠ T') : v.ownBlock = none ∨ v.ownBlock ≠ v'.ownBlock := by
  rcases h.2 with ⟨rfl, _⟩ | ⟨g, cap, cur, rfl, _, hg, _⟩
  · exact Or.inl rfl
  · refine Or.inr (fun e => ?_)
    rcases k.2 with ⟨rfl, _⟩ | ⟨g', cap', cur', rfl, _, hg', _⟩
    · simp [Value.ownBlock] at e
    · simp [Value.ownBlock] at e
      subst e
      rw [hg] at hg'
      injection hg' with hg'
      injection hg' with _ ht
      exact hT ht
def tk0 (t : ByteArray) : TK := ⟨0, t, 0, 0⟩
theorem tk0_texts (xs : List ByteArray) : (xs.map tk0).map (·.text) = xs := by
  rw [List.map_map]; exact List.map_id' xs
theorem tk0_snoc (xs : List ByteArray) (q : Nat) (s : ByteArray) (h : xs[q]? = some s) : (xs.take (q + 1)).map tk0 = (xs.take q).map tk0 ++ [TK.mk 0 s 0 0] := by
  rw [List.take_add_one, h]; simp [tk0]
theorem toK_ne : 33 ≠ 38 := by decide
set_option maxRecDepth 100000 in
set_option maxHeartbeats 8000000 in
theorem lexNames_walk (s : ByteArray) (A : Option Addr) (n c : Nat) (xs : List ByteArray) (w0 : World) (hx : SIn w0 A n xs) (hc : n ≤ c) (hm : c ≤ 9223372036854775807) (hb : s.size + (sizes xs + xs.length) ≤ 1048576) : Calls Try.prog 7 #[.string s, .slice A n c] w0 (LexYes w0) := by
  have h0 := lexalive_yes w0
  by_cases h1 : 1000 < n
  · have g1 : (1000 : Int) < (n : Int) := by omega
    clear h1 hx hb
    go_enter Try.func7, Try.ntmps7
    go_wp2_with fail
    refine h0.mono ?_
    rintro e w1 ⟨rfl, b1⟩
    have B1 := hide b1
    clear h0 b1
    go_wp2_with fail
    go_ret
    exact ⟨rfl, B1.out⟩
  · have g1 : ¬ (1000 : Int) < (n : Int) := by omega
    have HX := hide hx
    have HXL := hide hx.1
    have HB := hide hb
    have N1 := hide (fun W => name_any s W (by omega))
    have N2 := hide (fun W => rname_any s W (by omega))
    have D1 := hide (fun W => number_any s W (by omega))
    have D2 := hide (fun W => rnumber_any s W (by omega))
    have E1 := hide (fun W => reserved_any s W)
    have E2 := hide (fun W => rreserved_any s W)
    rw [name_eq] at N1
    rw [number_eq] at D1
    generalize rnameB s = bn at *
    generalize rnumB s = bd at *
    generalize resB s = be at *
    clear hx hb
    go_enter Try.func7, Try.ntmps7
    go_wp2_with fail
    refine h0.mono ?_
    rintro e w1 ⟨rfl, b1⟩
    have B1 := hide b1
    clear h0
    have LA : LRow 33 4 (w1.alloc (.cells #[] 33)) w1.heap.size (.slice (some ⟨w1.heap.size, 0, none⟩) 0 0) 0 [] := LRow.lit #[] 0 (Nat.le_refl _) (by decide) rfl (fun u hu => by cases hu)
    have LB : LRow 38 4 ((w1.alloc (.cells #[] 33)).alloc (.cells #[] 38)) w1.heap.size (.slice (some ⟨w1.heap.size + 1, 0, none⟩) 0 0) 0 [] := by
      have := LRow.lit (T := 38) (sz := 4) (w := w1.alloc (.cells #[] 33)) (base := w1.heap.size) #[] 0 (by rw [size_alloc']; omega) (by decide) rfl (fun u hu => by cases hu)
      rw [size_alloc'] at this
      exact this
    have LA0 := hide (LA.below (bl_alloc _ (.cells #[] 38)))
    have LB0 := hide LB
    have R0 := hide ((b1.next (bl_alloc w1 (.cells #[] 33))).next (bl_alloc _ (.cells #[] 38)))
    have hsz1 := b1.size
    clear LA LB b1
    go_wp2_with fail
    go_loopw [5, 6, 18] (fun x y i wr => ∃ q : Nat, q ≤ n ∧ i = .int .i64 (q : Int) ∧ Hid (LRow 33 4 wr w1.heap.size x ((xs.take q).map tk0).length (flatK ((xs.take q).map tk0))) ∧ Hid (LRow 38 4 wr w1.heap.size y ((xs.take q).map tk0).length (flatK ((xs.take q).map tk0))) ∧ Hid (Below w0.heap.size w0 wr) ∧ w1.heap.size ≤ wr.heap.size) (fun _ _ i _ => n - (intOf i).toNat)
    case atStart => exact ⟨0, Nat.zero_le _, rfl, LA0, LB0, R0, by rw [size_alloc', size_alloc']; omega⟩
    case round =>
      obtain ⟨q, hq, rfl, HLa, HLb, HR, hwr⟩ := hrel
      obtain ⟨ln, hln⟩ : ∃ ln, ((xs.take q).map tk0).length = ln := ⟨_, rfl⟩
      have HLN := hide hln
      rw [hln] at HLa HLb
      have hlq : ln = q := by rw [← hln, List.length_map, List.length_take, HXL.out]; omega
      have HLQ := hide hlq
      have hlb : ln ≤ 1000 := by omega
      clear hln hlq
      obtain ⟨aA, aC, rfl, -, -, -⟩ := HLa.out.len
      obtain ⟨bA, bC, rfl, -, -, -⟩ := HLb.out.len
      by_cases hqn : q < n
      · obtain ⟨ba, oa, t, rfl, hlt, ht, c0⟩ := (HX.out.below HR.out).at_ hqn
        have HTK := hide (tk0_snoc xs q t ht)
        have hr := HR.out.size
        have La1 := hide (HLa.out.below (bl_alloc wr (.cells (TK.cells (TK.mk 0 t 0 0)).toArray 33)))
        have Lb1 := hide (HLb.out.below (bl_alloc wr (.cells (TK.cells (TK.mk 0 t 0 0)).toArray 33)))
        have R1 := hide (HR.out.next (bl_alloc wr (.cells (TK.cells (TK.mk 0 t 0 0)).toArray 33)))
        have hpl : ((xs.take q).map tk0).length + 1 ≤ 1099511627776 := by rw [HLN.out]; omega
        have HPL := hide hpl
        have hw0 : w0.heap.size ≤ w1.heap.size := hsz1
        clear hpl ht
        go_wp2_with (first
          | (at_builtin; refine wpList_append_tok rfl _ _ rfl w1.heap.size _ ((xs.take q).map tk0) rfl (by rw [HLN.out]; exact La1.out) wr.heap.size (TK.mk 0 t 0 0) rfl (heap_alloc_new _ _) HPL.out (by rw [size_alloc']; omega) ?_; intro v4 w4 l4 g4; have La4 := hide l4; have Lb4 := hide (Lb1.out.kept g4 (Lb1.out.apart La1.out (Ne.symm toK_ne))); have R4 := hide (La1.out.old R1.out g4 hw0 (Nat.le_refl _)); have hz4 := g4.size; clear l4 g4)
          | (at_builtin; refine wpList_append_rtok rfl _ _ rfl w1.heap.size _ ((xs.take q).map tk0) rfl (by rw [HLN.out]; exact Lb4.out.below (bl_alloc w4 (.cells (TK.cells (TK.mk 0 t 0 0)).toArray 38))) w4.heap.size (TK.mk 0 t 0 0) rfl (heap_alloc_new _ _) HPL.out (by have h4 := hz4; rw [size_alloc'] at h4 ⊢; omega) ?_; intro v5 w5 l5 g5; have Lb5 := hide l5; have La5 := hide ((La4.out.below (bl_alloc w4 (.cells (TK.cells (TK.mk 0 t 0 0)).toArray 38))).kept g5 ((La4.out.below (bl_alloc w4 (.cells (TK.cells (TK.mk 0 t 0 0)).toArray 38))).apart (Lb4.out.below (bl_alloc w4 (.cells (TK.cells (TK.mk 0 t 0 0)).toArray 38))) toK_ne)); have R5 := hide ((Lb4.out.below (bl_alloc w4 (.cells (TK.cells (TK.mk 0 t 0 0)).toArray 38))).old (R4.out.next (bl_alloc w4 (.cells (TK.cells (TK.mk 0 t 0 0)).toArray 38))) g5 hw0 (Nat.le_refl _)); have hz5 := g5.size; clear l5 g5))
        rw [← HTK.out] at La5 Lb5
        rw [size_alloc'] at hz4 hz5
        go_roundw
        case rel => exact ⟨q + 1, by omega, by go_num, La5, Lb5, R5, by omega⟩
        case measure => simp [intOf]; omega
      · obtain rfl : q = n := by omega
        have hall : xs.take q = xs := List.take_of_length_le (by rw [HXL.out]; exact Nat.le_refl _)
        rw [hall] at HLa HLb HLN
        have hk := HLN.out
        have ha : LRow 33 4 wr w1.heap.size (.slice aA ln aC) (xs.map tk0).length (flatK (xs.map tk0)) := by rw [hk]; exact HLa.out
        have hb : LRow 38 4 wr w1.heap.size (.slice bA ln bC) (xs.map tk0).length (flatK (xs.map tk0)) := by rw [hk]; exact HLb.out
        obtain ⟨A1, C1, e1, -, -, k1⟩ := ha.kin
        obtain ⟨A2, C2, e2, -, -, k2⟩ := hb.kin
        injection e1 with e1 e3 e4
        injection e2 with e5 e6 e7
        subst e1 e5
        rw [hk] at k1 k2
        have hs1 : sizesB ((xs.map tk0).map (·.text)) + ln ≤ 140737488355328 := by
          rw [tk0_texts]
          have h2 := HB.out
          have h3 : sizesB xs = sizes xs := rfl
          have h4 : xs.length = ln := by rw [← hk, List.length_map]
          omega
        have S1 := hide (fun W (h : Below wr.heap.size wr W) => spell_any aA ln aC (xs.map tk0) W (k1.below h) (by omega) hs1)
        have S2 := hide (fun W (h : Below wr.heap.size wr W) => rspell_any bA ln bC (xs.map tk0) W (k2.below h) (by omega) hs1)
        generalize spellB ((xs.map tk0).map (·.text)) = sp at *
        clear ha hb k1 k2 hs1 e3 e4 e6 e7 hk HLa HLb HLN HLQ
        go_wp2_with fail
        refine (N1.out _).mono ?_
        rintro e w2 ⟨rfl, b2⟩
        have T2 := hide b2
        clear b2
        go_wp2_with fail
        refine (N2.out _).mono ?_
        rintro e w3 ⟨rfl, k3, rfl⟩
        have T3 := hide (T2.out.next (bl_drewN _ k3))
        clear T2
        go_wp2_with fail
        refine (D1.out _).mono ?_
        rintro e w4 ⟨rfl, b4⟩
        have T4 := hide (T3.out.next b4)
        clear b4 T3
        go_wp2_with fail
        refine (D2.out _).mono ?_
        rintro e w5 ⟨rfl, k5, rfl⟩
        go_wp2_with fail
        refine (E1.out _).mono ?_
        rintro e w6 ⟨rfl, k6, rfl⟩
        go_wp2_with fail
        refine (E2.out _).mono ?_
        rintro e w7 ⟨rfl, k7, rfl⟩
        have T7 := hide (T4.out.next (bl_drewN _ (k5 + k6 + k7)))
        clear T4
        go_wp2_with fail
        refine (S1.out _ (by exact T7.out)).mono ?_
        rintro e w8 ⟨rfl, b8⟩
        have T8 := hide (T7.out.next b8)
        clear T7 b8
        go_wp2_with fail
        refine (S2.out _ (by exact T8.out)).mono ?_
        rintro e w9 ⟨rfl, b9⟩
        have R9 := hide (HR.out.next (T8.out.next b9))
        clear T8 b9
        go_wp2_with fail
        go_ret
        exact ⟨rfl, R9.out⟩
end Go.Proofs.Ytifikcaiknnjfaa
