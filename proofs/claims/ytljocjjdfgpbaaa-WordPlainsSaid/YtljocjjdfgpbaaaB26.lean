/- Texts of one seat, put together: WordAl. -/
import Derived.Test.YtljocjjdfgpbaaaB20
import Derived.Test.YtljocjjdfgpbaaaB23
import Derived.Test.YtljocjjdfgpbaaaB19
import Derived.Test.YtljocjjdfgpbaaaB24
import Derived.Test.YtljocjjdfgpbaaaB25
set_option linter.unusedVariables false
/- plumblinelaw15.alive. -/
namespace Go.Proofs.Ytljocjjdfgpbaaa
open Go.RowKit
open Wo

/-- Any block. -/
def AnyB (_ : Nat) : Prop := True
theorem box_new_at {T : TypeId} {w : World} {g : Nat} (h : w.heap.size = g) (X : Array Value) : Box T (w.alloc (.cells X T)) g X ∧ (w.alloc (.cells X T)).heap.size = g + 1 := by
  subst h
  exact ⟨Box.new T w X, size_alloc2 w _⟩
theorem belN {N : Nat} {w0 w w' : World} (hN : w0.heap.size = N) (h : Below N w0 w) (k : Below w.heap.size w w') : Below N w0 w' := by subst hN; exact h.next k
/-- One letter of two atoms. -/
theorem ls_one {w : World} {g g' : Nat} {x y : Bool} (h : Box 4 w g #[.bool x, .bool y]) (h' : Box 47 w g' #[.slice (some ⟨g, 0, none⟩) 2 2]) : LsIn AnyB w (some ⟨g', 0, none⟩) 1 [[x, y]] := by
  refine ⟨rfl, fun _ => ⟨g', 0, rfl, trivial, h'.lt, fun j l hj => ?_⟩⟩
  match j with
  | 0 =>
    simp at hj; subst hj
    refine ⟨_, _, h'.cell 0 _ rfl, by simp, by simp, rfl, fun _ => ⟨g, 0, rfl, trivial, h.lt, fun j v hv => ?_⟩⟩
    match j with
    | 0 => simp at hv; subst hv; exact h.cell 0 _ rfl
    | 1 => simp at hv; subst hv; exact h.cell 1 _ rfl
    | j + 2 => simp at hv
  | j + 1 => simp at hj
/-- What alive has made. -/
structure AliveM (N : Nat) (W : World) : Prop where
  w : Box 27 W (N + 1 + 1 + 1 + 1) #[.slice (some ⟨N + 1, 0, none⟩) 1 1, .slice (some ⟨N + 1 + 1 + 1, 0, none⟩) 1 1]
  a : Box 24 W (N + 1 + 1 + 1 + 1 + 1) #[.int .i64 2, .int .i64 0, .slice none 0 0]
  b : Box 24 W (N + 1 + 1 + 1 + 1 + 1 + 1) #[.int .i64 2, .int .i64 1, .slice none 0 0]
  l1 : LsIn AnyB W (some ⟨N + 1, 0, none⟩) 1 [[true, false]]
  l2 : LsIn AnyB W (some ⟨N + 1 + 1 + 1, 0, none⟩) 1 [[false, true]]
theorem AliveM.next {N : Nat} {W W' : World} (h : AliveM N W) (hb : Below W.heap.size W W') : AliveM N W' := ⟨h.w.next hb, h.a.next hb, h.b.next hb, h.l1.keep (Keep.of_below hb), h.l2.keep (Keep.of_below hb)⟩
theorem AliveM.start (w : World) (N : Nat) (hN : w.heap.size = N) : AliveM N (((((((w.alloc (.cells #[.bool true, .bool false] 4)).alloc (.cells #[.slice (some ⟨N, 0, none⟩) 2 2] 47)).alloc (.cells #[.bool false, .bool true] 4)).alloc (.cells #[.slice (some ⟨N + 1 + 1, 0, none⟩) 2 2] 47)).alloc (.cells #[.slice (some ⟨N + 1, 0, none⟩) 1 1, .slice (some ⟨N + 1 + 1 + 1, 0, none⟩) 1 1] 27)).alloc (.cells #[.int .i64 2, .int .i64 0, .slice none 0 0] 24)).alloc (.cells #[.int .i64 2, .int .i64 1, .slice none 0 0] 24)) ∧
    Below N w (((((((w.alloc (.cells #[.bool true, .bool false] 4)).alloc (.cells #[.slice (some ⟨N, 0, none⟩) 2 2] 47)).alloc (.cells #[.bool false, .bool true] 4)).alloc (.cells #[.slice (some ⟨N + 1 + 1, 0, none⟩) 2 2] 47)).alloc (.cells #[.slice (some ⟨N + 1, 0, none⟩) 1 1, .slice (some ⟨N + 1 + 1 + 1, 0, none⟩) 1 1] 27)).alloc (.cells #[.int .i64 2, .int .i64 0, .slice none 0 0] 24)).alloc (.cells #[.int .i64 2, .int .i64 1, .slice none 0 0] 24)) := by
  obtain ⟨b1, z1⟩ := box_new_at (T := 4) hN #[.bool true, .bool false]
  have q1 : Below N w _ := hN ▸ bl_alloc w (.cells #[.bool true, .bool false] 4)
  generalize w.alloc (.cells #[.bool true, .bool false] 4) = w1 at *
  obtain ⟨b2, z2⟩ := box_new_at (T := 47) z1 #[.slice (some ⟨N, 0, none⟩) 2 2]
  have n2 := bl_alloc w1 (.cells #[.slice (some ⟨N, 0, none⟩) 2 2] 47)
  have q2 := belN hN q1 n2
  replace b1 := b1.next n2
  generalize w1.alloc (.cells #[.slice (some ⟨N, 0, none⟩) 2 2] 47) = w2 at *
  obtain ⟨b3, z3⟩ := box_new_at (T := 4) z2 #[.bool false, .bool true]
  have n3 := bl_alloc w2 (.cells #[.bool false, .bool true] 4)
  have q3 := belN hN q2 n3
  replace b1 := b1.next n3
  replace b2 := b2.next n3
  generalize w2.alloc (.cells #[.bool false, .bool true] 4) = w3 at *
  obtain ⟨b4, z4⟩ := box_new_at (T := 47) z3 #[.slice (some ⟨N + 1 + 1, 0, none⟩) 2 2]
  have n4 := bl_alloc w3 (.cells #[.slice (some ⟨N + 1 + 1, 0, none⟩) 2 2] 47)
  have q4 := belN hN q3 n4
  replace b1 := b1.next n4
  replace b2 := b2.next n4
  replace b3 := b3.next n4
  generalize w3.alloc (.cells #[.slice (some ⟨N + 1 + 1, 0, none⟩) 2 2] 47) = w4 at *
  obtain ⟨b5, z5⟩ := box_new_at (T := 27) z4 #[.slice (some ⟨N + 1, 0, none⟩) 1 1, .slice (some ⟨N + 1 + 1 + 1, 0, none⟩) 1 1]
  have n5 := bl_alloc w4 (.cells #[.slice (some ⟨N + 1, 0, none⟩) 1 1, .slice (some ⟨N + 1 + 1 + 1, 0, none⟩) 1 1] 27)
  have q5 := belN hN q4 n5
  replace b1 := b1.next n5
  replace b2 := b2.next n5
  replace b3 := b3.next n5
  replace b4 := b4.next n5
  generalize w4.alloc (.cells #[.slice (some ⟨N + 1, 0, none⟩) 1 1, .slice (some ⟨N + 1 + 1 + 1, 0, none⟩) 1 1] 27) = w5 at *
  obtain ⟨b6, z6⟩ := box_new_at (T := 24) z5 #[.int .i64 2, .int .i64 0, .slice none 0 0]
  have n6 := bl_alloc w5 (.cells #[.int .i64 2, .int .i64 0, .slice none 0 0] 24)
  have q6 := belN hN q5 n6
  replace b1 := b1.next n6
  replace b2 := b2.next n6
  replace b3 := b3.next n6
  replace b4 := b4.next n6
  replace b5 := b5.next n6
  generalize w5.alloc (.cells #[.int .i64 2, .int .i64 0, .slice none 0 0] 24) = w6 at *
  obtain ⟨b7, z7⟩ := box_new_at (T := 24) z6 #[.int .i64 2, .int .i64 1, .slice none 0 0]
  have n7 := bl_alloc w6 (.cells #[.int .i64 2, .int .i64 1, .slice none 0 0] 24)
  have q7 := belN hN q6 n7
  replace b1 := b1.next n7
  replace b2 := b2.next n7
  replace b3 := b3.next n7
  replace b4 := b4.next n7
  replace b5 := b5.next n7
  replace b6 := b6.next n7
  generalize w6.alloc (.cells #[.int .i64 2, .int .i64 1, .slice none 0 0] 24) = w7 at *
  exact ⟨⟨b5, b6, b7, ls_one b1 b2, ls_one b3 b4⟩, q7⟩
theorem field_word0 (a b : Value) (w : World) : (Instr.field 27 (.agg #[a, b]) 0).run Try.prog w = .ok a w := by kernel_rfl
theorem alive_p : plain (norm (.mk 10 0 [.mk 2 0 []])) true = .bin 12 .ff (.una 3 (.cmp 0)) := by
  rw [norm_fa (by decide), norm_f2]; rfl
theorem alive_t : tree (.bin 12 .ff (.una 3 (.cmp 0))) = .mk 12 0 [.mk 1 0 [], .mk 3 0 [.mk 2 0 []]] := by rw [tree, tree, tree, tree]; rfl
theorem alive_n : norm (.mk 12 0 [.mk 1 0 [], .mk 3 0 [.mk 2 0 []]]) = .bin 12 .ff (.una 3 (.cmp 0)) := by
  rw [norm_fb (by decide), norm_fa (by decide), norm_f2, norm_f1]; rfl
theorem alive_5s : Value.int .i64 ((norm (.mk 12 0 [.mk 1 0 [], .mk 3 0 [.mk 2 0 []]])).size : Int) = .int .i64 4 := by rw [alive_n]; rfl
theorem alive_1 : HV [[true, false]] [[false, true]] (norm (.mk 11 0 [.mk 2 0 [], .mk 2 1 []])) 0 = true := by
  rw [norm_fb (by decide), norm_f2, norm_f2]; decide
theorem alive_2 : HV [[true, false]] [[false, true]] (norm (.mk 9 0 [.mk 2 1 []])) 0 = false := by
  rw [norm_fa (by decide), norm_f2]; decide
theorem alive_3 : HV [[true, false]] [[false, true]] (norm (.mk 8 0 [.mk 9 0 [.mk 2 1 []]])) 0 = true := by
  rw [norm_fa (by decide), norm_fa (by decide), norm_f2]; decide
theorem alive_4 : HV [[true, false]] [[false, true]] (norm (.mk 2 1 [])) 7 = true := by
  rw [norm_f2]; decide
theorem alive_5 : decide (norm (.mk 2 0 []) = norm (.mk 2 1 [])) = false := by
  rw [norm_f2, norm_f2]; decide
set_option maxRecDepth 100000 in
set_option maxHeartbeats 16000000 in
theorem lalive_any (w0 : World) : Calls Try.prog 8 #[] w0 (fun e w' => e = .returned (.bool true) ∧ Below w0.heap.size w0 w') := by
  obtain ⟨N, hN⟩ : ∃ N, w0.heap.size = N := ⟨_, rfl⟩
  obtain ⟨hm, hb⟩ := AliveM.start w0 N hN
  have HM := hide hm
  have HB := hide hb
  rw [hN]
  have HN := hide hN
  clear hm hb
  have hfw := fun a b W => field_word0 a b W
  go_enter Try.func8, Try.ntmps8
  go_upto_region 3 with fail
  (try simp only [hN])
  generalize (((((((w0.alloc (.cells #[.bool true, .bool false] 4)).alloc (.cells #[.slice (some ⟨N, 0, none⟩) 2 2] 47)).alloc (.cells #[.bool false, .bool true] 4)).alloc (.cells #[.slice (some ⟨N + 1 + 1, 0, none⟩) 2 2] 47)).alloc (.cells #[.slice (some ⟨N + 1, 0, none⟩) 1 1, .slice (some ⟨N + 1 + 1 + 1, 0, none⟩) 1 1] 27)).alloc (.cells #[.int .i64 2, .int .i64 0, .slice none 0 0] 24)).alloc (.cells #[.int .i64 2, .int .i64 1, .slice none 0 0] 24)) = W1 at *
  have a0 := HM.out.a.cell 0 _ rfl
  have a1 := HM.out.a.cell 1 _ rfl
  have a2 := HM.out.a.cell 2 _ rfl
  go_wp2_with fail
  refine (lone_any AnyB 0 10 (.mk 2 0 []) 2 0 none 0 0 W1 (DIn.leaf _ _ _ _) (Nat.zero_le _)).mono ?_
  rintro e W2 ⟨A, n, c, rfl, hd, b⟩
  have HM := hide (HM.out.next b)
  have HB := hide (belN HN.out HB.out b)
  clear b
  have HD := hide hd
  clear hd a0 a1 a2
  go_wp2_with fail
  refine (wplain_any 10 (Up AnyB 0) (.mk 10 0 [.mk 2 0 []]) 10 0 A n c true W2 (by rw [norm_fa (by decide), norm_f2]; decide) HD.out).mono ?_
  rintro e W3 ⟨pk, pp, pA, pn, pc, rfl, hd, b⟩
  have HM := hide (HM.out.next b)
  have HB := hide (belN HN.out HB.out b)
  clear b
  rw [alive_p, alive_t] at hd
  have hpk : pk = 12 := hd.parts.1
  have hpp : pp = 0 := hd.parts.2.1
  subst hpk hpp
  obtain ⟨-, -, hks, hpc1, hpc2, -⟩ := hd.parts
  obtain rfl : pn = 2 := hks.1.symm
  obtain ⟨be, oe, tk, k9, p9, A9, n9, c9, rfl, hlt, hkid, hdk, e0, e1, e2⟩ := hks.at_ (j := 1) (by omega)
  obtain rfl : Wo.LT.mk 3 0 [.mk 2 0 []] = tk := by simpa [LT.kids] using hkid
  have hk9 : k9 = (3 : Int) := hdk.parts.1
  subst hk9
  have HE0 := hide e0
  have HLT := hide hlt
  have HDP := hide (hd.sub (S' := AnyB) (fun b _ _ => trivial))
  have HPB := hide (Box.new 24 W3 #[.int .i64 12, .int .i64 0, .slice (some ⟨be, oe, none⟩) 2 pc])
  have hba := bl_alloc W3 (.cells #[.int .i64 12, .int .i64 0, .slice (some ⟨be, oe, none⟩) 2 pc] 24)
  have HM := hide (HM.out.next hba)
  have HB := hide (belN HN.out HB.out hba)
  have HDP := hide (HDP.out.keep (Keep.of_below hba))
  have HE0 := hide ((below_cell hba HLT.out).trans HE0.out)
  have HLT := hide (Nat.lt_of_lt_of_le HLT.out hba.size)
  clear hd hks hkid hdk e0 e1 e2 hlt hba HD
  go_upto_region 4 with fail
  simp only [List.append_eq, List.cons_append, List.nil_append]
  obtain ⟨gp, hgp⟩ : ∃ gp, gp = W3.heap.size := ⟨_, rfl⟩
  rw [← hgp] at HPB ⊢
  generalize W3.alloc (.cells #[.int .i64 12, .int .i64 0, .slice (some ⟨be, oe, none⟩) 2 pc] 24) = W4 at *
  clear hgp
  have SOF := hide (fun W (h : Below W4.heap.size W4 W) => (⟨(HM.out.next h).w.cell 0 _ rfl, (HM.out.next h).w.cell 1 _ rfl, (HM.out.next h).a.cell 0 _ rfl, (HM.out.next h).a.cell 1 _ rfl, (HM.out.next h).a.cell 2 _ rfl, (HM.out.next h).b.cell 0 _ rfl, (HM.out.next h).b.cell 1 _ rfl, (HM.out.next h).b.cell 2 _ rfl, (HPB.out.next h).cell 0 _ rfl, (HPB.out.next h).cell 1 _ rfl, (HPB.out.next h).cell 2 _ rfl, by have := (below_cell h HLT.out).trans HE0.out; simpa only [Nat.one_mul] using this⟩ : _ ∧ _ ∧ _ ∧ _ ∧ _ ∧ _ ∧ _ ∧ _ ∧ _ ∧ _ ∧ _ ∧ _))
  refine wp_drawnL (by kernel_rfl) (by kernel_rfl) (by kernel_rfl) (by kernel_rfl) (fun w w' => Below w.heap.size w w') (fun j v w => match j with | 0 => v = .agg #[.int .i64 2, .int .i64 0, .slice none 0 0] | 1 => v = .agg #[.int .i64 2, .int .i64 1, .slice none 0 0] | 2 => ∃ A n c, v = .agg #[.int .i64 11, .int .i64 0, .slice A n c] ∧ DIn AnyB w (.mk 11 0 [.mk 2 0 [], .mk 2 1 []]) (c3 11 0 A n c) | 3 => v = .agg #[.slice (some ⟨N + 1, 0, none⟩) 1 1, .slice (some ⟨N + 1 + 1 + 1, 0, none⟩) 1 1] | 4 => v = .bool true | 5 => v = .bool true | 6 => v = .agg #[.int .i64 2, .int .i64 1, .slice none 0 0] | 7 => ∃ A n c, v = .agg #[.int .i64 9, .int .i64 0, .slice A n c] ∧ DIn AnyB w (.mk 9 0 [.mk 2 1 []]) (c3 9 0 A n c) | 8 => v = .agg #[.slice (some ⟨N + 1, 0, none⟩) 1 1, .slice (some ⟨N + 1 + 1 + 1, 0, none⟩) 1 1] | 9 => v = .bool false | 10 => v = .bool true | 11 => v = .bool true | 12 => v = .bool true | 13 => v = .agg #[.int .i64 2, .int .i64 1, .slice none 0 0] | 14 => ∃ A n c, v = .agg #[.int .i64 9, .int .i64 0, .slice A n c] ∧ DIn AnyB w (.mk 9 0 [.mk 2 1 []]) (c3 9 0 A n c) | 15 => ∃ A n c, v = .agg #[.int .i64 8, .int .i64 0, .slice A n c] ∧ DIn AnyB w (.mk 8 0 [.mk 9 0 [.mk 2 1 []]]) (c3 8 0 A n c) | 16 => v = .agg #[.slice (some ⟨N + 1, 0, none⟩) 1 1, .slice (some ⟨N + 1 + 1 + 1, 0, none⟩) 1 1] | 17 => v = .bool true | 18 => v = .bool true | 19 => v = .bool true | 20 => v = .agg #[.int .i64 2, .int .i64 1, .slice none 0 0] | 21 => v = .agg #[.slice (some ⟨N + 1, 0, none⟩) 1 1, .slice (some ⟨N + 1 + 1 + 1, 0, none⟩) 1 1] | 22 => v = .bool true | 23 => v = .bool true | 24 => v = .bool true | 25 => v = .pointer (some ⟨gp, 0, none⟩) | 26 => v = .int .i64 12 | 27 => v = .bool true | 28 => v = .bool true | 29 => v = .bool true | 30 => v = .pointer (some ⟨gp, 2, none⟩) | 31 => v = .slice (some ⟨be, oe, none⟩) 2 pc | 32 => v = .pointer (some ⟨be, oe + 3, none⟩) | 33 => v = .pointer (some ⟨be, oe + 3, none⟩) | 34 => v = .int .i64 3 | 35 => v = .bool true | 36 => v = .bool true | 37 => v = .bool true | 38 => v = .agg #[.int .i64 12, .int .i64 0, .slice (some ⟨be, oe, none⟩) 2 pc] | 39 => v = .int .i64 4 | 40 => v = .bool true | 41 => v = .bool true | 42 => v = .bool true | 43 => v = .agg #[.int .i64 12, .int .i64 0, .slice (some ⟨be, oe, none⟩) 2 pc] | 44 => v = .agg #[.int .i64 12, .int .i64 0, .slice (some ⟨be, oe, none⟩) 2 pc] | 45 => v = .bool true | 46 => v = .bool true | 47 => v = .bool true | 48 => v = .agg #[.int .i64 2, .int .i64 0, .slice none 0 0] | 49 => v = .agg #[.int .i64 2, .int .i64 1, .slice none 0 0] | 50 => v = .bool false | 51 => v = .bool true | 52 => v = .bool true | 53 => v = .bool true | 54 => v = .agg #[.slice (some ⟨N + 1, 0, none⟩) 1 1, .slice (some ⟨N + 1 + 1 + 1, 0, none⟩) 1 1] | 55 => ∃ A c x, v = .agg #[.slice A 0 c, x] | 56 => ∃ A c, v = .slice A 0 c | 57 => v = .int .i64 0 | 58 => v = .bool true | 59 => v = .bool true | 60 => v = .bool true | 61 => v = .agg #[.slice (some ⟨N + 1, 0, none⟩) 1 1, .slice (some ⟨N + 1 + 1 + 1, 0, none⟩) 1 1] | 62 => ∃ A c x, v = .agg #[.slice A 3 c, x] | 63 => ∃ A c, v = .slice A 3 c | 64 => v = .int .i64 3 | 65 => v = .bool true | 66 => v = .bool true | _ => True) (fun _ _ w => Below W4.heap.size W4 w) ?_ (fun _ => bl_drewN W4 1) ?_ ?_
  · intro j v w w' hT h
    match j, h with
    | 0, h => exact h
    | 1, h => exact h
    | 2, h => exact (by obtain ⟨A, n, c, e, h1⟩ := h; exact ⟨A, n, c, e, h1.keep (Keep.of_below hT)⟩)
    | 3, h => exact h
    | 4, h => exact h
    | 5, h => exact h
    | 6, h => exact h
    | 7, h => exact (by obtain ⟨A, n, c, e, h1⟩ := h; exact ⟨A, n, c, e, h1.keep (Keep.of_below hT)⟩)
    | 8, h => exact h
    | 9, h => exact h
    | 10, h => exact h
    | 11, h => exact h
    | 12, h => exact h
    | 13, h => exact h
    | 14, h => exact (by obtain ⟨A, n, c, e, h1⟩ := h; exact ⟨A, n, c, e, h1.keep (Keep.of_below hT)⟩)
    | 15, h => exact (by obtain ⟨A, n, c, e, h1⟩ := h; exact ⟨A, n, c, e, h1.keep (Keep.of_below hT)⟩)
    | 16, h => exact h
    | 17, h => exact h
    | 18, h => exact h
    | 19, h => exact h
    | 20, h => exact h
    | 21, h => exact h
    | 22, h => exact h
    | 23, h => exact h
    | 24, h => exact h
    | 25, h => exact h
    | 26, h => exact h
    | 27, h => exact h
    | 28, h => exact h
    | 29, h => exact h
    | 30, h => exact h
    | 31, h => exact h
    | 32, h => exact h
    | 33, h => exact h
    | 34, h => exact h
    | 35, h => exact h
    | 36, h => exact h
    | 37, h => exact h
    | 38, h => exact h
    | 39, h => exact h
    | 40, h => exact h
    | 41, h => exact h
    | 42, h => exact h
    | 43, h => exact h
    | 44, h => exact h
    | 45, h => exact h
    | 46, h => exact h
    | 47, h => exact h
    | 48, h => exact h
    | 49, h => exact h
    | 50, h => exact h
    | 51, h => exact h
    | 52, h => exact h
    | 53, h => exact h
    | 54, h => exact h
    | 55, h => exact h
    | 56, h => exact h
    | 57, h => exact h
    | 58, h => exact h
    | 59, h => exact h
    | 60, h => exact h
    | 61, h => exact h
    | 62, h => exact h
    | 63, h => exact h
    | 64, h => exact h
    | 65, h => exact h
    | 66, h => exact h
    | j + 67, h => trivial
  · refine ⟨?_, ?_, ?_, ?_, ?_, ?_, ?_, ?_, ?_, ?_, ?_, ?_, ?_, ?_, ?_, ?_, ?_, ?_, ?_, ?_, ?_, ?_, ?_, ?_, ?_, ?_, ?_, ?_, ?_, ?_, ?_, ?_, ?_, ?_, ?_, ?_, ?_, ?_, ?_, ?_, ?_, ?_, ?_, ?_, ?_, ?_, ?_, ?_, ?_, ?_, ?_, ?_, ?_, ?_, ?_, ?_, ?_, ?_, ?_, ?_, ?_, ?_, ?_, ?_, ?_, ?_, ?_, trivial⟩
    · intro listed σ w a hin hout hl hla hs hc hp hG hF
      refine Guarded.none rfl ?_
      have e2 : a.tmps.getD 2 undef = .pointer (some ⟨N + 1 + 1 + 1 + 1 + 1, 0, none⟩) := hout 2 (outB_spec (by kernel_rfl))
      have CC := SOF.out w hG; obtain ⟨C0, C1, C2, C3, C4, C5, C6, C7, C8, C9, C10, C11⟩ := CC
      refine Does.val (.agg #[.int .i64 2, .int .i64 0, .slice none 0 0]) (w' := w) ?_ ⟨Below.refl _ _, rfl, hG⟩
      go_simp
    · intro listed σ w a hin hout hl hla hs hc hp hG hF
      refine Guarded.none rfl ?_
      have e3 : a.tmps.getD 3 undef = .pointer (some ⟨N + 1 + 1 + 1 + 1 + 1 + 1, 0, none⟩) := hout 3 (outB_spec (by kernel_rfl))
      have CC := SOF.out w hG; obtain ⟨C0, C1, C2, C3, C4, C5, C6, C7, C8, C9, C10, C11⟩ := CC
      refine Does.val (.agg #[.int .i64 2, .int .i64 1, .slice none 0 0]) (w' := w) ?_ ⟨Below.refl _ _, rfl, hG⟩
      go_simp
    · intro listed σ w a hin hout hl hla hs hc hp hG hF
      refine Guarded.none rfl ?_
      have e15 : a.tmps.getD 15 undef = .agg #[.int .i64 2, .int .i64 0, .slice none 0 0] := (hin 0 15 rfl (hp ⟨0, .data⟩ (by simp) rfl)).trans (hF 0 (hp ⟨0, .data⟩ (by simp) rfl))
      have e16 : a.tmps.getD 16 undef = .agg #[.int .i64 2, .int .i64 1, .slice none 0 0] := (hin 1 16 rfl (hp ⟨1, .data⟩ (by simp) rfl)).trans (hF 1 (hp ⟨1, .data⟩ (by simp) rfl))
      refine Does.call ?_ (ltwo_any AnyB 0 11 (.mk 2 0 []) (.mk 2 1 []) 2 0 none 0 0 2 1 none 0 0 w (DIn.leaf _ _ _ _) (DIn.leaf _ _ _ _) (Nat.zero_le _)) ?_
      · go_simp
      · rintro e w' ⟨A, n, c, rfl, hd, hb⟩
        exact ⟨_, rfl, hb, ⟨A, n, c, rfl, hd.sub (fun b _ _ => trivial)⟩, hG.next hb⟩
    · intro listed σ w a hin hout hl hla hs hc hp hG hF
      refine Guarded.none rfl ?_
      have e1 : a.tmps.getD 1 undef = .pointer (some ⟨N + 1 + 1 + 1 + 1, 0, none⟩) := hout 1 (outB_spec (by kernel_rfl))
      have CC := SOF.out w hG; obtain ⟨C0, C1, C2, C3, C4, C5, C6, C7, C8, C9, C10, C11⟩ := CC
      refine Does.val (.agg #[.slice (some ⟨N + 1, 0, none⟩) 1 1, .slice (some ⟨N + 1 + 1 + 1, 0, none⟩) 1 1]) (w' := w) ?_ ⟨Below.refl _ _, rfl, hG⟩
      go_simp
    · intro listed σ w a hin hout hl hla hs hc hp hG hF
      refine Guarded.none rfl ?_
      have e17 := hin 2 17 rfl (hp ⟨2, .data⟩ (by simp) rfl)
      obtain ⟨A2, n2, c2, ev2, hd2⟩ := hF 2 (hp ⟨2, .data⟩ (by simp) rfl)
      rw [ev2] at e17
      have e18 : a.tmps.getD 18 undef = .agg #[.slice (some ⟨N + 1, 0, none⟩) 1 1, .slice (some ⟨N + 1 + 1 + 1, 0, none⟩) 1 1] := (hin 3 18 rfl (hp ⟨3, .data⟩ (by simp) rfl)).trans (hF 3 (hp ⟨3, .data⟩ (by simp) rfl))
      refine Does.call ?_ (wholds_any AnyB (.mk 11 0 [.mk 2 0 [], .mk 2 1 []]) 11 0 A2 n2 c2 (some ⟨N + 1, 0, none⟩) 1 (some ⟨N + 1 + 1 + 1, 0, none⟩) 1 [[true, false]] [[false, true]] 0 w hd2 (HM.out.next hG).l1 (HM.out.next hG).l2 (by decide) (by decide) (by decide)) ?_
      · go_simp
      · rintro e w' ⟨rfl, hb⟩
        exact ⟨_, rfl, hb, (congrArg Value.bool alive_1), hG.next hb⟩
    · intro listed σ w a hin hout hl hla hs hc hp hG hF
      refine Guarded.none rfl ?_
      have e19 : a.tmps.getD 19 undef = .bool true := (hin 4 19 rfl (hp ⟨4, .data⟩ (by simp) rfl)).trans (hF 4 (hp ⟨4, .data⟩ (by simp) rfl))
      refine Does.val (.bool true) (w' := w) ?_ ⟨Below.refl _ _, rfl, hG⟩
      simp only [Array.getD_eq_getD_getElem?] at e19
      go_simp
    · intro listed σ w a hin hout hl hla hs hc hp hG hF
      refine Guarded.some (d := 20) (b := true) rfl rfl ((hin 5 20 rfl (hp ⟨5, .guard⟩ (by simp) rfl)).trans (hF 5 (hp ⟨5, .guard⟩ (by simp) rfl))) ?_
      refine Or.inl ⟨rfl, ?_⟩
      have e3 : a.tmps.getD 3 undef = .pointer (some ⟨N + 1 + 1 + 1 + 1 + 1 + 1, 0, none⟩) := hout 3 (outB_spec (by kernel_rfl))
      have CC := SOF.out w hG; obtain ⟨C0, C1, C2, C3, C4, C5, C6, C7, C8, C9, C10, C11⟩ := CC
      refine Does.val (.agg #[.int .i64 2, .int .i64 1, .slice none 0 0]) (w' := w) ?_ ⟨Below.refl _ _, rfl, hG⟩
      go_simp
    · intro listed σ w a hin hout hl hla hs hc hp hG hF
      refine Guarded.some (d := 20) (b := true) rfl rfl ((hin 5 20 rfl (hp ⟨5, .guard⟩ (by simp) rfl)).trans (hF 5 (hp ⟨5, .guard⟩ (by simp) rfl))) ?_
      refine Or.inl ⟨rfl, ?_⟩
      have e21 : a.tmps.getD 21 undef = .agg #[.int .i64 2, .int .i64 1, .slice none 0 0] := (hin 6 21 rfl (hp ⟨6, .data⟩ (by simp) rfl)).trans (hF 6 (hp ⟨6, .data⟩ (by simp) rfl))
      refine Does.call ?_ (lone_any AnyB 0 9 (.mk 2 1 []) 2 1 none 0 0 w (DIn.leaf _ _ _ _) (Nat.zero_le _)) ?_
      · go_simp
      · rintro e w' ⟨A, n, c, rfl, hd, hb⟩
        exact ⟨_, rfl, hb, ⟨A, n, c, rfl, hd.sub (fun b _ _ => trivial)⟩, hG.next hb⟩
    · intro listed σ w a hin hout hl hla hs hc hp hG hF
      refine Guarded.some (d := 20) (b := true) rfl rfl ((hin 5 20 rfl (hp ⟨5, .guard⟩ (by simp) rfl)).trans (hF 5 (hp ⟨5, .guard⟩ (by simp) rfl))) ?_
      refine Or.inl ⟨rfl, ?_⟩
      have e1 : a.tmps.getD 1 undef = .pointer (some ⟨N + 1 + 1 + 1 + 1, 0, none⟩) := hout 1 (outB_spec (by kernel_rfl))
      have CC := SOF.out w hG; obtain ⟨C0, C1, C2, C3, C4, C5, C6, C7, C8, C9, C10, C11⟩ := CC
      refine Does.val (.agg #[.slice (some ⟨N + 1, 0, none⟩) 1 1, .slice (some ⟨N + 1 + 1 + 1, 0, none⟩) 1 1]) (w' := w) ?_ ⟨Below.refl _ _, rfl, hG⟩
      go_simp
    · intro listed σ w a hin hout hl hla hs hc hp hG hF
      refine Guarded.some (d := 20) (b := true) rfl rfl ((hin 5 20 rfl (hp ⟨5, .guard⟩ (by simp) rfl)).trans (hF 5 (hp ⟨5, .guard⟩ (by simp) rfl))) ?_
      refine Or.inl ⟨rfl, ?_⟩
      have e22 := hin 7 22 rfl (hp ⟨7, .data⟩ (by simp) rfl)
      obtain ⟨A7, n7, c7, ev7, hd7⟩ := hF 7 (hp ⟨7, .data⟩ (by simp) rfl)
      rw [ev7] at e22
      have e23 : a.tmps.getD 23 undef = .agg #[.slice (some ⟨N + 1, 0, none⟩) 1 1, .slice (some ⟨N + 1 + 1 + 1, 0, none⟩) 1 1] := (hin 8 23 rfl (hp ⟨8, .data⟩ (by simp) rfl)).trans (hF 8 (hp ⟨8, .data⟩ (by simp) rfl))
      refine Does.call ?_ (wholds_any AnyB (.mk 9 0 [.mk 2 1 []]) 9 0 A7 n7 c7 (some ⟨N + 1, 0, none⟩) 1 (some ⟨N + 1 + 1 + 1, 0, none⟩) 1 [[true, false]] [[false, true]] 0 w hd7 (HM.out.next hG).l1 (HM.out.next hG).l2 (by decide) (by decide) (by decide)) ?_
      · go_simp
      · rintro e w' ⟨rfl, hb⟩
        exact ⟨_, rfl, hb, (congrArg Value.bool alive_2), hG.next hb⟩
    · intro listed σ w a hin hout hl hla hs hc hp hG hF
      refine Guarded.some (d := 20) (b := true) rfl rfl ((hin 5 20 rfl (hp ⟨5, .guard⟩ (by simp) rfl)).trans (hF 5 (hp ⟨5, .guard⟩ (by simp) rfl))) ?_
      refine Or.inl ⟨rfl, ?_⟩
      have e24 : a.tmps.getD 24 undef = .bool false := (hin 9 24 rfl (hp ⟨9, .data⟩ (by simp) rfl)).trans (hF 9 (hp ⟨9, .data⟩ (by simp) rfl))
      refine Does.val (.bool true) (w' := w) ?_ ⟨Below.refl _ _, rfl, hG⟩
      simp only [Array.getD_eq_getD_getElem?] at e24
      go_simp
    · intro listed σ w a hin hout hl hla hs hc hp hG hF
      refine Guarded.none rfl ?_
      have e20 : a.tmps.getD 20 undef = .bool true := (hin 5 20 rfl (hp ⟨5, .data⟩ (by simp) rfl)).trans (hF 5 (hp ⟨5, .data⟩ (by simp) rfl))
      have e25 : a.tmps.getD 25 undef = .bool true := (hin 10 25 rfl (hp ⟨10, .data⟩ (by simp) rfl)).trans (hF 10 (hp ⟨10, .data⟩ (by simp) rfl))
      refine Does.val (.bool true) (w' := w) ?_ ⟨Below.refl _ _, rfl, hG⟩
      simp only [Array.getD_eq_getD_getElem?] at e20 e25
      go_simp
    · intro listed σ w a hin hout hl hla hs hc hp hG hF
      refine Guarded.none rfl ?_
      have e26 : a.tmps.getD 26 undef = .bool true := (hin 11 26 rfl (hp ⟨11, .data⟩ (by simp) rfl)).trans (hF 11 (hp ⟨11, .data⟩ (by simp) rfl))
      refine Does.val (.bool true) (w' := w) ?_ ⟨Below.refl _ _, rfl, hG⟩
      simp only [Array.getD_eq_getD_getElem?] at e26
      go_simp
    · intro listed σ w a hin hout hl hla hs hc hp hG hF
      refine Guarded.some (d := 27) (b := true) rfl rfl ((hin 12 27 rfl (hp ⟨12, .guard⟩ (by simp) rfl)).trans (hF 12 (hp ⟨12, .guard⟩ (by simp) rfl))) ?_
      refine Or.inl ⟨rfl, ?_⟩
      have e3 : a.tmps.getD 3 undef = .pointer (some ⟨N + 1 + 1 + 1 + 1 + 1 + 1, 0, none⟩) := hout 3 (outB_spec (by kernel_rfl))
      have CC := SOF.out w hG; obtain ⟨C0, C1, C2, C3, C4, C5, C6, C7, C8, C9, C10, C11⟩ := CC
      refine Does.val (.agg #[.int .i64 2, .int .i64 1, .slice none 0 0]) (w' := w) ?_ ⟨Below.refl _ _, rfl, hG⟩
      go_simp
    · intro listed σ w a hin hout hl hla hs hc hp hG hF
      refine Guarded.some (d := 27) (b := true) rfl rfl ((hin 12 27 rfl (hp ⟨12, .guard⟩ (by simp) rfl)).trans (hF 12 (hp ⟨12, .guard⟩ (by simp) rfl))) ?_
      refine Or.inl ⟨rfl, ?_⟩
      have e28 : a.tmps.getD 28 undef = .agg #[.int .i64 2, .int .i64 1, .slice none 0 0] := (hin 13 28 rfl (hp ⟨13, .data⟩ (by simp) rfl)).trans (hF 13 (hp ⟨13, .data⟩ (by simp) rfl))
      refine Does.call ?_ (lone_any AnyB 0 9 (.mk 2 1 []) 2 1 none 0 0 w (DIn.leaf _ _ _ _) (Nat.zero_le _)) ?_
      · go_simp
      · rintro e w' ⟨A, n, c, rfl, hd, hb⟩
        exact ⟨_, rfl, hb, ⟨A, n, c, rfl, hd.sub (fun b _ _ => trivial)⟩, hG.next hb⟩
    · intro listed σ w a hin hout hl hla hs hc hp hG hF
      refine Guarded.some (d := 27) (b := true) rfl rfl ((hin 12 27 rfl (hp ⟨12, .guard⟩ (by simp) rfl)).trans (hF 12 (hp ⟨12, .guard⟩ (by simp) rfl))) ?_
      refine Or.inl ⟨rfl, ?_⟩
      have e29 := hin 14 29 rfl (hp ⟨14, .data⟩ (by simp) rfl)
      obtain ⟨A14, n14, c14, ev14, hd14⟩ := hF 14 (hp ⟨14, .data⟩ (by simp) rfl)
      rw [ev14] at e29
      refine Does.call ?_ (lone_any AnyB 0 8 (.mk 9 0 [.mk 2 1 []]) 9 0 A14 n14 c14 w (hd14.sub (fun b _ _ => .inl trivial)) (Nat.zero_le _)) ?_
      · go_simp
      · rintro e w' ⟨A, n, c, rfl, hd, hb⟩
        exact ⟨_, rfl, hb, ⟨A, n, c, rfl, hd.sub (fun b _ _ => trivial)⟩, hG.next hb⟩
    · intro listed σ w a hin hout hl hla hs hc hp hG hF
      refine Guarded.some (d := 27) (b := true) rfl rfl ((hin 12 27 rfl (hp ⟨12, .guard⟩ (by simp) rfl)).trans (hF 12 (hp ⟨12, .guard⟩ (by simp) rfl))) ?_
      refine Or.inl ⟨rfl, ?_⟩
      have e1 : a.tmps.getD 1 undef = .pointer (some ⟨N + 1 + 1 + 1 + 1, 0, none⟩) := hout 1 (outB_spec (by kernel_rfl))
      have CC := SOF.out w hG; obtain ⟨C0, C1, C2, C3, C4, C5, C6, C7, C8, C9, C10, C11⟩ := CC
      refine Does.val (.agg #[.slice (some ⟨N + 1, 0, none⟩) 1 1, .slice (some ⟨N + 1 + 1 + 1, 0, none⟩) 1 1]) (w' := w) ?_ ⟨Below.refl _ _, rfl, hG⟩
      go_simp
    · intro listed σ w a hin hout hl hla hs hc hp hG hF
      refine Guarded.some (d := 27) (b := true) rfl rfl ((hin 12 27 rfl (hp ⟨12, .guard⟩ (by simp) rfl)).trans (hF 12 (hp ⟨12, .guard⟩ (by simp) rfl))) ?_
      refine Or.inl ⟨rfl, ?_⟩
      have e30 := hin 15 30 rfl (hp ⟨15, .data⟩ (by simp) rfl)
      obtain ⟨A15, n15, c15, ev15, hd15⟩ := hF 15 (hp ⟨15, .data⟩ (by simp) rfl)
      rw [ev15] at e30
      have e31 : a.tmps.getD 31 undef = .agg #[.slice (some ⟨N + 1, 0, none⟩) 1 1, .slice (some ⟨N + 1 + 1 + 1, 0, none⟩) 1 1] := (hin 16 31 rfl (hp ⟨16, .data⟩ (by simp) rfl)).trans (hF 16 (hp ⟨16, .data⟩ (by simp) rfl))
      refine Does.call ?_ (wholds_any AnyB (.mk 8 0 [.mk 9 0 [.mk 2 1 []]]) 8 0 A15 n15 c15 (some ⟨N + 1, 0, none⟩) 1 (some ⟨N + 1 + 1 + 1, 0, none⟩) 1 [[true, false]] [[false, true]] 0 w hd15 (HM.out.next hG).l1 (HM.out.next hG).l2 (by decide) (by decide) (by decide)) ?_
      · go_simp
      · rintro e w' ⟨rfl, hb⟩
        exact ⟨_, rfl, hb, (congrArg Value.bool alive_3), hG.next hb⟩
    · intro listed σ w a hin hout hl hla hs hc hp hG hF
      refine Guarded.none rfl ?_
      have e27 : a.tmps.getD 27 undef = .bool true := (hin 12 27 rfl (hp ⟨12, .data⟩ (by simp) rfl)).trans (hF 12 (hp ⟨12, .data⟩ (by simp) rfl))
      have e32 : a.tmps.getD 32 undef = .bool true := (hin 17 32 rfl (hp ⟨17, .data⟩ (by simp) rfl)).trans (hF 17 (hp ⟨17, .data⟩ (by simp) rfl))
      refine Does.val (.bool true) (w' := w) ?_ ⟨Below.refl _ _, rfl, hG⟩
      simp only [Array.getD_eq_getD_getElem?] at e27 e32
      go_simp
    · intro listed σ w a hin hout hl hla hs hc hp hG hF
      refine Guarded.none rfl ?_
      have e33 : a.tmps.getD 33 undef = .bool true := (hin 18 33 rfl (hp ⟨18, .data⟩ (by simp) rfl)).trans (hF 18 (hp ⟨18, .data⟩ (by simp) rfl))
      refine Does.val (.bool true) (w' := w) ?_ ⟨Below.refl _ _, rfl, hG⟩
      simp only [Array.getD_eq_getD_getElem?] at e33
      go_simp
    · intro listed σ w a hin hout hl hla hs hc hp hG hF
      refine Guarded.some (d := 34) (b := true) rfl rfl ((hin 19 34 rfl (hp ⟨19, .guard⟩ (by simp) rfl)).trans (hF 19 (hp ⟨19, .guard⟩ (by simp) rfl))) ?_
      refine Or.inl ⟨rfl, ?_⟩
      have e3 : a.tmps.getD 3 undef = .pointer (some ⟨N + 1 + 1 + 1 + 1 + 1 + 1, 0, none⟩) := hout 3 (outB_spec (by kernel_rfl))
      have CC := SOF.out w hG; obtain ⟨C0, C1, C2, C3, C4, C5, C6, C7, C8, C9, C10, C11⟩ := CC
      refine Does.val (.agg #[.int .i64 2, .int .i64 1, .slice none 0 0]) (w' := w) ?_ ⟨Below.refl _ _, rfl, hG⟩
      go_simp
    · intro listed σ w a hin hout hl hla hs hc hp hG hF
      refine Guarded.some (d := 34) (b := true) rfl rfl ((hin 19 34 rfl (hp ⟨19, .guard⟩ (by simp) rfl)).trans (hF 19 (hp ⟨19, .guard⟩ (by simp) rfl))) ?_
      refine Or.inl ⟨rfl, ?_⟩
      have e1 : a.tmps.getD 1 undef = .pointer (some ⟨N + 1 + 1 + 1 + 1, 0, none⟩) := hout 1 (outB_spec (by kernel_rfl))
      have CC := SOF.out w hG; obtain ⟨C0, C1, C2, C3, C4, C5, C6, C7, C8, C9, C10, C11⟩ := CC
      refine Does.val (.agg #[.slice (some ⟨N + 1, 0, none⟩) 1 1, .slice (some ⟨N + 1 + 1 + 1, 0, none⟩) 1 1]) (w' := w) ?_ ⟨Below.refl _ _, rfl, hG⟩
      go_simp
    · intro listed σ w a hin hout hl hla hs hc hp hG hF
      refine Guarded.some (d := 34) (b := true) rfl rfl ((hin 19 34 rfl (hp ⟨19, .guard⟩ (by simp) rfl)).trans (hF 19 (hp ⟨19, .guard⟩ (by simp) rfl))) ?_
      refine Or.inl ⟨rfl, ?_⟩
      have e35 : a.tmps.getD 35 undef = .agg #[.int .i64 2, .int .i64 1, .slice none 0 0] := (hin 20 35 rfl (hp ⟨20, .data⟩ (by simp) rfl)).trans (hF 20 (hp ⟨20, .data⟩ (by simp) rfl))
      have e36 : a.tmps.getD 36 undef = .agg #[.slice (some ⟨N + 1, 0, none⟩) 1 1, .slice (some ⟨N + 1 + 1 + 1, 0, none⟩) 1 1] := (hin 21 36 rfl (hp ⟨21, .data⟩ (by simp) rfl)).trans (hF 21 (hp ⟨21, .data⟩ (by simp) rfl))
      refine Does.call ?_ (wholds_any AnyB (.mk 2 1 []) 2 1 none 0 0 (some ⟨N + 1, 0, none⟩) 1 (some ⟨N + 1 + 1 + 1, 0, none⟩) 1 [[true, false]] [[false, true]] 7 w (DIn.leaf _ _ _ _) (HM.out.next hG).l1 (HM.out.next hG).l2 (by decide) (by decide) (by decide)) ?_
      · go_simp
      · rintro e w' ⟨rfl, hb⟩
        exact ⟨_, rfl, hb, (congrArg Value.bool alive_4), hG.next hb⟩
    · intro listed σ w a hin hout hl hla hs hc hp hG hF
      refine Guarded.none rfl ?_
      have e34 : a.tmps.getD 34 undef = .bool true := (hin 19 34 rfl (hp ⟨19, .data⟩ (by simp) rfl)).trans (hF 19 (hp ⟨19, .data⟩ (by simp) rfl))
      have e37 : a.tmps.getD 37 undef = .bool true := (hin 22 37 rfl (hp ⟨22, .data⟩ (by simp) rfl)).trans (hF 22 (hp ⟨22, .data⟩ (by simp) rfl))
      refine Does.val (.bool true) (w' := w) ?_ ⟨Below.refl _ _, rfl, hG⟩
      simp only [Array.getD_eq_getD_getElem?] at e34 e37
      go_simp
    · intro listed σ w a hin hout hl hla hs hc hp hG hF
      refine Guarded.none rfl ?_
      have e38 : a.tmps.getD 38 undef = .bool true := (hin 23 38 rfl (hp ⟨23, .data⟩ (by simp) rfl)).trans (hF 23 (hp ⟨23, .data⟩ (by simp) rfl))
      refine Does.val (.bool true) (w' := w) ?_ ⟨Below.refl _ _, rfl, hG⟩
      simp only [Array.getD_eq_getD_getElem?] at e38
      go_simp
    · intro listed σ w a hin hout hl hla hs hc hp hG hF
      refine Guarded.some (d := 39) (b := true) rfl rfl ((hin 24 39 rfl (hp ⟨24, .guard⟩ (by simp) rfl)).trans (hF 24 (hp ⟨24, .guard⟩ (by simp) rfl))) ?_
      refine Or.inl ⟨rfl, ?_⟩
      have e4 : a.tmps.getD 4 undef = .pointer (some ⟨gp, 0, none⟩) := hout 4 (outB_spec (by kernel_rfl))
      refine Does.val (.pointer (some ⟨gp, 0, none⟩)) (w' := w) ?_ ⟨Below.refl _ _, rfl, hG⟩
      simp only [Array.getD_eq_getD_getElem?] at e4
      go_simp
    · intro listed σ w a hin hout hl hla hs hc hp hG hF
      refine Guarded.some (d := 39) (b := true) rfl rfl ((hin 24 39 rfl (hp ⟨24, .guard⟩ (by simp) rfl)).trans (hF 24 (hp ⟨24, .guard⟩ (by simp) rfl))) ?_
      refine Or.inl ⟨rfl, ?_⟩
      have e40 : a.tmps.getD 40 undef = .pointer (some ⟨gp, 0, none⟩) := (hin 25 40 rfl (hp ⟨25, .data⟩ (by simp) rfl)).trans (hF 25 (hp ⟨25, .data⟩ (by simp) rfl))
      have CC := SOF.out w hG; obtain ⟨C0, C1, C2, C3, C4, C5, C6, C7, C8, C9, C10, C11⟩ := CC
      refine Does.val (.int .i64 12) (w' := w) ?_ ⟨Below.refl _ _, rfl, hG⟩
      go_simp
    · intro listed σ w a hin hout hl hla hs hc hp hG hF
      refine Guarded.some (d := 39) (b := true) rfl rfl ((hin 24 39 rfl (hp ⟨24, .guard⟩ (by simp) rfl)).trans (hF 24 (hp ⟨24, .guard⟩ (by simp) rfl))) ?_
      refine Or.inl ⟨rfl, ?_⟩
      have e41 : a.tmps.getD 41 undef = .int .i64 12 := (hin 26 41 rfl (hp ⟨26, .data⟩ (by simp) rfl)).trans (hF 26 (hp ⟨26, .data⟩ (by simp) rfl))
      refine Does.val (.bool true) (w' := w) ?_ ⟨Below.refl _ _, rfl, hG⟩
      simp only [Array.getD_eq_getD_getElem?] at e41
      go_simp
    · intro listed σ w a hin hout hl hla hs hc hp hG hF
      refine Guarded.none rfl ?_
      have e39 : a.tmps.getD 39 undef = .bool true := (hin 24 39 rfl (hp ⟨24, .data⟩ (by simp) rfl)).trans (hF 24 (hp ⟨24, .data⟩ (by simp) rfl))
      have e42 : a.tmps.getD 42 undef = .bool true := (hin 27 42 rfl (hp ⟨27, .data⟩ (by simp) rfl)).trans (hF 27 (hp ⟨27, .data⟩ (by simp) rfl))
      refine Does.val (.bool true) (w' := w) ?_ ⟨Below.refl _ _, rfl, hG⟩
      simp only [Array.getD_eq_getD_getElem?] at e39 e42
      go_simp
    · intro listed σ w a hin hout hl hla hs hc hp hG hF
      refine Guarded.none rfl ?_
      have e43 : a.tmps.getD 43 undef = .bool true := (hin 28 43 rfl (hp ⟨28, .data⟩ (by simp) rfl)).trans (hF 28 (hp ⟨28, .data⟩ (by simp) rfl))
      refine Does.val (.bool true) (w' := w) ?_ ⟨Below.refl _ _, rfl, hG⟩
      simp only [Array.getD_eq_getD_getElem?] at e43
      go_simp
    · intro listed σ w a hin hout hl hla hs hc hp hG hF
      refine Guarded.some (d := 44) (b := true) rfl rfl ((hin 29 44 rfl (hp ⟨29, .guard⟩ (by simp) rfl)).trans (hF 29 (hp ⟨29, .guard⟩ (by simp) rfl))) ?_
      refine Or.inl ⟨rfl, ?_⟩
      have e4 : a.tmps.getD 4 undef = .pointer (some ⟨gp, 0, none⟩) := hout 4 (outB_spec (by kernel_rfl))
      refine Does.val (.pointer (some ⟨gp, 2, none⟩)) (w' := w) ?_ ⟨Below.refl _ _, rfl, hG⟩
      simp only [Array.getD_eq_getD_getElem?] at e4
      go_simp
    · intro listed σ w a hin hout hl hla hs hc hp hG hF
      refine Guarded.some (d := 44) (b := true) rfl rfl ((hin 29 44 rfl (hp ⟨29, .guard⟩ (by simp) rfl)).trans (hF 29 (hp ⟨29, .guard⟩ (by simp) rfl))) ?_
      refine Or.inl ⟨rfl, ?_⟩
      have e45 : a.tmps.getD 45 undef = .pointer (some ⟨gp, 2, none⟩) := (hin 30 45 rfl (hp ⟨30, .data⟩ (by simp) rfl)).trans (hF 30 (hp ⟨30, .data⟩ (by simp) rfl))
      have CC := SOF.out w hG; obtain ⟨C0, C1, C2, C3, C4, C5, C6, C7, C8, C9, C10, C11⟩ := CC
      refine Does.val (.slice (some ⟨be, oe, none⟩) 2 pc) (w' := w) ?_ ⟨Below.refl _ _, rfl, hG⟩
      go_simp
    · intro listed σ w a hin hout hl hla hs hc hp hG hF
      refine Guarded.some (d := 44) (b := true) rfl rfl ((hin 29 44 rfl (hp ⟨29, .guard⟩ (by simp) rfl)).trans (hF 29 (hp ⟨29, .guard⟩ (by simp) rfl))) ?_
      refine Or.inl ⟨rfl, ?_⟩
      have e46 : a.tmps.getD 46 undef = .slice (some ⟨be, oe, none⟩) 2 pc := (hin 31 46 rfl (hp ⟨31, .data⟩ (by simp) rfl)).trans (hF 31 (hp ⟨31, .data⟩ (by simp) rfl))
      refine Does.val (.pointer (some ⟨be, oe + 3, none⟩)) (w' := w) ?_ ⟨Below.refl _ _, rfl, hG⟩
      simp only [Array.getD_eq_getD_getElem?] at e46
      go_simp
      (try (intro hh; exfalso; omega))
    · intro listed σ w a hin hout hl hla hs hc hp hG hF
      refine Guarded.some (d := 44) (b := true) rfl rfl ((hin 29 44 rfl (hp ⟨29, .guard⟩ (by simp) rfl)).trans (hF 29 (hp ⟨29, .guard⟩ (by simp) rfl))) ?_
      refine Or.inl ⟨rfl, ?_⟩
      have e47 : a.tmps.getD 47 undef = .pointer (some ⟨be, oe + 3, none⟩) := (hin 32 47 rfl (hp ⟨32, .data⟩ (by simp) rfl)).trans (hF 32 (hp ⟨32, .data⟩ (by simp) rfl))
      refine Does.val (.pointer (some ⟨be, oe + 3, none⟩)) (w' := w) ?_ ⟨Below.refl _ _, rfl, hG⟩
      simp only [Array.getD_eq_getD_getElem?] at e47
      go_simp
    · intro listed σ w a hin hout hl hla hs hc hp hG hF
      refine Guarded.some (d := 44) (b := true) rfl rfl ((hin 29 44 rfl (hp ⟨29, .guard⟩ (by simp) rfl)).trans (hF 29 (hp ⟨29, .guard⟩ (by simp) rfl))) ?_
      refine Or.inl ⟨rfl, ?_⟩
      have e48 : a.tmps.getD 48 undef = .pointer (some ⟨be, oe + 3, none⟩) := (hin 33 48 rfl (hp ⟨33, .data⟩ (by simp) rfl)).trans (hF 33 (hp ⟨33, .data⟩ (by simp) rfl))
      have CC := SOF.out w hG; obtain ⟨C0, C1, C2, C3, C4, C5, C6, C7, C8, C9, C10, C11⟩ := CC
      refine Does.val (.int .i64 3) (w' := w) ?_ ⟨Below.refl _ _, rfl, hG⟩
      go_simp
    · intro listed σ w a hin hout hl hla hs hc hp hG hF
      refine Guarded.some (d := 44) (b := true) rfl rfl ((hin 29 44 rfl (hp ⟨29, .guard⟩ (by simp) rfl)).trans (hF 29 (hp ⟨29, .guard⟩ (by simp) rfl))) ?_
      refine Or.inl ⟨rfl, ?_⟩
      have e49 : a.tmps.getD 49 undef = .int .i64 3 := (hin 34 49 rfl (hp ⟨34, .data⟩ (by simp) rfl)).trans (hF 34 (hp ⟨34, .data⟩ (by simp) rfl))
      refine Does.val (.bool true) (w' := w) ?_ ⟨Below.refl _ _, rfl, hG⟩
      simp only [Array.getD_eq_getD_getElem?] at e49
      go_simp
    · intro listed σ w a hin hout hl hla hs hc hp hG hF
      refine Guarded.none rfl ?_
      have e44 : a.tmps.getD 44 undef = .bool true := (hin 29 44 rfl (hp ⟨29, .data⟩ (by simp) rfl)).trans (hF 29 (hp ⟨29, .data⟩ (by simp) rfl))
      have e50 : a.tmps.getD 50 undef = .bool true := (hin 35 50 rfl (hp ⟨35, .data⟩ (by simp) rfl)).trans (hF 35 (hp ⟨35, .data⟩ (by simp) rfl))
      refine Does.val (.bool true) (w' := w) ?_ ⟨Below.refl _ _, rfl, hG⟩
      simp only [Array.getD_eq_getD_getElem?] at e44 e50
      go_simp
    · intro listed σ w a hin hout hl hla hs hc hp hG hF
      refine Guarded.none rfl ?_
      have e51 : a.tmps.getD 51 undef = .bool true := (hin 36 51 rfl (hp ⟨36, .data⟩ (by simp) rfl)).trans (hF 36 (hp ⟨36, .data⟩ (by simp) rfl))
      refine Does.val (.bool true) (w' := w) ?_ ⟨Below.refl _ _, rfl, hG⟩
      simp only [Array.getD_eq_getD_getElem?] at e51
      go_simp
    · intro listed σ w a hin hout hl hla hs hc hp hG hF
      refine Guarded.some (d := 52) (b := true) rfl rfl ((hin 37 52 rfl (hp ⟨37, .guard⟩ (by simp) rfl)).trans (hF 37 (hp ⟨37, .guard⟩ (by simp) rfl))) ?_
      refine Or.inl ⟨rfl, ?_⟩
      have e4 : a.tmps.getD 4 undef = .pointer (some ⟨gp, 0, none⟩) := hout 4 (outB_spec (by kernel_rfl))
      have CC := SOF.out w hG; obtain ⟨C0, C1, C2, C3, C4, C5, C6, C7, C8, C9, C10, C11⟩ := CC
      refine Does.val (.agg #[.int .i64 12, .int .i64 0, .slice (some ⟨be, oe, none⟩) 2 pc]) (w' := w) ?_ ⟨Below.refl _ _, rfl, hG⟩
      go_simp
    · intro listed σ w a hin hout hl hla hs hc hp hG hF
      refine Guarded.some (d := 52) (b := true) rfl rfl ((hin 37 52 rfl (hp ⟨37, .guard⟩ (by simp) rfl)).trans (hF 37 (hp ⟨37, .guard⟩ (by simp) rfl))) ?_
      refine Or.inl ⟨rfl, ?_⟩
      have e53 : a.tmps.getD 53 undef = .agg #[.int .i64 12, .int .i64 0, .slice (some ⟨be, oe, none⟩) 2 pc] := (hin 38 53 rfl (hp ⟨38, .data⟩ (by simp) rfl)).trans (hF 38 (hp ⟨38, .data⟩ (by simp) rfl))
      refine Does.call ?_ (wsize_any 10 (by decide) AnyB (.mk 12 0 [.mk 1 0 [], .mk 3 0 [.mk 2 0 []]]) 12 0 (some ⟨be, oe, none⟩) 2 pc w (by rw [alive_n]; decide) (HDP.out.keep (Keep.of_below hG))) ?_
      · go_simp
      · rintro e w' ⟨rfl, hb⟩
        exact ⟨_, rfl, hb, alive_5s, hG.next hb⟩
    · intro listed σ w a hin hout hl hla hs hc hp hG hF
      refine Guarded.some (d := 52) (b := true) rfl rfl ((hin 37 52 rfl (hp ⟨37, .guard⟩ (by simp) rfl)).trans (hF 37 (hp ⟨37, .guard⟩ (by simp) rfl))) ?_
      refine Or.inl ⟨rfl, ?_⟩
      have e54 : a.tmps.getD 54 undef = .int .i64 4 := (hin 39 54 rfl (hp ⟨39, .data⟩ (by simp) rfl)).trans (hF 39 (hp ⟨39, .data⟩ (by simp) rfl))
      refine Does.val (.bool true) (w' := w) ?_ ⟨Below.refl _ _, rfl, hG⟩
      simp only [Array.getD_eq_getD_getElem?] at e54
      go_simp
    · intro listed σ w a hin hout hl hla hs hc hp hG hF
      refine Guarded.none rfl ?_
      have e52 : a.tmps.getD 52 undef = .bool true := (hin 37 52 rfl (hp ⟨37, .data⟩ (by simp) rfl)).trans (hF 37 (hp ⟨37, .data⟩ (by simp) rfl))
      have e55 : a.tmps.getD 55 undef = .bool true := (hin 40 55 rfl (hp ⟨40, .data⟩ (by simp) rfl)).trans (hF 40 (hp ⟨40, .data⟩ (by simp) rfl))
      refine Does.val (.bool true) (w' := w) ?_ ⟨Below.refl _ _, rfl, hG⟩
      simp only [Array.getD_eq_getD_getElem?] at e52 e55
      go_simp
    · intro listed σ w a hin hout hl hla hs hc hp hG hF
      refine Guarded.none rfl ?_
      have e56 : a.tmps.getD 56 undef = .bool true := (hin 41 56 rfl (hp ⟨41, .data⟩ (by simp) rfl)).trans (hF 41 (hp ⟨41, .data⟩ (by simp) rfl))
      refine Does.val (.bool true) (w' := w) ?_ ⟨Below.refl _ _, rfl, hG⟩
      simp only [Array.getD_eq_getD_getElem?] at e56
      go_simp
    · intro listed σ w a hin hout hl hla hs hc hp hG hF
      refine Guarded.some (d := 57) (b := true) rfl rfl ((hin 42 57 rfl (hp ⟨42, .guard⟩ (by simp) rfl)).trans (hF 42 (hp ⟨42, .guard⟩ (by simp) rfl))) ?_
      refine Or.inl ⟨rfl, ?_⟩
      have e4 : a.tmps.getD 4 undef = .pointer (some ⟨gp, 0, none⟩) := hout 4 (outB_spec (by kernel_rfl))
      have CC := SOF.out w hG; obtain ⟨C0, C1, C2, C3, C4, C5, C6, C7, C8, C9, C10, C11⟩ := CC
      refine Does.val (.agg #[.int .i64 12, .int .i64 0, .slice (some ⟨be, oe, none⟩) 2 pc]) (w' := w) ?_ ⟨Below.refl _ _, rfl, hG⟩
      go_simp
    · intro listed σ w a hin hout hl hla hs hc hp hG hF
      refine Guarded.some (d := 57) (b := true) rfl rfl ((hin 42 57 rfl (hp ⟨42, .guard⟩ (by simp) rfl)).trans (hF 42 (hp ⟨42, .guard⟩ (by simp) rfl))) ?_
      refine Or.inl ⟨rfl, ?_⟩
      have e4 : a.tmps.getD 4 undef = .pointer (some ⟨gp, 0, none⟩) := hout 4 (outB_spec (by kernel_rfl))
      have CC := SOF.out w hG; obtain ⟨C0, C1, C2, C3, C4, C5, C6, C7, C8, C9, C10, C11⟩ := CC
      refine Does.val (.agg #[.int .i64 12, .int .i64 0, .slice (some ⟨be, oe, none⟩) 2 pc]) (w' := w) ?_ ⟨Below.refl _ _, rfl, hG⟩
      go_simp
    · intro listed σ w a hin hout hl hla hs hc hp hG hF
      refine Guarded.some (d := 57) (b := true) rfl rfl ((hin 42 57 rfl (hp ⟨42, .guard⟩ (by simp) rfl)).trans (hF 42 (hp ⟨42, .guard⟩ (by simp) rfl))) ?_
      refine Or.inl ⟨rfl, ?_⟩
      have e58 : a.tmps.getD 58 undef = .agg #[.int .i64 12, .int .i64 0, .slice (some ⟨be, oe, none⟩) 2 pc] := (hin 43 58 rfl (hp ⟨43, .data⟩ (by simp) rfl)).trans (hF 43 (hp ⟨43, .data⟩ (by simp) rfl))
      have e59 : a.tmps.getD 59 undef = .agg #[.int .i64 12, .int .i64 0, .slice (some ⟨be, oe, none⟩) 2 pc] := (hin 44 59 rfl (hp ⟨44, .data⟩ (by simp) rfl)).trans (hF 44 (hp ⟨44, .data⟩ (by simp) rfl))
      refine Does.call ?_ (wsame_any 10 AnyB AnyB (.mk 12 0 [.mk 1 0 [], .mk 3 0 [.mk 2 0 []]]) (.mk 12 0 [.mk 1 0 [], .mk 3 0 [.mk 2 0 []]]) 12 0 (some ⟨be, oe, none⟩) 2 pc 12 0 (some ⟨be, oe, none⟩) 2 pc w (by rw [alive_n]; decide) (HDP.out.keep (Keep.of_below hG)) (HDP.out.keep (Keep.of_below hG))) ?_
      · go_simp
      · rintro e w' ⟨rfl, hb⟩
        exact ⟨_, rfl, hb, (congrArg Value.bool (decide_eq_true rfl)), hG.next hb⟩
    · intro listed σ w a hin hout hl hla hs hc hp hG hF
      refine Guarded.none rfl ?_
      have e57 : a.tmps.getD 57 undef = .bool true := (hin 42 57 rfl (hp ⟨42, .data⟩ (by simp) rfl)).trans (hF 42 (hp ⟨42, .data⟩ (by simp) rfl))
      have e60 : a.tmps.getD 60 undef = .bool true := (hin 45 60 rfl (hp ⟨45, .data⟩ (by simp) rfl)).trans (hF 45 (hp ⟨45, .data⟩ (by simp) rfl))
      refine Does.val (.bool true) (w' := w) ?_ ⟨Below.refl _ _, rfl, hG⟩
      simp only [Array.getD_eq_getD_getElem?] at e57 e60
      go_simp
    · intro listed σ w a hin hout hl hla hs hc hp hG hF
      refine Guarded.none rfl ?_
      have e61 : a.tmps.getD 61 undef = .bool true := (hin 46 61 rfl (hp ⟨46, .data⟩ (by simp) rfl)).trans (hF 46 (hp ⟨46, .data⟩ (by simp) rfl))
      refine Does.val (.bool true) (w' := w) ?_ ⟨Below.refl _ _, rfl, hG⟩
      simp only [Array.getD_eq_getD_getElem?] at e61
      go_simp
    · intro listed σ w a hin hout hl hla hs hc hp hG hF
      refine Guarded.some (d := 62) (b := true) rfl rfl ((hin 47 62 rfl (hp ⟨47, .guard⟩ (by simp) rfl)).trans (hF 47 (hp ⟨47, .guard⟩ (by simp) rfl))) ?_
      refine Or.inl ⟨rfl, ?_⟩
      have e2 : a.tmps.getD 2 undef = .pointer (some ⟨N + 1 + 1 + 1 + 1 + 1, 0, none⟩) := hout 2 (outB_spec (by kernel_rfl))
      have CC := SOF.out w hG; obtain ⟨C0, C1, C2, C3, C4, C5, C6, C7, C8, C9, C10, C11⟩ := CC
      refine Does.val (.agg #[.int .i64 2, .int .i64 0, .slice none 0 0]) (w' := w) ?_ ⟨Below.refl _ _, rfl, hG⟩
      go_simp
    · intro listed σ w a hin hout hl hla hs hc hp hG hF
      refine Guarded.some (d := 62) (b := true) rfl rfl ((hin 47 62 rfl (hp ⟨47, .guard⟩ (by simp) rfl)).trans (hF 47 (hp ⟨47, .guard⟩ (by simp) rfl))) ?_
      refine Or.inl ⟨rfl, ?_⟩
      have e3 : a.tmps.getD 3 undef = .pointer (some ⟨N + 1 + 1 + 1 + 1 + 1 + 1, 0, none⟩) := hout 3 (outB_spec (by kernel_rfl))
      have CC := SOF.out w hG; obtain ⟨C0, C1, C2, C3, C4, C5, C6, C7, C8, C9, C10, C11⟩ := CC
      refine Does.val (.agg #[.int .i64 2, .int .i64 1, .slice none 0 0]) (w' := w) ?_ ⟨Below.refl _ _, rfl, hG⟩
      go_simp
    · intro listed σ w a hin hout hl hla hs hc hp hG hF
      refine Guarded.some (d := 62) (b := true) rfl rfl ((hin 47 62 rfl (hp ⟨47, .guard⟩ (by simp) rfl)).trans (hF 47 (hp ⟨47, .guard⟩ (by simp) rfl))) ?_
      refine Or.inl ⟨rfl, ?_⟩
      have e63 : a.tmps.getD 63 undef = .agg #[.int .i64 2, .int .i64 0, .slice none 0 0] := (hin 48 63 rfl (hp ⟨48, .data⟩ (by simp) rfl)).trans (hF 48 (hp ⟨48, .data⟩ (by simp) rfl))
      have e64 : a.tmps.getD 64 undef = .agg #[.int .i64 2, .int .i64 1, .slice none 0 0] := (hin 49 64 rfl (hp ⟨49, .data⟩ (by simp) rfl)).trans (hF 49 (hp ⟨49, .data⟩ (by simp) rfl))
      refine Does.call ?_ (wsame_any 10 AnyB AnyB (.mk 2 0 []) (.mk 2 1 []) 2 0 none 0 0 2 1 none 0 0 w (by rw [norm_f2]; decide) (DIn.leaf _ _ _ _) (DIn.leaf _ _ _ _)) ?_
      · go_simp
      · rintro e w' ⟨rfl, hb⟩
        exact ⟨_, rfl, hb, (congrArg Value.bool alive_5), hG.next hb⟩
    · intro listed σ w a hin hout hl hla hs hc hp hG hF
      refine Guarded.some (d := 62) (b := true) rfl rfl ((hin 47 62 rfl (hp ⟨47, .guard⟩ (by simp) rfl)).trans (hF 47 (hp ⟨47, .guard⟩ (by simp) rfl))) ?_
      refine Or.inl ⟨rfl, ?_⟩
      have e65 : a.tmps.getD 65 undef = .bool false := (hin 50 65 rfl (hp ⟨50, .data⟩ (by simp) rfl)).trans (hF 50 (hp ⟨50, .data⟩ (by simp) rfl))
      refine Does.val (.bool true) (w' := w) ?_ ⟨Below.refl _ _, rfl, hG⟩
      simp only [Array.getD_eq_getD_getElem?] at e65
      go_simp
    · intro listed σ w a hin hout hl hla hs hc hp hG hF
      refine Guarded.none rfl ?_
      have e62 : a.tmps.getD 62 undef = .bool true := (hin 47 62 rfl (hp ⟨47, .data⟩ (by simp) rfl)).trans (hF 47 (hp ⟨47, .data⟩ (by simp) rfl))
      have e66 : a.tmps.getD 66 undef = .bool true := (hin 51 66 rfl (hp ⟨51, .data⟩ (by simp) rfl)).trans (hF 51 (hp ⟨51, .data⟩ (by simp) rfl))
      refine Does.val (.bool true) (w' := w) ?_ ⟨Below.refl _ _, rfl, hG⟩
      simp only [Array.getD_eq_getD_getElem?] at e62 e66
      go_simp
    · intro listed σ w a hin hout hl hla hs hc hp hG hF
      refine Guarded.none rfl ?_
      have e67 : a.tmps.getD 67 undef = .bool true := (hin 52 67 rfl (hp ⟨52, .data⟩ (by simp) rfl)).trans (hF 52 (hp ⟨52, .data⟩ (by simp) rfl))
      refine Does.val (.bool true) (w' := w) ?_ ⟨Below.refl _ _, rfl, hG⟩
      simp only [Array.getD_eq_getD_getElem?] at e67
      go_simp
    · intro listed σ w a hin hout hl hla hs hc hp hG hF
      refine Guarded.some (d := 68) (b := true) rfl rfl ((hin 53 68 rfl (hp ⟨53, .guard⟩ (by simp) rfl)).trans (hF 53 (hp ⟨53, .guard⟩ (by simp) rfl))) ?_
      refine Or.inl ⟨rfl, ?_⟩
      have e1 : a.tmps.getD 1 undef = .pointer (some ⟨N + 1 + 1 + 1 + 1, 0, none⟩) := hout 1 (outB_spec (by kernel_rfl))
      have CC := SOF.out w hG; obtain ⟨C0, C1, C2, C3, C4, C5, C6, C7, C8, C9, C10, C11⟩ := CC
      refine Does.val (.agg #[.slice (some ⟨N + 1, 0, none⟩) 1 1, .slice (some ⟨N + 1 + 1 + 1, 0, none⟩) 1 1]) (w' := w) ?_ ⟨Below.refl _ _, rfl, hG⟩
      go_simp
    · intro listed σ w a hin hout hl hla hs hc hp hG hF
      refine Guarded.some (d := 68) (b := true) rfl rfl ((hin 53 68 rfl (hp ⟨53, .guard⟩ (by simp) rfl)).trans (hF 53 (hp ⟨53, .guard⟩ (by simp) rfl))) ?_
      refine Or.inl ⟨rfl, ?_⟩
      have e69 : a.tmps.getD 69 undef = .agg #[.slice (some ⟨N + 1, 0, none⟩) 1 1, .slice (some ⟨N + 1 + 1 + 1, 0, none⟩) 1 1] := (hin 54 69 rfl (hp ⟨54, .data⟩ (by simp) rfl)).trans (hF 54 (hp ⟨54, .data⟩ (by simp) rfl))
      refine Does.call ?_ (wshift_cycle AnyB (some ⟨N + 1, 0, none⟩) 1 (some ⟨N + 1 + 1 + 1, 0, none⟩) 1 [[true, false]] [[false, true]] 1 w (HM.out.next hG).l1 (HM.out.next hG).l2 (by decide) (by decide) (by decide) (by decide) (by decide) (by decide) 0 (by decide)) ?_
      · go_simp
      · rintro e w' ⟨A, c, B, d, rfl, -, -, hb⟩
        exact ⟨_, rfl, hb, ⟨A, c, _, rfl⟩, hG.next hb⟩
    · intro listed σ w a hin hout hl hla hs hc hp hG hF
      refine Guarded.some (d := 68) (b := true) rfl rfl ((hin 53 68 rfl (hp ⟨53, .guard⟩ (by simp) rfl)).trans (hF 53 (hp ⟨53, .guard⟩ (by simp) rfl))) ?_
      refine Or.inl ⟨rfl, ?_⟩
      have e70 := hin 55 70 rfl (hp ⟨55, .data⟩ (by simp) rfl)
      obtain ⟨A55, c55, x55, ev55⟩ := hF 55 (hp ⟨55, .data⟩ (by simp) rfl)
      rw [ev55] at e70
      refine Does.val (.slice A55 0 c55) (w' := w) ?_ ⟨Below.refl _ _, ⟨A55, c55, rfl⟩, hG⟩
      simp only [Array.getD_eq_getD_getElem?] at e70
      go_simp
    · intro listed σ w a hin hout hl hla hs hc hp hG hF
      refine Guarded.some (d := 68) (b := true) rfl rfl ((hin 53 68 rfl (hp ⟨53, .guard⟩ (by simp) rfl)).trans (hF 53 (hp ⟨53, .guard⟩ (by simp) rfl))) ?_
      refine Or.inl ⟨rfl, ?_⟩
      have e71 := hin 56 71 rfl (hp ⟨56, .data⟩ (by simp) rfl)
      obtain ⟨A56, c56, ev56⟩ := hF 56 (hp ⟨56, .data⟩ (by simp) rfl)
      rw [ev56] at e71
      refine Does.val (.int .i64 0) (w' := w) ?_ ⟨Below.refl _ _, rfl, hG⟩
      simp only [Array.getD_eq_getD_getElem?] at e71
      go_simp
    · intro listed σ w a hin hout hl hla hs hc hp hG hF
      refine Guarded.some (d := 68) (b := true) rfl rfl ((hin 53 68 rfl (hp ⟨53, .guard⟩ (by simp) rfl)).trans (hF 53 (hp ⟨53, .guard⟩ (by simp) rfl))) ?_
      refine Or.inl ⟨rfl, ?_⟩
      have e72 : a.tmps.getD 72 undef = .int .i64 0 := (hin 57 72 rfl (hp ⟨57, .data⟩ (by simp) rfl)).trans (hF 57 (hp ⟨57, .data⟩ (by simp) rfl))
      refine Does.val (.bool true) (w' := w) ?_ ⟨Below.refl _ _, rfl, hG⟩
      simp only [Array.getD_eq_getD_getElem?] at e72
      go_simp
    · intro listed σ w a hin hout hl hla hs hc hp hG hF
      refine Guarded.none rfl ?_
      have e68 : a.tmps.getD 68 undef = .bool true := (hin 53 68 rfl (hp ⟨53, .data⟩ (by simp) rfl)).trans (hF 53 (hp ⟨53, .data⟩ (by simp) rfl))
      have e73 : a.tmps.getD 73 undef = .bool true := (hin 58 73 rfl (hp ⟨58, .data⟩ (by simp) rfl)).trans (hF 58 (hp ⟨58, .data⟩ (by simp) rfl))
      refine Does.val (.bool true) (w' := w) ?_ ⟨Below.refl _ _, rfl, hG⟩
      simp only [Array.getD_eq_getD_getElem?] at e68 e73
      go_simp
    · intro listed σ w a hin hout hl hla hs hc hp hG hF
      refine Guarded.none rfl ?_
      have e74 : a.tmps.getD 74 undef = .bool true := (hin 59 74 rfl (hp ⟨59, .data⟩ (by simp) rfl)).trans (hF 59 (hp ⟨59, .data⟩ (by simp) rfl))
      refine Does.val (.bool true) (w' := w) ?_ ⟨Below.refl _ _, rfl, hG⟩
      simp only [Array.getD_eq_getD_getElem?] at e74
      go_simp
    · intro listed σ w a hin hout hl hla hs hc hp hG hF
      refine Guarded.some (d := 75) (b := true) rfl rfl ((hin 60 75 rfl (hp ⟨60, .guard⟩ (by simp) rfl)).trans (hF 60 (hp ⟨60, .guard⟩ (by simp) rfl))) ?_
      refine Or.inl ⟨rfl, ?_⟩
      have e1 : a.tmps.getD 1 undef = .pointer (some ⟨N + 1 + 1 + 1 + 1, 0, none⟩) := hout 1 (outB_spec (by kernel_rfl))
      have CC := SOF.out w hG; obtain ⟨C0, C1, C2, C3, C4, C5, C6, C7, C8, C9, C10, C11⟩ := CC
      refine Does.val (.agg #[.slice (some ⟨N + 1, 0, none⟩) 1 1, .slice (some ⟨N + 1 + 1 + 1, 0, none⟩) 1 1]) (w' := w) ?_ ⟨Below.refl _ _, rfl, hG⟩
      go_simp
    · intro listed σ w a hin hout hl hla hs hc hp hG hF
      refine Guarded.some (d := 75) (b := true) rfl rfl ((hin 60 75 rfl (hp ⟨60, .guard⟩ (by simp) rfl)).trans (hF 60 (hp ⟨60, .guard⟩ (by simp) rfl))) ?_
      refine Or.inl ⟨rfl, ?_⟩
      have e76 : a.tmps.getD 76 undef = .agg #[.slice (some ⟨N + 1, 0, none⟩) 1 1, .slice (some ⟨N + 1 + 1 + 1, 0, none⟩) 1 1] := (hin 61 76 rfl (hp ⟨61, .data⟩ (by simp) rfl)).trans (hF 61 (hp ⟨61, .data⟩ (by simp) rfl))
      refine Does.call ?_ (wunroll_any AnyB (some ⟨N + 1, 0, none⟩) 1 (some ⟨N + 1 + 1 + 1, 0, none⟩) 1 [[true, false]] [[false, true]] 2 2 w (HM.out.next hG).l1 (HM.out.next hG).l2 (by decide) (by decide) (by decide) (by decide) (by decide) (by decide)) ?_
      · go_simp
      · rintro e w' ⟨A, c, B, d, rfl, -, -, hb⟩
        exact ⟨_, rfl, hb, ⟨A, c, _, rfl⟩, hG.next hb⟩
    · intro listed σ w a hin hout hl hla hs hc hp hG hF
      refine Guarded.some (d := 75) (b := true) rfl rfl ((hin 60 75 rfl (hp ⟨60, .guard⟩ (by simp) rfl)).trans (hF 60 (hp ⟨60, .guard⟩ (by simp) rfl))) ?_
      refine Or.inl ⟨rfl, ?_⟩
      have e77 := hin 62 77 rfl (hp ⟨62, .data⟩ (by simp) rfl)
      obtain ⟨A62, c62, x62, ev62⟩ := hF 62 (hp ⟨62, .data⟩ (by simp) rfl)
      rw [ev62] at e77
      refine Does.val (.slice A62 3 c62) (w' := w) ?_ ⟨Below.refl _ _, ⟨A62, c62, rfl⟩, hG⟩
      simp only [Array.getD_eq_getD_getElem?] at e77
      go_simp
    · intro listed σ w a hin hout hl hla hs hc hp hG hF
      refine Guarded.some (d := 75) (b := true) rfl rfl ((hin 60 75 rfl (hp ⟨60, .guard⟩ (by simp) rfl)).trans (hF 60 (hp ⟨60, .guard⟩ (by simp) rfl))) ?_
      refine Or.inl ⟨rfl, ?_⟩
      have e78 := hin 63 78 rfl (hp ⟨63, .data⟩ (by simp) rfl)
      obtain ⟨A63, c63, ev63⟩ := hF 63 (hp ⟨63, .data⟩ (by simp) rfl)
      rw [ev63] at e78
      refine Does.val (.int .i64 3) (w' := w) ?_ ⟨Below.refl _ _, rfl, hG⟩
      simp only [Array.getD_eq_getD_getElem?] at e78
      go_simp
    · intro listed σ w a hin hout hl hla hs hc hp hG hF
      refine Guarded.some (d := 75) (b := true) rfl rfl ((hin 60 75 rfl (hp ⟨60, .guard⟩ (by simp) rfl)).trans (hF 60 (hp ⟨60, .guard⟩ (by simp) rfl))) ?_
      refine Or.inl ⟨rfl, ?_⟩
      have e79 : a.tmps.getD 79 undef = .int .i64 3 := (hin 64 79 rfl (hp ⟨64, .data⟩ (by simp) rfl)).trans (hF 64 (hp ⟨64, .data⟩ (by simp) rfl))
      refine Does.val (.bool true) (w' := w) ?_ ⟨Below.refl _ _, rfl, hG⟩
      simp only [Array.getD_eq_getD_getElem?] at e79
      go_simp
    · intro listed σ w a hin hout hl hla hs hc hp hG hF
      refine Guarded.none rfl ?_
      have e75 : a.tmps.getD 75 undef = .bool true := (hin 60 75 rfl (hp ⟨60, .data⟩ (by simp) rfl)).trans (hF 60 (hp ⟨60, .data⟩ (by simp) rfl))
      have e80 : a.tmps.getD 80 undef = .bool true := (hin 65 80 rfl (hp ⟨65, .data⟩ (by simp) rfl)).trans (hF 65 (hp ⟨65, .data⟩ (by simp) rfl))
      refine Does.val (.bool true) (w' := w) ?_ ⟨Below.refl _ _, rfl, hG⟩
      simp only [Array.getD_eq_getD_getElem?] at e75 e80
      go_simp
  · intro o ho
    injection ho with ho; subst ho
    intro listed σ w a hall hin hout hG hF
    refine Guarded.none rfl ?_
    have e81 : a.tmps.getD 81 undef = .bool true := (hin 66 81 rfl (by decide)).trans (hF 66 (by decide))
    refine Does.val (.bool true) (w' := w) (by simp only [Array.getD_eq_getD_getElem?] at *; go_simp) ?_
    rw [show fin _ σ (.bool true) _ = (Act.put (Act.put (Act.put (Act.put (Act.put (Act.put (Act.put (Act.put (Act.put (Act.put (Act.put (Act.put (Act.put (Act.put (Act.put (Act.put (Act.put (Act.put (Act.put (Act.put (Act.put (Act.put (Act.put (Act.put (Act.put (Act.put (Act.put (Act.put (Act.put (Act.put (Act.put (Act.put (Act.put (Act.put (Act.put (Act.put (Act.put (Act.put (Act.put (Act.put (Act.put (Act.put (Act.put (Act.put (Act.put (Act.put (Act.put (Act.put (Act.put (Act.put (Act.put (Act.put (Act.put (Act.put (Act.put (Act.put (Act.put (Act.put (Act.put (Act.put (Act.put (Act.put (Act.put (Act.put (Act.put (Act.put (Act.put (Act.put _ (some 15) (σ 0)) (some 16) (σ 1)) (some 17) (σ 2)) (some 18) (σ 3)) (some 19) (σ 4)) (some 20) (σ 5)) (some 21) (σ 6)) (some 22) (σ 7)) (some 23) (σ 8)) (some 24) (σ 9)) (some 25) (σ 10)) (some 26) (σ 11)) (some 27) (σ 12)) (some 28) (σ 13)) (some 29) (σ 14)) (some 30) (σ 15)) (some 31) (σ 16)) (some 32) (σ 17)) (some 33) (σ 18)) (some 34) (σ 19)) (some 35) (σ 20)) (some 36) (σ 21)) (some 37) (σ 22)) (some 38) (σ 23)) (some 39) (σ 24)) (some 40) (σ 25)) (some 41) (σ 26)) (some 42) (σ 27)) (some 43) (σ 28)) (some 44) (σ 29)) (some 45) (σ 30)) (some 46) (σ 31)) (some 47) (σ 32)) (some 48) (σ 33)) (some 49) (σ 34)) (some 50) (σ 35)) (some 51) (σ 36)) (some 52) (σ 37)) (some 53) (σ 38)) (some 54) (σ 39)) (some 55) (σ 40)) (some 56) (σ 41)) (some 57) (σ 42)) (some 58) (σ 43)) (some 59) (σ 44)) (some 60) (σ 45)) (some 61) (σ 46)) (some 62) (σ 47)) (some 63) (σ 48)) (some 64) (σ 49)) (some 65) (σ 50)) (some 66) (σ 51)) (some 67) (σ 52)) (some 68) (σ 53)) (some 69) (σ 54)) (some 70) (σ 55)) (some 71) (σ 56)) (some 72) (σ 57)) (some 73) (σ 58)) (some 74) (σ 59)) (some 75) (σ 60)) (some 76) (σ 61)) (some 77) (σ 62)) (some 78) (σ 63)) (some 79) (σ 64)) (some 80) (σ 65)) (some 81) (σ 66)) (some 0) (.bool true)) from (fin_all hall).trans rfl]
    simp only [Act.put, List.setIfInBounds_toArray, List.set_cons_zero, List.set_cons_succ]
    have HB9 := hide (belN HN.out HB.out hG)
    generalize σ 0 = tt0 at *; generalize σ 1 = tt1 at *; generalize σ 2 = tt2 at *; generalize σ 3 = tt3 at *; generalize σ 4 = tt4 at *; generalize σ 5 = tt5 at *; generalize σ 6 = tt6 at *; generalize σ 7 = tt7 at *; generalize σ 8 = tt8 at *; generalize σ 9 = tt9 at *; generalize σ 10 = tt10 at *; generalize σ 11 = tt11 at *; generalize σ 12 = tt12 at *; generalize σ 13 = tt13 at *; generalize σ 14 = tt14 at *; generalize σ 15 = tt15 at *; generalize σ 16 = tt16 at *; generalize σ 17 = tt17 at *; generalize σ 18 = tt18 at *; generalize σ 19 = tt19 at *; generalize σ 20 = tt20 at *; generalize σ 21 = tt21 at *; generalize σ 22 = tt22 at *; generalize σ 23 = tt23 at *; generalize σ 24 = tt24 at *; generalize σ 25 = tt25 at *; generalize σ 26 = tt26 at *; generalize σ 27 = tt27 at *; generalize σ 28 = tt28 at *; generalize σ 29 = tt29 at *; generalize σ 30 = tt30 at *; generalize σ 31 = tt31 at *; generalize σ 32 = tt32 at *; generalize σ 33 = tt33 at *; generalize σ 34 = tt34 at *; generalize σ 35 = tt35 at *; generalize σ 36 = tt36 at *; generalize σ 37 = tt37 at *; generalize σ 38 = tt38 at *; generalize σ 39 = tt39 at *; generalize σ 40 = tt40 at *; generalize σ 41 = tt41 at *; generalize σ 42 = tt42 at *; generalize σ 43 = tt43 at *; generalize σ 44 = tt44 at *; generalize σ 45 = tt45 at *; generalize σ 46 = tt46 at *; generalize σ 47 = tt47 at *; generalize σ 48 = tt48 at *; generalize σ 49 = tt49 at *; generalize σ 50 = tt50 at *; generalize σ 51 = tt51 at *; generalize σ 52 = tt52 at *; generalize σ 53 = tt53 at *; generalize σ 54 = tt54 at *; generalize σ 55 = tt55 at *; generalize σ 56 = tt56 at *; generalize σ 57 = tt57 at *; generalize σ 58 = tt58 at *; generalize σ 59 = tt59 at *; generalize σ 60 = tt60 at *; generalize σ 61 = tt61 at *; generalize σ 62 = tt62 at *; generalize σ 63 = tt63 at *; generalize σ 64 = tt64 at *; generalize σ 65 = tt65 at *; generalize σ 66 = tt66 at *
    clear hF hG hall hin hout SOF e81
    go_wp2_with fail
    go_ret
    exact ⟨rfl, HB9.out⟩
end Go.Proofs.Ytljocjjdfgpbaaa
