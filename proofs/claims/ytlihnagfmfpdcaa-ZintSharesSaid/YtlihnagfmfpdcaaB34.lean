/- Texts of one seat, put together: ZDividing ZSharing. -/
import Derived.Test.YtlihnagfmfpdcaaB26
import Derived.Test.YtlihnagfmfpdcaaB33
import Derived.Test.YtlihnagfmfpdcaaB32
/- plumblinelaw02.dividing: the calls that divide are alive. -/
namespace Go.Proofs.Ytlihnagfmfpdcaa
open Go.RowKit

theorem Keeps.made1 {w W : World} {L : List (Nat × Value × Value)} {a b : Value} (h : Keeps w L W) : Keeps w ((W.heap.size, a, b) :: L) (W.alloc (.cells #[a, b] 38)) := (h.alloc _).add (Blk.new _ _) h.size
theorem Keeps.made2 {w W : World} {L : List (Nat × Value × Value)} {a b c d : Value} (h : Keeps w L W) : Keeps w ((W.heap.size + 1, c, d) :: (W.heap.size, a, b) :: L) ((W.alloc (.cells #[a, b] 38)).alloc (.cells #[c, d] 38)) :=
  (h.made1.alloc _).add (Blk.newAt _ _ (by simp only [size_alloc])) (by have := h.size; omega)
set_option maxRecDepth 100000 in
set_option maxHeartbeats 8000000 in
theorem zdividing_any (w : World) : Calls Try.prog 38 #[] w (YesPost w) := by
  have K : Keeps w [] w := Keeps.nil (Below.refl _ _)
  go_enter Try.func38, Try.ntmps38
  go_wp2_with fail
  refine (of_z (-7) w (by omega) (by omega)).mono ?_
  rintro e w1 ⟨v1, rfl, r1, b1⟩
  replace K := K.call b1
  clear b1
  go_wp2_with fail
  refine (of_z (2) w1 (by omega) (by omega)).mono ?_
  rintro e w2 ⟨v2, rfl, r2, b2⟩
  replace K := K.call b2
  replace r1 := r1.below b2
  clear b2
  go_wp2_with fail
  refine (zdiv_yes _ _ (-7) (2) 2 2 w2 r1.in_ r2.in_ (by omega) (by omega) (by omega)).mono ?_
  rintro e w3 ⟨v3, u3, rfl, r3, s3, b3⟩
  replace K := K.call b3
  replace r1 := r1.below b3
  replace r2 := r2.below b3
  clear b3
  replace r3 := r3.ofEq (show _ = (-4 : Int) by decide)
  replace s3 := s3.ofEq (show _ = (1 : Int) by decide)
  clear r1
  clear r2
  obtain ⟨sQ, AQ, nQ, cQ, rfl⟩ := r3.form
  obtain ⟨sR, AR, nR, cR, rfl⟩ := s3.form
  have tt := (bl_alloc w3 (.cells #[.bool sQ, .slice AQ nQ cQ] 38)).next (bl_alloc _ (.cells #[.bool sR, .slice AR nR cR] 38))
  replace K := K.made2 (a := .bool sQ) (b := .slice AQ nQ cQ) (c := .bool sR) (d := .slice AR nR cR)
  replace r3 := r3.below tt
  replace s3 := s3.below tt
  clear tt
  go_wp2_with fail
  refine (of_z (-7) _ (by omega) (by omega)).mono ?_
  rintro e w4 ⟨v4, rfl, r4, b4⟩
  replace K := K.call b4
  replace r3 := r3.below b4
  replace s3 := s3.below b4
  clear b4
  go_wp2_with fail
  refine (of_z (-2) w4 (by omega) (by omega)).mono ?_
  rintro e w5 ⟨v5, rfl, r5, b5⟩
  replace K := K.call b5
  replace r3 := r3.below b5
  replace s3 := s3.below b5
  replace r4 := r4.below b5
  clear b5
  go_wp2_with fail
  refine (zdiv_yes _ _ (-7) (-2) 2 2 w5 r4.in_ r5.in_ (by omega) (by omega) (by omega)).mono ?_
  rintro e w6 ⟨v6, u6, rfl, r6, s6, b6⟩
  replace K := K.call b6
  replace r3 := r3.below b6
  replace s3 := s3.below b6
  replace r4 := r4.below b6
  replace r5 := r5.below b6
  clear b6
  replace r6 := r6.ofEq (show _ = (3 : Int) by decide)
  replace s6 := s6.ofEq (show _ = (-1 : Int) by decide)
  clear r4
  clear r5
  obtain ⟨sS, AS, nS, cS, rfl⟩ := r6.form
  obtain ⟨sT, AT, nT, cT, rfl⟩ := s6.form
  have tt := (bl_alloc w6 (.cells #[.bool sS, .slice AS nS cS] 38)).next (bl_alloc _ (.cells #[.bool sT, .slice AT nT cT] 38))
  replace K := K.made2 (a := .bool sS) (b := .slice AS nS cS) (c := .bool sT) (d := .slice AT nT cT)
  replace r3 := r3.below tt
  replace s3 := s3.below tt
  replace r6 := r6.below tt
  replace s6 := s6.below tt
  clear tt
  go_wp2_with fail
  refine (of_z (1) _ (by omega) (by omega)).mono ?_
  rintro e w7 ⟨v7, rfl, r7, b7⟩
  replace K := K.call b7
  replace r3 := r3.below b7
  replace s3 := s3.below b7
  replace r6 := r6.below b7
  replace s6 := s6.below b7
  clear b7
  go_wp2_with fail
  refine (of_z (0) w7 (by omega) (by omega)).mono ?_
  rintro e w8 ⟨v8, rfl, r8, b8⟩
  replace K := K.call b8
  replace r3 := r3.below b8
  replace s3 := s3.below b8
  replace r6 := r6.below b8
  replace s6 := s6.below b8
  replace r7 := r7.below b8
  clear b8
  go_wp2_with fail
  refine (zdiv_no _ _ 1 2 2 w8 r7.in_ r8.in_).mono ?_
  rintro e w9 ⟨rfl, b9⟩
  replace K := K.call b9
  replace r3 := r3.below b9
  replace s3 := s3.below b9
  replace r6 := r6.below b9
  replace s6 := s6.below b9
  replace r7 := r7.below b9
  replace r8 := r8.below b9
  clear b9
  clear r7
  clear r8
  have tt := (bl_alloc w9 (.cells #[.bool false, .slice none 0 0] 38)).next (bl_alloc _ (.cells #[.bool false, .slice none 0 0] 38))
  replace K := K.call tt
  replace r3 := r3.below tt
  replace s3 := s3.below tt
  replace r6 := r6.below tt
  replace s6 := s6.below tt
  clear tt
  go_wp2_with fail
  refine (of_z (-7) _ (by omega) (by omega)).mono ?_
  rintro e w10 ⟨v10, rfl, r10, b10⟩
  replace K := K.call b10
  replace r3 := r3.below b10
  replace s3 := s3.below b10
  replace r6 := r6.below b10
  replace s6 := s6.below b10
  clear b10
  go_wp2_with fail
  refine (of_z (2) w10 (by omega) (by omega)).mono ?_
  rintro e w11 ⟨v11, rfl, r11, b11⟩
  replace K := K.call b11
  replace r3 := r3.below b11
  replace s3 := s3.below b11
  replace r6 := r6.below b11
  replace s6 := s6.below b11
  replace r10 := r10.below b11
  clear b11
  go_wp2_with fail
  refine (ceil_yes _ _ (-7) (2) 2 2 w11 r10.in_ r11.in_ (by omega) (by omega) (by omega)).mono ?_
  rintro e w12 ⟨v12, rfl, r12, b12⟩
  replace K := K.call b12
  replace r3 := r3.below b12
  replace s3 := s3.below b12
  replace r6 := r6.below b12
  replace s6 := s6.below b12
  replace r10 := r10.below b12
  replace r11 := r11.below b12
  clear b12
  replace r12 := r12.ofEq (show _ = (-3 : Int) by decide)
  clear r10
  clear r11
  obtain ⟨sC, AC, nC, cC, rfl⟩ := r12.form
  have tt := bl_alloc w12 (.cells #[.bool sC, .slice AC nC cC] 38)
  replace K := K.made1 (a := .bool sC) (b := .slice AC nC cC)
  replace r3 := r3.below tt
  replace s3 := s3.below tt
  replace r6 := r6.below tt
  replace s6 := s6.below tt
  replace r12 := r12.below tt
  clear tt
  go_wp2_with fail
  refine (of_z (-8) _ (by omega) (by omega)).mono ?_
  rintro e w13 ⟨v13, rfl, r13, b13⟩
  replace K := K.call b13
  replace r3 := r3.below b13
  replace s3 := s3.below b13
  replace r6 := r6.below b13
  replace s6 := s6.below b13
  replace r12 := r12.below b13
  clear b13
  go_wp2_with fail
  refine (of_z (2) w13 (by omega) (by omega)).mono ?_
  rintro e w14 ⟨v14, rfl, r14, b14⟩
  replace K := K.call b14
  replace r3 := r3.below b14
  replace s3 := s3.below b14
  replace r6 := r6.below b14
  replace s6 := s6.below b14
  replace r12 := r12.below b14
  replace r13 := r13.below b14
  clear b14
  go_wp2_with fail
  refine (exact_even _ _ (-8) (2) 2 2 w14 r13.in_ r14.in_ (by omega) (by omega) (by omega) (by decide)).mono ?_
  rintro e w15 ⟨v15, rfl, r15, b15⟩
  replace K := K.call b15
  replace r3 := r3.below b15
  replace s3 := s3.below b15
  replace r6 := r6.below b15
  replace s6 := s6.below b15
  replace r12 := r12.below b15
  replace r13 := r13.below b15
  replace r14 := r14.below b15
  clear b15
  replace r15 := r15.ofEq (show _ = (-4 : Int) by decide)
  clear r13
  clear r14
  obtain ⟨sX, AX, nX, cX, rfl⟩ := r15.form
  have tt := bl_alloc w15 (.cells #[.bool sX, .slice AX nX cX] 38)
  replace K := K.made1 (a := .bool sX) (b := .slice AX nX cX)
  replace r3 := r3.below tt
  replace s3 := s3.below tt
  replace r6 := r6.below tt
  replace s6 := s6.below tt
  replace r12 := r12.below tt
  replace r15 := r15.below tt
  clear tt
  go_wp2_with fail
  refine (of_z (-7) _ (by omega) (by omega)).mono ?_
  rintro e w16 ⟨v16, rfl, r16, b16⟩
  replace K := K.call b16
  replace r3 := r3.below b16
  replace s3 := s3.below b16
  replace r6 := r6.below b16
  replace s6 := s6.below b16
  replace r12 := r12.below b16
  replace r15 := r15.below b16
  clear b16
  go_wp2_with fail
  refine (of_z (2) w16 (by omega) (by omega)).mono ?_
  rintro e w17 ⟨v17, rfl, r17, b17⟩
  replace K := K.call b17
  replace r3 := r3.below b17
  replace s3 := s3.below b17
  replace r6 := r6.below b17
  replace s6 := s6.below b17
  replace r12 := r12.below b17
  replace r15 := r15.below b17
  replace r16 := r16.below b17
  clear b17
  go_wp2_with fail
  refine (exact_odd _ _ (-7) 2 2 2 w17 r16.in_ r17.in_ (by omega) (by omega) (by omega) (by decide)).mono ?_
  rintro e w18 ⟨rfl, b18⟩
  replace K := K.call b18
  replace r3 := r3.below b18
  replace s3 := s3.below b18
  replace r6 := r6.below b18
  replace s6 := s6.below b18
  replace r12 := r12.below b18
  replace r15 := r15.below b18
  replace r16 := r16.below b18
  replace r17 := r17.below b18
  clear b18
  clear r16
  clear r17
  have tt := bl_alloc w18 (.cells #[.bool false, .slice none 0 0] 38)
  replace K := K.call tt
  replace r3 := r3.below tt
  replace s3 := s3.below tt
  replace r6 := r6.below tt
  replace s6 := s6.below tt
  replace r12 := r12.below tt
  replace r15 := r15.below tt
  clear tt
  go_wp2_with fail
  refine (of_z (5) _ (by omega) (by omega)).mono ?_
  rintro e w19 ⟨v19, rfl, r19, b19⟩
  replace K := K.call b19
  replace r3 := r3.below b19
  replace s3 := s3.below b19
  replace r6 := r6.below b19
  replace s6 := s6.below b19
  replace r12 := r12.below b19
  replace r15 := r15.below b19
  clear b19
  go_wp2_with fail
  refine (of_z (8) w19 (by omega) (by omega)).mono ?_
  rintro e w20 ⟨v20, rfl, r20, b20⟩
  replace K := K.call b20
  replace r3 := r3.below b20
  replace s3 := s3.below b20
  replace r6 := r6.below b20
  replace s6 := s6.below b20
  replace r12 := r12.below b20
  replace r15 := r15.below b20
  replace r19 := r19.below b20
  clear b20
  go_wp2_with fail
  refine (hat_yes _ _ (5) (8) 2 2 w20 r19.in_ r20.in_ (by omega) (by omega) (by omega)).mono ?_
  rintro e w21 ⟨v21, rfl, r21, b21⟩
  replace K := K.call b21
  replace r3 := r3.below b21
  replace s3 := s3.below b21
  replace r6 := r6.below b21
  replace s6 := s6.below b21
  replace r12 := r12.below b21
  replace r15 := r15.below b21
  replace r19 := r19.below b21
  replace r20 := r20.below b21
  clear b21
  replace r21 := r21.ofEq (show _ = (-3 : Int) by decide)
  clear r19
  clear r20
  obtain ⟨sM, AM, nM, cM, rfl⟩ := r21.form
  have tt := bl_alloc w21 (.cells #[.bool sM, .slice AM nM cM] 38)
  replace K := K.made1 (a := .bool sM) (b := .slice AM nM cM)
  replace r3 := r3.below tt
  replace s3 := s3.below tt
  replace r6 := r6.below tt
  replace s6 := s6.below tt
  replace r12 := r12.below tt
  replace r15 := r15.below tt
  replace r21 := r21.below tt
  clear tt
  have cQa := (K.blk (List.Mem.tail _ (List.Mem.tail _ (List.Mem.tail _ (List.Mem.tail _ (List.Mem.tail _ (List.Mem.tail _ (List.Mem.head _)))))))).c0
  have cQb := (K.blk (List.Mem.tail _ (List.Mem.tail _ (List.Mem.tail _ (List.Mem.tail _ (List.Mem.tail _ (List.Mem.tail _ (List.Mem.head _)))))))).c1
  go_wp2_with fail
  refine (is_yes _ (-4) 2 _ r3 (by omega) (by omega) (by omega)).mono ?_
  rintro e w22 ⟨rfl, b22⟩
  clear cQa cQb
  replace K := K.call b22
  replace r3 := r3.below b22
  replace s3 := s3.below b22
  replace r6 := r6.below b22
  replace s6 := s6.below b22
  replace r12 := r12.below b22
  replace r15 := r15.below b22
  replace r21 := r21.below b22
  clear b22
  clear r3
  have cRa := (K.blk (List.Mem.tail _ (List.Mem.tail _ (List.Mem.tail _ (List.Mem.tail _ (List.Mem.tail _ (List.Mem.head _))))))).c0
  have cRb := (K.blk (List.Mem.tail _ (List.Mem.tail _ (List.Mem.tail _ (List.Mem.tail _ (List.Mem.tail _ (List.Mem.head _))))))).c1
  go_wp2_with fail
  refine (is_yes _ (1) 2 w22 s3 (by omega) (by omega) (by omega)).mono ?_
  rintro e w23 ⟨rfl, b23⟩
  clear cRa cRb
  replace K := K.call b23
  replace s3 := s3.below b23
  replace r6 := r6.below b23
  replace s6 := s6.below b23
  replace r12 := r12.below b23
  replace r15 := r15.below b23
  replace r21 := r21.below b23
  clear b23
  clear s3
  have cSa := (K.blk (List.Mem.tail _ (List.Mem.tail _ (List.Mem.tail _ (List.Mem.tail _ (List.Mem.head _)))))).c0
  have cSb := (K.blk (List.Mem.tail _ (List.Mem.tail _ (List.Mem.tail _ (List.Mem.tail _ (List.Mem.head _)))))).c1
  go_wp2_with fail
  refine (is_yes _ (3) 2 w23 r6 (by omega) (by omega) (by omega)).mono ?_
  rintro e w24 ⟨rfl, b24⟩
  clear cSa cSb
  replace K := K.call b24
  replace r6 := r6.below b24
  replace s6 := s6.below b24
  replace r12 := r12.below b24
  replace r15 := r15.below b24
  replace r21 := r21.below b24
  clear b24
  clear r6
  have cTa := (K.blk (List.Mem.tail _ (List.Mem.tail _ (List.Mem.tail _ (List.Mem.head _))))).c0
  have cTb := (K.blk (List.Mem.tail _ (List.Mem.tail _ (List.Mem.tail _ (List.Mem.head _))))).c1
  go_wp2_with fail
  refine (is_yes _ (-1) 2 w24 s6 (by omega) (by omega) (by omega)).mono ?_
  rintro e w25 ⟨rfl, b25⟩
  clear cTa cTb
  replace K := K.call b25
  replace s6 := s6.below b25
  replace r12 := r12.below b25
  replace r15 := r15.below b25
  replace r21 := r21.below b25
  clear b25
  clear s6
  have cCa := (K.blk (List.Mem.tail _ (List.Mem.tail _ (List.Mem.head _)))).c0
  have cCb := (K.blk (List.Mem.tail _ (List.Mem.tail _ (List.Mem.head _)))).c1
  go_wp2_with fail
  refine (is_yes _ (-3) 5 w25 r12 (by omega) (by omega) (by omega)).mono ?_
  rintro e w26 ⟨rfl, b26⟩
  clear cCa cCb
  replace K := K.call b26
  replace r12 := r12.below b26
  replace r15 := r15.below b26
  replace r21 := r21.below b26
  clear b26
  clear r12
  have cXa := (K.blk (List.Mem.tail _ (List.Mem.head _))).c0
  have cXb := (K.blk (List.Mem.tail _ (List.Mem.head _))).c1
  go_wp2_with fail
  refine (is_yes _ (-4) 2 w26 r15 (by omega) (by omega) (by omega)).mono ?_
  rintro e w27 ⟨rfl, b27⟩
  clear cXa cXb
  replace K := K.call b27
  replace r15 := r15.below b27
  replace r21 := r21.below b27
  clear b27
  clear r15
  have cMa := (K.blk (List.Mem.head _)).c0
  have cMb := (K.blk (List.Mem.head _)).c1
  go_wp2_with fail
  refine (is_yes _ (-3) 2 w27 r21 (by omega) (by omega) (by omega)).mono ?_
  rintro e w28 ⟨rfl, b28⟩
  clear cMa cMb
  replace K := K.call b28
  replace r21 := r21.below b28
  clear b28
  clear r21
  go_wp2_with fail
  go_ret
  exact ⟨rfl, K.old⟩
end Go.Proofs.Ytlihnagfmfpdcaa
/- plumblinelaw02.sharing: alive. -/
namespace Go.Proofs.Ytlihnagfmfpdcaa
open Go.RowKit

theorem Keeps.made3 {w W : World} {L : List (Nat × Value × Value)} {a b c d e f : Value} (h : Keeps w L W) : Keeps w ((W.heap.size + 1 + 1, e, f) :: (W.heap.size + 1, c, d) :: (W.heap.size, a, b) :: L) (((W.alloc (.cells #[a, b] 38)).alloc (.cells #[c, d] 38)).alloc (.cells #[e, f] 38)) :=
  (h.made2.alloc _).add (Blk.newAt _ _ (by simp only [size_alloc])) (by have := h.size; omega)
theorem bz_12_18 : gcdZ 12 18 = 6 ∧ bzX 12 18 = -1 ∧ bzY 12 18 = 1 := by
  have e : bez 12 18 1 0 0 1 = (6, -1, 1) := by
    rw [bez_step 12 18 1 0 0 1 (by decide)]
    show bez 18 12 0 1 1 0 = _
    rw [bez_step 18 12 0 1 1 0 (by decide)]
    show bez 12 6 1 0 (-1) 1 = _
    rw [bez_step 12 6 1 0 (-1) 1 (by decide)]
    show bez 6 0 (-1) 1 3 (-2) = _
    rw [bez_end]
  unfold bzX bzY
  rw [show Int.natAbs 12 = 12 from rfl, show Int.natAbs 18 = 18 from rfl, e]
  exact ⟨by decide, rfl, rfl⟩
set_option maxHeartbeats 4000000 in
theorem zsharing_any (w : World) : Calls Try.prog 23 #[] w (YesPost w) := by
  have K : Keeps w [] w := Keeps.nil (Below.refl _ _)
  go_enter Try.func23, Try.ntmps23
  go_wp2_with fail
  refine (of_z 12 w (by omega) (by omega)).mono ?_
  rintro e w1 ⟨v1, rfl, r1, b1⟩
  replace K := K.call b1
  clear b1
  go_wp2_with fail
  refine (of_z 18 w1 (by omega) (by omega)).mono ?_
  rintro e w2 ⟨v2, rfl, r2, b2⟩
  replace K := K.call b2
  replace r1 := r1.below b2
  clear b2
  go_wp2_with fail
  refine (bezout_z _ _ 12 18 2 3 w2 r1.in_ r2.in_ (by omega) rfl).mono ?_
  rintro e w3 ⟨v3, v4, v5, rfl, g3, x3, y3, b3⟩
  replace K := K.call b3
  replace r1 := r1.below b3
  replace r2 := r2.below b3
  clear b3
  replace g3 := g3.ofEq bz_12_18.1
  replace x3 := x3.ofEq bz_12_18.2.1
  replace y3 := y3.ofEq bz_12_18.2.2
  clear r1
  clear r2
  obtain ⟨sG, AG, nG, cG, rfl⟩ := g3.form
  obtain ⟨sX, AX, nX, cX, rfl⟩ := x3.form
  obtain ⟨sY, AY, nY, cY, rfl⟩ := y3.form
  have tt := ((bl_alloc w3 (.cells #[.bool sG, .slice AG nG cG] 38)).next (bl_alloc _ (.cells #[.bool sX, .slice AX nX cX] 38))).next (bl_alloc _ (.cells #[.bool sY, .slice AY nY cY] 38))
  replace K := K.made3 (a := .bool sG) (b := .slice AG nG cG) (c := .bool sX) (d := .slice AX nX cX) (e := .bool sY) (f := .slice AY nY cY)
  replace g3 := g3.below tt
  replace x3 := x3.below tt
  replace y3 := y3.below tt
  clear tt
  have cGa := (K.blk (List.Mem.tail _ (List.Mem.tail _ (List.Mem.head _)))).c0
  have cGb := (K.blk (List.Mem.tail _ (List.Mem.tail _ (List.Mem.head _)))).c1
  go_wp2_with fail
  refine (is_yes _ 6 3 (((w3.alloc (.cells #[.bool sG, .slice AG nG cG] 38)).alloc (.cells #[.bool sX, .slice AX nX cX] 38)).alloc (.cells #[.bool sY, .slice AY nY cY] 38)) g3 (by omega) (by omega) (by omega)).mono ?_
  rintro e w4 ⟨rfl, b4⟩
  clear cGa cGb
  replace K := K.call b4
  replace g3 := g3.below b4
  replace x3 := x3.below b4
  replace y3 := y3.below b4
  clear b4
  clear g3
  have cXa := (K.blk (List.Mem.tail _ (List.Mem.head _))).c0
  have cXb := (K.blk (List.Mem.tail _ (List.Mem.head _))).c1
  go_wp2_with fail
  refine (is_yes _ (-1) 3 w4 x3 (by omega) (by omega) (by omega)).mono ?_
  rintro e w5 ⟨rfl, b5⟩
  clear cXa cXb
  replace K := K.call b5
  replace x3 := x3.below b5
  replace y3 := y3.below b5
  clear b5
  clear x3
  have cYa := (K.blk (List.Mem.head _)).c0
  have cYb := (K.blk (List.Mem.head _)).c1
  go_wp2_with fail
  refine (is_yes _ 1 3 w5 y3 (by omega) (by omega) (by omega)).mono ?_
  rintro e w6 ⟨rfl, b6⟩
  clear cYa cYb
  replace K := K.call b6
  replace y3 := y3.below b6
  clear b6
  clear y3
  go_wp2_with fail
  refine (of_z (-12) w6 (by omega) (by omega)).mono ?_
  rintro e w7 ⟨v7, rfl, r7, b7⟩
  replace K := K.call b7
  clear b7
  go_wp2_with fail
  refine (of_z 18 w7 (by omega) (by omega)).mono ?_
  rintro e w8 ⟨v8, rfl, r8, b8⟩
  replace K := K.call b8
  replace r7 := r7.below b8
  clear b8
  go_wp2_with fail
  refine (gcd_z _ _ (-12) 18 2 w8 r7.in_ r8.in_ (by omega)).mono ?_
  rintro e w9 ⟨v9, rfl, r9, b9⟩
  replace K := K.call b9
  replace r7 := r7.below b9
  replace r8 := r8.below b9
  clear b9
  replace r9 := r9.ofEq (show gcdZ (-12) 18 = 6 by decide)
  clear r7
  clear r8
  go_wp2_with fail
  refine (is_yes _ 6 2 w9 r9 (by omega) (by omega) (by omega)).mono ?_
  rintro e w10 ⟨rfl, b10⟩
  replace K := K.call b10
  replace r9 := r9.below b10
  clear b10
  clear r9
  go_wp2_with fail
  refine (of_z 4 w10 (by omega) (by omega)).mono ?_
  rintro e w11 ⟨v11, rfl, r11, b11⟩
  replace K := K.call b11
  clear b11
  go_wp2_with fail
  refine (of_z (-6) w11 (by omega) (by omega)).mono ?_
  rintro e w12 ⟨v12, rfl, r12, b12⟩
  replace K := K.call b12
  replace r11 := r11.below b12
  clear b12
  go_wp2_with fail
  refine (lcm_z _ _ 4 (-6) 2 w12 r11.in_ r12.in_ (by omega)).mono ?_
  rintro e w13 ⟨v13, rfl, r13, b13⟩
  replace K := K.call b13
  replace r11 := r11.below b13
  replace r12 := r12.below b13
  clear b13
  replace r13 := r13.ofEq (show lcmZ 4 (-6) = 12 by decide)
  clear r11
  clear r12
  go_wp2_with fail
  refine (is_yes _ 12 4 w13 r13 (by omega) (by omega) (by omega)).mono ?_
  rintro e w14 ⟨rfl, b14⟩
  replace K := K.call b14
  replace r13 := r13.below b14
  clear b14
  go_wp2_with fail
  go_ret
  exact ⟨rfl, K.old⟩
end Go.Proofs.Ytlihnagfmfpdcaa
