/- plumblinelaw02.ZintDivides: the walk. -/
import Derived.Test.YtpocaopiaggbmaaZDividing
namespace Go.Proofs.Ytpocaopiaggbmaa
open Go.RowKit

theorem sgn3_same (Z : Int) : sgn3 Z Z = 0 := by unfold sgn3; rw [if_neg (by omega), if_neg (by omega)]
theorem fmod_sign {Z Y : Int} (hY : Y ≠ 0) (h0 : Z.fmod Y ≠ 0) : (Z.fmod Y).sign = Y.sign := by
  obtain ⟨-, h⟩ := fdiv_back Z Y hY
  rcases h with h | h
  · rw [Int.sign_eq_one_of_pos (by omega), Int.sign_eq_one_of_pos (by omega)]
  · rw [Int.sign_eq_neg_one_of_neg (by omega), Int.sign_eq_neg_one_of_neg (by omega)]
theorem fmod_abs {Z Y : Int} (hY : Y ≠ 0) : sgn3 ((Z.fmod Y).natAbs : Int) (Y.natAbs : Int) = -1 := by
  obtain ⟨-, h⟩ := fdiv_back Z Y hY
  exact sgn3_lt (by omega)
theorem fdiv_make {Z Y : Int} (hY : Y ≠ 0) : Z.fdiv Y * Y + Z.fmod Y = Z := by
  have := (fdiv_back Z Y hY).1
  rw [Int.mul_comm]; omega
set_option maxRecDepth 100000 in
set_option maxHeartbeats 8000000 in
theorem zintDivides_walk (s : Bool) (A : Option Addr) (n c : Nat) (xs : List Nat) (t : Bool) (B : Option Addr) (m d : Nat) (ys : List Nat) (w : World) (hx : Nums w A n xs) (hc : n ≤ c) (hm : c ≤ 9223372036854775807) (hy : Nums w B m ys) (hd : m ≤ d) (hmd : d ≤ 9223372036854775807) :
    Calls Try.prog 12 #[.agg #[.bool s, .slice A n c], .agg #[.bool t, .slice B m d]] w (YesPost w) := by
  obtain ⟨x, y, z2, -⟩ := zstart2 w #[.bool s, .slice A n c] #[.bool t, .slice B m d]
  have K := ((Keeps.nil z2).add y (by omega)).add x (by omega)
  clear x y z2
  by_cases hs : n ≤ 60 ∧ m ≤ 60
  · obtain ⟨hn, hmk⟩ := hs
    have hv : ZIn w (.agg #[.bool s, .slice A n c]) (sg s (Limb.val xs)) 60 := ⟨s, A, n, c, xs, rfl, hx, hc, hm, hn, rfl⟩
    have hu : ZIn w (.agg #[.bool t, .slice B m d]) (sg t (Limb.val ys)) 60 := ⟨t, B, m, d, ys, rfl, hy, hd, hmd, hmk, rfl⟩
    generalize sg s (Limb.val xs) = Z at *
    generalize sg t (Limb.val ys) = Y at *
    by_cases hY0 : Y = 0
    · subst hY0
      go_enter Try.func12, Try.ntmps12
      go_wp2_with fail
      refine (counting_any _).mono ?_
      rintro e w1 ⟨rfl, b1⟩
      replace K := K.call b1
      clear b1
      go_wp2_with fail
      refine (zdividing_any w1).mono ?_
      rintro e w2 ⟨rfl, b2⟩
      replace K := K.call b2
      clear b2
      have cxa := (K.blk (List.Mem.head _)).c0
      have cxb := (K.blk (List.Mem.head _)).c1
      have cya := (K.blk (List.Mem.tail _ (List.Mem.head _))).c0
      have cyb := (K.blk (List.Mem.tail _ (List.Mem.head _))).c1
      go_wp2_with fail
      refine (z2short_yes _ _ Z 0 60 60 w2 (hv.below K.old) (hu.below K.old) (by omega) (by omega)).mono ?_
      rintro e w3 ⟨rfl, b3⟩
      clear cxa cxb cya cyb
      replace K := K.call b3
      clear b3
      have cxa := (K.blk (List.Mem.head _)).c0
      have cxb := (K.blk (List.Mem.head _)).c1
      have cya := (K.blk (List.Mem.tail _ (List.Mem.head _))).c0
      have cyb := (K.blk (List.Mem.tail _ (List.Mem.head _))).c1
      go_wp2_with fail
      refine (zdiv_no _ _ Z 60 60 w3 (hv.below K.old) (hu.below K.old)).mono ?_
      rintro e w4 ⟨rfl, b4⟩
      clear cxa cxb cya cyb
      replace K := K.call b4
      clear b4
      have tt := (bl_alloc w4 (.cells #[.bool false, .slice none 0 0] 42)).next (bl_alloc _ (.cells #[.bool false, .slice none 0 0] 42))
      replace K := K.made2 (a := .bool false) (b := .slice none 0 0) (c := .bool false) (d := .slice none 0 0)
      clear tt
      have cya := (K.blk (List.Mem.tail _ (List.Mem.tail _ (List.Mem.tail _ (List.Mem.head _))))).c0
      have cyb := (K.blk (List.Mem.tail _ (List.Mem.tail _ (List.Mem.tail _ (List.Mem.head _))))).c1
      go_wp2_with fail
      refine (sign_z _ 0 60 ((w4.alloc (.cells #[.bool false, .slice none 0 0] 42)).alloc (.cells #[.bool false, .slice none 0 0] 42)) (hu.below K.old) (by omega)).mono ?_
      rintro e w5 ⟨rfl, b5⟩
      clear cya cyb
      replace K := K.call b5
      clear b5
      have cqa := (K.blk (List.Mem.tail _ (List.Mem.head _))).c0
      have cqb := (K.blk (List.Mem.tail _ (List.Mem.head _))).c1
      go_wp2_with fail
      refine (sign_z _ 0 60 w5 (ZRes.zero _ _).in_ (by omega)).mono ?_
      rintro e w6 ⟨rfl, b6⟩
      clear cqa cqb
      replace K := K.call b6
      clear b6
      have cra := (K.blk (List.Mem.head _)).c0
      have crb := (K.blk (List.Mem.head _)).c1
      go_wp2_with fail
      refine (sign_z _ 0 60 w6 (ZRes.zero _ _).in_ (by omega)).mono ?_
      rintro e w7 ⟨rfl, b7⟩
      clear cra crb
      replace K := K.call b7
      clear b7
      go_wp2_with fail
      go_ret
      exact ⟨rfl, K.old⟩
    · by_cases hR : Z.fmod Y = 0
      · have HY := hide hY0
        have hmk1 := hide (fdiv_make (Z := Z) hY0)
        have habs := hide (fmod_abs (Z := Z) hY0)
        have hcd := hide (cdiv_eq Z Y hY0)
        have hys := sign_ne hY0
        have hyt : (Y.sign != 0) = true := by simpa using hY0
        have hR0 := hide hR
        clear hY0 hR
        go_enter Try.func12, Try.ntmps12
        go_wp2_with fail
        refine (counting_any _).mono ?_
        rintro e w1 ⟨rfl, b1⟩
        replace K := K.call b1
        clear b1
        go_wp2_with fail
        refine (zdividing_any w1).mono ?_
        rintro e w2 ⟨rfl, b2⟩
        replace K := K.call b2
        clear b2
        have cxa := (K.blk (List.Mem.head _)).c0
        have cxb := (K.blk (List.Mem.head _)).c1
        have cya := (K.blk (List.Mem.tail _ (List.Mem.head _))).c0
        have cyb := (K.blk (List.Mem.tail _ (List.Mem.head _))).c1
        go_wp2_with fail
        refine (z2short_yes _ _ Z Y 60 60 w2 (hv.below K.old) (hu.below K.old) (by omega) (by omega)).mono ?_
        rintro e w3 ⟨rfl, b3⟩
        clear cxa cxb cya cyb
        replace K := K.call b3
        clear b3
        have cxa := (K.blk (List.Mem.head _)).c0
        have cxb := (K.blk (List.Mem.head _)).c1
        have cya := (K.blk (List.Mem.tail _ (List.Mem.head _))).c0
        have cyb := (K.blk (List.Mem.tail _ (List.Mem.head _))).c1
        go_wp2_with fail
        refine (zdiv_yes _ _ Z Y 60 60 w3 (hv.below K.old) (hu.below K.old) HY.out (by omega) (by omega)).mono ?_
        rintro e w4 ⟨v4, u4, rfl, rq, rr, b4⟩
        clear cxa cxb cya cyb
        replace K := K.call b4
        clear b4
        obtain ⟨sq, Aq, nq, cq, rfl⟩ := rq.form
        obtain ⟨sr, Ar, nr, cr, rfl⟩ := rr.form
        have tt := (bl_alloc w4 (.cells #[.bool sq, .slice Aq nq cq] 42)).next (bl_alloc _ (.cells #[.bool sr, .slice Ar nr cr] 42))
        replace K := K.made2 (a := .bool sq) (b := .slice Aq nq cq) (c := .bool sr) (d := .slice Ar nr cr)
        replace rq := rq.below tt
        replace rr := rr.below tt
        clear tt
        have hs := sign_z _ Y 60 ((w4.alloc (.cells #[.bool sq, .slice Aq nq cq] 42)).alloc (.cells #[.bool sr, .slice Ar nr cr] 42)) (hu.below K.old) (by omega)
        unfold SignPost at hs
        have cya := (K.blk (List.Mem.tail _ (List.Mem.tail _ (List.Mem.tail _ (List.Mem.head _))))).c0
        have cyb := (K.blk (List.Mem.tail _ (List.Mem.tail _ (List.Mem.tail _ (List.Mem.head _))))).c1
        go_wp2_with fail
        refine (hs).mono ?_
        rintro e w5 ⟨rfl, b5⟩
        clear cya cyb
        replace K := K.call b5
        replace rq := rq.below b5
        replace rr := rr.below b5
        clear b5
        clear hs
        have HC0 := hide (fun v u (X : Int) k W (h1 : ZIn W v X k) (h2 : ZIn W u X k) (hk : k ≤ 1099511627776) => (show Calls Try.prog 42 #[v, u] W (fun e w' => e = .returned (.int .i64 0) ∧ Below W.heap.size W w') by have := cmp_z v u X X k W h1 h2 hk; unfold CmpZPost at this; rw [sgn3_same] at this; exact this))
        have HC1 := hide (fun v u W (h1 : ZIn W v ((Z.fmod Y).natAbs : Int) 60) (h2 : ZIn W u (Y.natAbs : Int) 60) => (show Calls Try.prog 42 #[v, u] W (fun e w' => e = .returned (.int .i64 (-1)) ∧ Below W.heap.size W w') by have := cmp_z v u _ _ 60 W h1 h2 (by omega); unfold CmpZPost at this; rw [habs.out] at this; exact this))
        have HSR := hide (fun v W (h1 : ZIn W v (Z.fmod Y) 60) => (show Calls Try.prog 43 #[v] W (fun e w' => e = .returned (.int .i64 0) ∧ Below W.heap.size W w') by have := sign_z v _ 60 W h1 (by omega); unfold SignPost at this; rw [hR0.out, Int.sign_zero] at this; exact this))
        generalize hsgn : Y.sign = sgn at *
        clear hsgn
        have SOF := hide (show ∀ W, Keeps w [(w4.heap.size + 1, .bool sr, .slice Ar nr cr), (w4.heap.size, .bool sq, .slice Aq nq cq), (w.heap.size, .bool s, .slice A n c), (w.heap.size + 1, .bool t, .slice B m d)] W → (fun W => Keeps w [(w4.heap.size + 1, .bool sr, .slice Ar nr cr), (w4.heap.size, .bool sq, .slice Aq nq cq), (w.heap.size, .bool s, .slice A n c), (w.heap.size + 1, .bool t, .slice B m d)] W ∧ W.cell? ⟨w4.heap.size + 1, 0, none⟩ = some (.bool sr) ∧ W.cell? ⟨w4.heap.size + 1, 1, none⟩ = some (.slice Ar nr cr) ∧ W.cell? ⟨w4.heap.size, 0, none⟩ = some (.bool sq) ∧ W.cell? ⟨w4.heap.size, 1, none⟩ = some (.slice Aq nq cq) ∧ W.cell? ⟨w.heap.size, 0, none⟩ = some (.bool s) ∧ W.cell? ⟨w.heap.size, 1, none⟩ = some (.slice A n c) ∧ W.cell? ⟨w.heap.size + 1, 0, none⟩ = some (.bool t) ∧ W.cell? ⟨w.heap.size + 1, 1, none⟩ = some (.slice B m d)) W from fun W k => ⟨k, (k.blk (List.Mem.head _)).c0, (k.blk (List.Mem.head _)).c1, (k.blk (List.Mem.tail _ (List.Mem.head _))).c0, (k.blk (List.Mem.tail _ (List.Mem.head _))).c1, (k.blk (List.Mem.tail _ (List.Mem.tail _ (List.Mem.head _)))).c0, (k.blk (List.Mem.tail _ (List.Mem.tail _ (List.Mem.head _)))).c1, (k.blk (List.Mem.tail _ (List.Mem.tail _ (List.Mem.tail _ (List.Mem.head _))))).c0, (k.blk (List.Mem.tail _ (List.Mem.tail _ (List.Mem.tail _ (List.Mem.head _))))).c1⟩)
        have HK := hide K
        have T6 : Below w5.heap.size w5 w5.drew := bl_drewN w5 1
        clear K
        go_wp2_with fail
        refine wp_region_late (by kernel_rfl) [] (fun W => Keeps w [(w4.heap.size + 1, .bool sr, .slice Ar nr cr), (w4.heap.size, .bool sq, .slice Aq nq cq), (w.heap.size, .bool s, .slice A n c), (w.heap.size + 1, .bool t, .slice B m d)] W ∧ W.cell? ⟨w4.heap.size + 1, 0, none⟩ = some (.bool sr) ∧ W.cell? ⟨w4.heap.size + 1, 1, none⟩ = some (.slice Ar nr cr) ∧ W.cell? ⟨w4.heap.size, 0, none⟩ = some (.bool sq) ∧ W.cell? ⟨w4.heap.size, 1, none⟩ = some (.slice Aq nq cq) ∧ W.cell? ⟨w.heap.size, 0, none⟩ = some (.bool s) ∧ W.cell? ⟨w.heap.size, 1, none⟩ = some (.slice A n c) ∧ W.cell? ⟨w.heap.size + 1, 0, none⟩ = some (.bool t) ∧ W.cell? ⟨w.heap.size + 1, 1, none⟩ = some (.slice B m d)) (fun hc => ?_)
        refine AnyL.take (i := 0) (oi := { dst := Option.some 45, op := Go.Op.move (Go.Operand.tmp 7), type := 26, pos := "law.go:159", after := #[], guard := Option.none }) (v := ?_) rfl (by kernel_rfl) (by kernel_rfl) (by kernel_rfl) (by kernel_rfl) (fun _ _ _ h => h) hc (Or.inl ⟨by rfl, ?_⟩) (SOF.out _ (HK.out.call T6)) (fun hc => ?_)
        rotate_left
        · intro W hSw
          (try dsimp only at hSw)
          go_simp
          (try with_reducible rfl)
        (try simp only [Act.put, List.setIfInBounds_toArray, List.set_cons_zero, List.set_cons_succ])
        refine AnyL.take (i := 1) (oi := { dst := Option.some 46, op := Go.Op.binOp Go.BinOp.neq 26 (Go.Operand.tmp 45) (Go.Operand.const (Go.Value.int Go.IntKind.i64 0)) 26, type := 4, pos := "law.go:159", after := #[{ on := 0, ground := Go.Ground.data }], guard := Option.none }) (v := ?_) rfl (by kernel_rfl) (by kernel_rfl) (by kernel_rfl) (by kernel_rfl) (fun _ _ _ h => h) hc (Or.inl ⟨by rfl, ?_⟩) (SOF.out _ (HK.out.call T6)) (fun hc => ?_)
        rotate_left
        · intro W hSw
          (try dsimp only at hSw)
          go_simp
          (try with_reducible rfl)
        (try simp only [Act.put, List.setIfInBounds_toArray, List.set_cons_zero, List.set_cons_succ])
        refine AnyL.take (i := 2) (oi := { dst := Option.some 47, op := Go.Op.move (Go.Operand.tmp 46), type := 4, pos := "law.go:159", after := #[{ on := 1, ground := Go.Ground.data }], guard := Option.none }) (v := ?_) rfl (by kernel_rfl) (by kernel_rfl) (by kernel_rfl) (by kernel_rfl) (fun _ _ _ h => h) hc (Or.inl ⟨by rfl, ?_⟩) (SOF.out _ (HK.out.call T6)) (fun hc => ?_)
        rotate_left
        · intro W hSw
          (try dsimp only at hSw)
          go_simp
          (try with_reducible rfl)
        (try simp only [Act.put, List.setIfInBounds_toArray, List.set_cons_zero, List.set_cons_succ])
        refine AnyL.take (i := 3) (oi := { dst := Option.some 48, op := Go.Op.load 42 (Go.Operand.tmp 5), type := 42, pos := "law.go:159", after := #[{ on := 2, ground := Go.Ground.guard }], guard := Option.some (2, Bool.false) }) (v := ?_) rfl (by kernel_rfl) (by kernel_rfl) (by kernel_rfl) (by kernel_rfl) (fun _ _ _ h => h) hc (Or.inl ⟨by rfl, ?_⟩) (SOF.out _ (HK.out.call T6)) (fun hc => ?_)
        rotate_left
        · intro W hSw
          (try dsimp only at hSw)
          go_simp
          (try with_reducible rfl)
        (try simp only [Act.put, List.setIfInBounds_toArray, List.set_cons_zero, List.set_cons_succ])
        refine AnyL.take (i := 4) (oi := { dst := Option.some 49, op := Go.Op.load 42 (Go.Operand.tmp 3), type := 42, pos := "law.go:159", after := #[{ on := 2, ground := Go.Ground.guard }], guard := Option.some (2, Bool.false) }) (v := ?_) rfl (by kernel_rfl) (by kernel_rfl) (by kernel_rfl) (by kernel_rfl) (fun _ _ _ h => h) hc (Or.inl ⟨by rfl, ?_⟩) (SOF.out _ (HK.out.call T6)) (fun hc => ?_)
        rotate_left
        · intro W hSw
          (try dsimp only at hSw)
          go_simp
          (try with_reducible rfl)
        (try simp only [Act.put, List.setIfInBounds_toArray, List.set_cons_zero, List.set_cons_succ])
        refine AnyL.take (i := 6) (oi := { dst := Option.some 51, op := Go.Op.load 42 (Go.Operand.tmp 6), type := 42, pos := "law.go:159", after := #[{ on := 2, ground := Go.Ground.guard }], guard := Option.some (2, Bool.false) }) (v := ?_) rfl (by kernel_rfl) (by kernel_rfl) (by kernel_rfl) (by kernel_rfl) (fun _ _ _ h => h) hc (Or.inl ⟨by rfl, ?_⟩) (SOF.out _ (HK.out.call T6)) (fun hc => ?_)
        rotate_left
        · intro W hSw
          (try dsimp only at hSw)
          go_simp
          (try with_reducible rfl)
        (try simp only [Act.put, List.setIfInBounds_toArray, List.set_cons_zero, List.set_cons_succ])
        refine AnyL.take (i := 8) (oi := { dst := Option.some 53, op := Go.Op.load 42 (Go.Operand.tmp 2), type := 42, pos := "law.go:159", after := #[{ on := 2, ground := Go.Ground.guard }], guard := Option.some (2, Bool.false) }) (v := ?_) rfl (by kernel_rfl) (by kernel_rfl) (by kernel_rfl) (by kernel_rfl) (fun _ _ _ h => h) hc (Or.inl ⟨by rfl, ?_⟩) (SOF.out _ (HK.out.call T6)) (fun hc => ?_)
        rotate_left
        · intro W hSw
          (try dsimp only at hSw)
          go_simp
          (try with_reducible rfl)
        (try simp only [Act.put, List.setIfInBounds_toArray, List.set_cons_zero, List.set_cons_succ])
        refine AnyL.oneC (i := 5) (oi := { dst := Option.some 50, op := Go.Op.call { callee := Go.Callee.value (Go.Operand.func 40), args := #[Go.Operand.tmp 48, Go.Operand.tmp 49], argTypes := #[42, 42] }, type := 42, pos := "law.go:159", after := #[{ on := 3, ground := Go.Ground.data }, { on := 4, ground := Go.Ground.data }, { on := 2, ground := Go.Ground.chain }, { on := 2, ground := Go.Ground.guard }], guard := Option.some (2, Bool.false) }) (by kernel_rfl) rfl (by rfl) hc (fun KK hK => ?_)
        clear hc
        go_simp
        refine (mul_z _ _ (Z.fdiv Y) Y 60 60 _ (rq.below T6).in_ (hu.below (HK.out.old.next T6)) (by omega) (by omega)).mono ?_
        rintro e w7 ⟨v7, rfl, r7, b7⟩
        have T7 := T6.next b7
        go_wp2_with fail
        refine hK.out _ _ (fun _ => SOF.out _ (HK.out.call T7)) (fun hc => ?_)
        clear hK
        (try simp only [Act.put, List.setIfInBounds_toArray, List.set_cons_zero, List.set_cons_succ])
        refine AnyL.oneC (i := 7) (oi := { dst := Option.some 52, op := Go.Op.call { callee := Go.Callee.value (Go.Operand.func 36), args := #[Go.Operand.tmp 50, Go.Operand.tmp 51], argTypes := #[42, 42] }, type := 42, pos := "law.go:159", after := #[{ on := 5, ground := Go.Ground.data }, { on := 6, ground := Go.Ground.data }, { on := 5, ground := Go.Ground.chain }, { on := 2, ground := Go.Ground.guard }], guard := Option.some (2, Bool.false) }) (by kernel_rfl) rfl (by rfl) hc (fun KK hK => ?_)
        clear hc
        go_simp
        refine (add_z _ _ (Z.fdiv Y * Y) (Z.fmod Y) 120 _ r7.in_ ((rr.below T7).in_.mono (by omega)) (by omega)).mono ?_
        rintro e w8 ⟨v8, rfl, r8, b8⟩
        have T8 := T7.next b8
        replace r8 := r8.ofEq hmk1.out
        go_wp2_with fail
        refine hK.out _ _ (fun _ => SOF.out _ (HK.out.call T8)) (fun hc => ?_)
        clear hK
        (try simp only [Act.put, List.setIfInBounds_toArray, List.set_cons_zero, List.set_cons_succ])
        refine AnyL.oneC (i := 9) (oi := { dst := Option.some 54, op := Go.Op.call { callee := Go.Callee.value (Go.Operand.func 42), args := #[Go.Operand.tmp 52, Go.Operand.tmp 53], argTypes := #[42, 42] }, type := 3, pos := "law.go:159", after := #[{ on := 7, ground := Go.Ground.data }, { on := 8, ground := Go.Ground.data }, { on := 7, ground := Go.Ground.chain }, { on := 2, ground := Go.Ground.guard }], guard := Option.some (2, Bool.false) }) (by kernel_rfl) rfl (by rfl) hc (fun KK hK => ?_)
        clear hc
        go_simp
        refine (HC0.out _ _ Z 121 _ r8.in_ ((hv.below (HK.out.old.next T8)).mono (by omega)) (by omega)).mono ?_
        rintro e w9 ⟨rfl, b9⟩
        have T9 := T8.next b9
        go_wp2_with fail
        refine hK.out _ _ (fun _ => SOF.out _ (HK.out.call T9)) (fun hc => ?_)
        clear hK
        (try simp only [Act.put, List.setIfInBounds_toArray, List.set_cons_zero, List.set_cons_succ])
        refine AnyL.take (i := 10) (oi := { dst := Option.some 55, op := Go.Op.binOp Go.BinOp.neq 3 (Go.Operand.tmp 54) (Go.Operand.const (Go.Value.int Go.IntKind.i64 0)) 3, type := 4, pos := "law.go:159", after := #[{ on := 9, ground := Go.Ground.data }, { on := 2, ground := Go.Ground.guard }], guard := Option.some (2, Bool.false) }) (v := ?_) rfl (by kernel_rfl) (by kernel_rfl) (by kernel_rfl) (by kernel_rfl) (fun _ _ _ h => h) hc (Or.inl ⟨by rfl, ?_⟩) (SOF.out _ (HK.out.call T9)) (fun hc => ?_)
        rotate_left
        · intro W hSw
          (try dsimp only at hSw)
          go_simp
          (try with_reducible rfl)
        (try simp only [Act.put, List.setIfInBounds_toArray, List.set_cons_zero, List.set_cons_succ])
        refine AnyL.take (i := 11) (oi := { dst := Option.some 56, op := Go.Op.pick (Go.Operand.tmp 47) (Go.Operand.const (Go.Value.bool Bool.true)) (Go.Operand.tmp 55), type := 4, pos := "law.go:159", after := #[{ on := 2, ground := Go.Ground.data }, { on := 10, ground := Go.Ground.data }], guard := Option.none }) (v := ?_) rfl (by kernel_rfl) (by kernel_rfl) (by kernel_rfl) (by kernel_rfl) (fun _ _ _ h => h) hc (Or.inl ⟨by rfl, ?_⟩) (SOF.out _ (HK.out.call T9)) (fun hc => ?_)
        rotate_left
        · intro W hSw
          (try dsimp only at hSw)
          go_simp
          (try with_reducible rfl)
        (try simp only [Act.put, List.setIfInBounds_toArray, List.set_cons_zero, List.set_cons_succ])
        refine AnyL.take (i := 12) (oi := { dst := Option.some 57, op := Go.Op.move (Go.Operand.tmp 56), type := 4, pos := "law.go:159", after := #[{ on := 11, ground := Go.Ground.data }, { on := 9, ground := Go.Ground.chain }], guard := Option.none }) (v := ?_) rfl (by kernel_rfl) (by kernel_rfl) (by kernel_rfl) (by kernel_rfl) (fun _ _ _ h => h) hc (Or.inl ⟨by rfl, ?_⟩) (SOF.out _ (HK.out.call T9)) (fun hc => ?_)
        rotate_left
        · intro W hSw
          (try dsimp only at hSw)
          go_simp
          (try with_reducible rfl)
        (try simp only [Act.put, List.setIfInBounds_toArray, List.set_cons_zero, List.set_cons_succ])
        refine AnyL.take (i := 13) (oi := { dst := Option.some 58, op := Go.Op.load 42 (Go.Operand.tmp 6), type := 42, pos := "law.go:159", after := #[{ on := 12, ground := Go.Ground.guard }], guard := Option.some (12, Bool.false) }) (v := ?_) rfl (by kernel_rfl) (by kernel_rfl) (by kernel_rfl) (by kernel_rfl) (fun _ _ _ h => h) hc (Or.inl ⟨by rfl, ?_⟩) (SOF.out _ (HK.out.call T9)) (fun hc => ?_)
        rotate_left
        · intro W hSw
          (try dsimp only at hSw)
          go_simp
          (try with_reducible rfl)
        (try simp only [Act.put, List.setIfInBounds_toArray, List.set_cons_zero, List.set_cons_succ])
        refine AnyL.oneC (i := 14) (oi := { dst := Option.some 59, op := Go.Op.call { callee := Go.Callee.value (Go.Operand.func 43), args := #[Go.Operand.tmp 58], argTypes := #[42] }, type := 3, pos := "law.go:159", after := #[{ on := 13, ground := Go.Ground.data }, { on := 12, ground := Go.Ground.chain }, { on := 12, ground := Go.Ground.guard }], guard := Option.some (12, Bool.false) }) (by kernel_rfl) rfl (by rfl) hc (fun KK hK => ?_)
        clear hc
        go_simp
        refine (HSR.out _ _ (rr.below T9).in_).mono ?_
        rintro e w10 ⟨rfl, b10⟩
        have T10 := T9.next b10
        go_wp2_with fail
        refine hK.out _ _ (fun _ => SOF.out _ (HK.out.call T10)) (fun hc => ?_)
        clear hK
        (try simp only [Act.put, List.setIfInBounds_toArray, List.set_cons_zero, List.set_cons_succ])
        refine AnyL.take (i := 15) (oi := { dst := Option.some 60, op := Go.Op.binOp Go.BinOp.neq 3 (Go.Operand.tmp 59) (Go.Operand.const (Go.Value.int Go.IntKind.i64 0)) 3, type := 4, pos := "law.go:159", after := #[{ on := 14, ground := Go.Ground.data }, { on := 12, ground := Go.Ground.guard }], guard := Option.some (12, Bool.false) }) (v := ?_) rfl (by kernel_rfl) (by kernel_rfl) (by kernel_rfl) (by kernel_rfl) (fun _ _ _ h => h) hc (Or.inl ⟨by rfl, ?_⟩) (SOF.out _ (HK.out.call T10)) (fun hc => ?_)
        rotate_left
        · intro W hSw
          (try dsimp only at hSw)
          go_simp
          (try with_reducible rfl)
        (try simp only [Act.put, List.setIfInBounds_toArray, List.set_cons_zero, List.set_cons_succ])
        refine AnyL.take (i := 16) (oi := { dst := Option.some 61, op := Go.Op.move (Go.Operand.tmp 60), type := 4, pos := "law.go:159", after := #[{ on := 15, ground := Go.Ground.data }, { on := 14, ground := Go.Ground.chain }, { on := 12, ground := Go.Ground.guard }], guard := Option.some (12, Bool.false) }) (v := ?_) rfl (by kernel_rfl) (by kernel_rfl) (by kernel_rfl) (by kernel_rfl) (fun _ _ _ h => h) hc (Or.inl ⟨by rfl, ?_⟩) (SOF.out _ (HK.out.call T10)) (fun hc => ?_)
        rotate_left
        · intro W hSw
          (try dsimp only at hSw)
          go_simp
          (try with_reducible rfl)
        (try simp only [Act.put, List.setIfInBounds_toArray, List.set_cons_zero, List.set_cons_succ])
        refine AnyL.take (i := 17) (oi := { dst := Option.some 62, op := Go.Op.load 42 (Go.Operand.tmp 6), type := 42, pos := "law.go:159", after := #[{ on := 16, ground := Go.Ground.guard }], guard := Option.some (16, Bool.true) }) (v := undef) rfl (by kernel_rfl) (by kernel_rfl) (by kernel_rfl) (by kernel_rfl) (fun _ _ _ h => h) hc (Or.inr ⟨by rfl, rfl⟩) (SOF.out _ (HK.out.call T10)) (fun hc => ?_)
        (try simp only [Act.put, List.setIfInBounds_toArray, List.set_cons_zero, List.set_cons_succ])
        refine AnyL.take (i := 18) (oi := { dst := Option.some 63, op := Go.Op.call { callee := Go.Callee.value (Go.Operand.func 43), args := #[Go.Operand.tmp 62], argTypes := #[42] }, type := 3, pos := "law.go:159", after := #[{ on := 17, ground := Go.Ground.data }, { on := 16, ground := Go.Ground.chain }, { on := 16, ground := Go.Ground.guard }], guard := Option.some (16, Bool.true) }) (v := undef) rfl (by kernel_rfl) (by kernel_rfl) (by kernel_rfl) (by kernel_rfl) (fun _ _ _ h => h) hc (Or.inr ⟨by rfl, rfl⟩) (SOF.out _ (HK.out.call T10)) (fun hc => ?_)
        (try simp only [Act.put, List.setIfInBounds_toArray, List.set_cons_zero, List.set_cons_succ])
        refine AnyL.take (i := 19) (oi := { dst := Option.some 64, op := Go.Op.load 42 (Go.Operand.tmp 3), type := 42, pos := "law.go:159", after := #[{ on := 16, ground := Go.Ground.guard }], guard := Option.some (16, Bool.true) }) (v := undef) rfl (by kernel_rfl) (by kernel_rfl) (by kernel_rfl) (by kernel_rfl) (fun _ _ _ h => h) hc (Or.inr ⟨by rfl, rfl⟩) (SOF.out _ (HK.out.call T10)) (fun hc => ?_)
        (try simp only [Act.put, List.setIfInBounds_toArray, List.set_cons_zero, List.set_cons_succ])
        refine AnyL.take (i := 20) (oi := { dst := Option.some 65, op := Go.Op.call { callee := Go.Callee.value (Go.Operand.func 43), args := #[Go.Operand.tmp 64], argTypes := #[42] }, type := 3, pos := "law.go:159", after := #[{ on := 19, ground := Go.Ground.data }, { on := 18, ground := Go.Ground.chain }, { on := 16, ground := Go.Ground.guard }], guard := Option.some (16, Bool.true) }) (v := undef) rfl (by kernel_rfl) (by kernel_rfl) (by kernel_rfl) (by kernel_rfl) (fun _ _ _ h => h) hc (Or.inr ⟨by rfl, rfl⟩) (SOF.out _ (HK.out.call T10)) (fun hc => ?_)
        (try simp only [Act.put, List.setIfInBounds_toArray, List.set_cons_zero, List.set_cons_succ])
        refine AnyL.take (i := 21) (oi := { dst := Option.some 66, op := Go.Op.binOp Go.BinOp.neq 3 (Go.Operand.tmp 63) (Go.Operand.tmp 65) 3, type := 4, pos := "law.go:159", after := #[{ on := 18, ground := Go.Ground.data }, { on := 20, ground := Go.Ground.data }, { on := 16, ground := Go.Ground.guard }], guard := Option.some (16, Bool.true) }) (v := undef) rfl (by kernel_rfl) (by kernel_rfl) (by kernel_rfl) (by kernel_rfl) (fun _ _ _ h => h) hc (Or.inr ⟨by rfl, rfl⟩) (SOF.out _ (HK.out.call T10)) (fun hc => ?_)
        (try simp only [Act.put, List.setIfInBounds_toArray, List.set_cons_zero, List.set_cons_succ])
        refine AnyL.take (i := 22) (oi := { dst := Option.some 67, op := Go.Op.pick (Go.Operand.tmp 61) (Go.Operand.tmp 66) (Go.Operand.const (Go.Value.bool Bool.false)), type := 4, pos := "law.go:159", after := #[{ on := 16, ground := Go.Ground.data }, { on := 21, ground := Go.Ground.data }, { on := 12, ground := Go.Ground.guard }], guard := Option.some (12, Bool.false) }) (v := ?_) rfl (by kernel_rfl) (by kernel_rfl) (by kernel_rfl) (by kernel_rfl) (fun _ _ _ h => h) hc (Or.inl ⟨by rfl, ?_⟩) (SOF.out _ (HK.out.call T10)) (fun hc => ?_)
        rotate_left
        · intro W hSw
          (try dsimp only at hSw)
          go_simp
          (try with_reducible rfl)
        (try simp only [Act.put, List.setIfInBounds_toArray, List.set_cons_zero, List.set_cons_succ])
        refine AnyL.take (i := 23) (oi := { dst := Option.some 68, op := Go.Op.pick (Go.Operand.tmp 57) (Go.Operand.const (Go.Value.bool Bool.true)) (Go.Operand.tmp 67), type := 4, pos := "law.go:159", after := #[{ on := 12, ground := Go.Ground.data }, { on := 22, ground := Go.Ground.data }], guard := Option.none }) (v := ?_) rfl (by kernel_rfl) (by kernel_rfl) (by kernel_rfl) (by kernel_rfl) (fun _ _ _ h => h) hc (Or.inl ⟨by rfl, ?_⟩) (SOF.out _ (HK.out.call T10)) (fun hc => ?_)
        rotate_left
        · intro W hSw
          (try dsimp only at hSw)
          go_simp
          (try with_reducible rfl)
        (try simp only [Act.put, List.setIfInBounds_toArray, List.set_cons_zero, List.set_cons_succ])
        refine AnyL.take (i := 24) (oi := { dst := Option.some 69, op := Go.Op.move (Go.Operand.tmp 68), type := 4, pos := "law.go:159", after := #[{ on := 23, ground := Go.Ground.data }, { on := 20, ground := Go.Ground.chain }], guard := Option.none }) (v := ?_) rfl (by kernel_rfl) (by kernel_rfl) (by kernel_rfl) (by kernel_rfl) (fun _ _ _ h => h) hc (Or.inl ⟨by rfl, ?_⟩) (SOF.out _ (HK.out.call T10)) (fun hc => ?_)
        rotate_left
        · intro W hSw
          (try dsimp only at hSw)
          go_simp
          (try with_reducible rfl)
        (try simp only [Act.put, List.setIfInBounds_toArray, List.set_cons_zero, List.set_cons_succ])
        refine AnyL.take (i := 25) (oi := { dst := Option.some 70, op := Go.Op.load 42 (Go.Operand.tmp 6), type := 42, pos := "law.go:159", after := #[{ on := 24, ground := Go.Ground.guard }], guard := Option.some (24, Bool.false) }) (v := ?_) rfl (by kernel_rfl) (by kernel_rfl) (by kernel_rfl) (by kernel_rfl) (fun _ _ _ h => h) hc (Or.inl ⟨by rfl, ?_⟩) (SOF.out _ (HK.out.call T10)) (fun hc => ?_)
        rotate_left
        · intro W hSw
          (try dsimp only at hSw)
          go_simp
          (try with_reducible rfl)
        (try simp only [Act.put, List.setIfInBounds_toArray, List.set_cons_zero, List.set_cons_succ])
        refine AnyL.take (i := 27) (oi := { dst := Option.some 72, op := Go.Op.load 42 (Go.Operand.tmp 3), type := 42, pos := "law.go:159", after := #[{ on := 24, ground := Go.Ground.guard }], guard := Option.some (24, Bool.false) }) (v := ?_) rfl (by kernel_rfl) (by kernel_rfl) (by kernel_rfl) (by kernel_rfl) (fun _ _ _ h => h) hc (Or.inl ⟨by rfl, ?_⟩) (SOF.out _ (HK.out.call T10)) (fun hc => ?_)
        rotate_left
        · intro W hSw
          (try dsimp only at hSw)
          go_simp
          (try with_reducible rfl)
        (try simp only [Act.put, List.setIfInBounds_toArray, List.set_cons_zero, List.set_cons_succ])
        refine AnyL.oneC (i := 26) (oi := { dst := Option.some 71, op := Go.Op.call { callee := Go.Callee.value (Go.Operand.func 47), args := #[Go.Operand.tmp 70], argTypes := #[42] }, type := 42, pos := "law.go:159", after := #[{ on := 25, ground := Go.Ground.data }, { on := 24, ground := Go.Ground.chain }, { on := 24, ground := Go.Ground.guard }], guard := Option.some (24, Bool.false) }) (by kernel_rfl) rfl (by rfl) hc (fun KK hK => ?_)
        clear hc
        go_simp
        refine (abs_z _ (Z.fmod Y) 60 _ (rr.below T10).in_ (by omega)).mono ?_
        rintro e w11 ⟨v11, rfl, r11, b11⟩
        have T11 := T10.next b11
        go_wp2_with fail
        refine hK.out _ _ (fun _ => SOF.out _ (HK.out.call T11)) (fun hc => ?_)
        clear hK
        (try simp only [Act.put, List.setIfInBounds_toArray, List.set_cons_zero, List.set_cons_succ])
        refine AnyL.oneC (i := 28) (oi := { dst := Option.some 73, op := Go.Op.call { callee := Go.Callee.value (Go.Operand.func 47), args := #[Go.Operand.tmp 72], argTypes := #[42] }, type := 42, pos := "law.go:159", after := #[{ on := 27, ground := Go.Ground.data }, { on := 26, ground := Go.Ground.chain }, { on := 24, ground := Go.Ground.guard }], guard := Option.some (24, Bool.false) }) (by kernel_rfl) rfl (by rfl) hc (fun KK hK => ?_)
        clear hc
        go_simp
        refine (abs_z _ Y 60 _ (hu.below (HK.out.old.next T11)) (by omega)).mono ?_
        rintro e w12 ⟨v12, rfl, r12, b12⟩
        have T12 := T11.next b12
        go_wp2_with fail
        refine hK.out _ _ (fun _ => SOF.out _ (HK.out.call T12)) (fun hc => ?_)
        clear hK
        (try simp only [Act.put, List.setIfInBounds_toArray, List.set_cons_zero, List.set_cons_succ])
        refine AnyL.oneC (i := 29) (oi := { dst := Option.some 74, op := Go.Op.call { callee := Go.Callee.value (Go.Operand.func 42), args := #[Go.Operand.tmp 71, Go.Operand.tmp 73], argTypes := #[42, 42] }, type := 3, pos := "law.go:159", after := #[{ on := 26, ground := Go.Ground.data }, { on := 28, ground := Go.Ground.data }, { on := 28, ground := Go.Ground.chain }, { on := 24, ground := Go.Ground.guard }], guard := Option.some (24, Bool.false) }) (by kernel_rfl) rfl (by rfl) hc (fun KK hK => ?_)
        clear hc
        go_simp
        refine (HC1.out _ _ _ (r11.below b12).in_ r12.in_).mono ?_
        rintro e w13 ⟨rfl, b13⟩
        have T13 := T12.next b13
        go_wp2_with fail
        refine hK.out _ _ (fun _ => SOF.out _ (HK.out.call T13)) (fun hc => ?_)
        clear hK
        (try simp only [Act.put, List.setIfInBounds_toArray, List.set_cons_zero, List.set_cons_succ])
        refine AnyL.take (i := 30) (oi := { dst := Option.some 75, op := Go.Op.binOp Go.BinOp.geq 3 (Go.Operand.tmp 74) (Go.Operand.const (Go.Value.int Go.IntKind.i64 0)) 3, type := 4, pos := "law.go:159", after := #[{ on := 29, ground := Go.Ground.data }, { on := 24, ground := Go.Ground.guard }], guard := Option.some (24, Bool.false) }) (v := ?_) rfl (by kernel_rfl) (by kernel_rfl) (by kernel_rfl) (by kernel_rfl) (fun _ _ _ h => h) hc (Or.inl ⟨by rfl, ?_⟩) (SOF.out _ (HK.out.call T13)) (fun hc => ?_)
        rotate_left
        · intro W hSw
          (try dsimp only at hSw)
          go_simp
          (try with_reducible rfl)
        (try simp only [Act.put, List.setIfInBounds_toArray, List.set_cons_zero, List.set_cons_succ])
        refine AnyL.take (i := 31) (oi := { dst := Option.some 76, op := Go.Op.pick (Go.Operand.tmp 69) (Go.Operand.const (Go.Value.bool Bool.true)) (Go.Operand.tmp 75), type := 4, pos := "law.go:159", after := #[{ on := 24, ground := Go.Ground.data }, { on := 30, ground := Go.Ground.data }], guard := Option.none }) (v := ?_) rfl (by kernel_rfl) (by kernel_rfl) (by kernel_rfl) (by kernel_rfl) (fun _ _ _ h => h) hc (Or.inl ⟨by rfl, ?_⟩) (SOF.out _ (HK.out.call T13)) (fun hc => ?_)
        rotate_left
        · intro W hSw
          (try dsimp only at hSw)
          go_simp
          (try with_reducible rfl)
        (try simp only [Act.put, List.setIfInBounds_toArray, List.set_cons_zero, List.set_cons_succ])
        refine AnyL.done (by kernel_rfl) ?_
        have K := HK.out.call T13
        replace rq := rq.below T13
        replace rr := rr.below T13
        clear HK SOF T6 T7 T8 T9 T10 T11 T12 T13
        have cxa := (K.blk (List.Mem.tail _ (List.Mem.tail _ (List.Mem.head _)))).c0
        have cxb := (K.blk (List.Mem.tail _ (List.Mem.tail _ (List.Mem.head _)))).c1
        have cya := (K.blk (List.Mem.tail _ (List.Mem.tail _ (List.Mem.tail _ (List.Mem.head _))))).c0
        have cyb := (K.blk (List.Mem.tail _ (List.Mem.tail _ (List.Mem.tail _ (List.Mem.head _))))).c1
        go_wp2_with fail
        refine (ceil_yes _ _ Z Y 60 60 w13 (hv.below K.old) (hu.below K.old) HY.out (by omega) (by omega)).mono ?_
        rintro e w14 ⟨v14, rfl, rc, b14⟩
        clear cxa cxb cya cyb
        replace K := K.call b14
        replace rq := rq.below b14
        replace rr := rr.below b14
        clear b14
        replace rc := rc.ofEq hcd.out
        rw [if_pos hR0.out] at rc
        obtain ⟨sC, AC, nC, cC, rfl⟩ := rc.form
        have tt := bl_alloc w14 (.cells #[.bool sC, .slice AC nC cC] 42)
        replace K := K.made1 (a := .bool sC) (b := .slice AC nC cC)
        replace rq := rq.below tt
        replace rr := rr.below tt
        replace rc := rc.below tt
        clear tt
        have cCa := (K.blk (List.Mem.head _)).c0
        have cCb := (K.blk (List.Mem.head _)).c1
        have cqa := (K.blk (List.Mem.tail _ (List.Mem.tail _ (List.Mem.head _)))).c0
        have cqb := (K.blk (List.Mem.tail _ (List.Mem.tail _ (List.Mem.head _)))).c1
        go_wp2_with fail
        refine (sub_z _ _ (Z.fdiv Y) (Z.fdiv Y) 63 (w14.alloc (.cells #[.bool sC, .slice AC nC cC] 42)) rc.in_ (rq.in_.mono (by omega)) (by omega)).mono ?_
        rintro e w15 ⟨v15, rfl, r15, b15⟩
        clear cCa cCb cqa cqb
        replace K := K.call b15
        replace rq := rq.below b15
        replace rr := rr.below b15
        replace rc := rc.below b15
        clear b15
        replace r15 := r15.ofEq (show _ = (0 : Int) by omega)
        clear rc
        obtain ⟨sD, AD, nD, cD, rfl⟩ := r15.form
        have tt := bl_alloc w15 (.cells #[.bool sD, .slice AD nD cD] 42)
        replace K := K.made1 (a := .bool sD) (b := .slice AD nD cD)
        replace rq := rq.below tt
        replace rr := rr.below tt
        replace r15 := r15.below tt
        clear tt
        have cxa := (K.blk (List.Mem.tail _ (List.Mem.tail _ (List.Mem.tail _ (List.Mem.tail _ (List.Mem.head _)))))).c0
        have cxb := (K.blk (List.Mem.tail _ (List.Mem.tail _ (List.Mem.tail _ (List.Mem.tail _ (List.Mem.head _)))))).c1
        have cya := (K.blk (List.Mem.tail _ (List.Mem.tail _ (List.Mem.tail _ (List.Mem.tail _ (List.Mem.tail _ (List.Mem.head _))))))).c0
        have cyb := (K.blk (List.Mem.tail _ (List.Mem.tail _ (List.Mem.tail _ (List.Mem.tail _ (List.Mem.tail _ (List.Mem.head _))))))).c1
        go_wp2_with fail
        refine (exact_even _ _ Z Y 60 60 (w15.alloc (.cells #[.bool sD, .slice AD nD cD] 42)) (hv.below K.old) (hu.below K.old) HY.out (by omega) (by omega) hR0.out).mono ?_
        rintro e w16 ⟨v16, rfl, rx, b16⟩
        clear cxa cxb cya cyb
        replace K := K.call b16
        replace rq := rq.below b16
        replace rr := rr.below b16
        replace r15 := r15.below b16
        clear b16
        obtain ⟨sX, AX, nX, cX, rfl⟩ := rx.form
        have tt := bl_alloc w16 (.cells #[.bool sX, .slice AX nX cX] 42)
        replace K := K.made1 (a := .bool sX) (b := .slice AX nX cX)
        replace rq := rq.below tt
        replace rr := rr.below tt
        replace r15 := r15.below tt
        replace rx := rx.below tt
        clear tt
        have cra := (K.blk (List.Mem.tail _ (List.Mem.tail _ (List.Mem.tail _ (List.Mem.head _))))).c0
        have crb := (K.blk (List.Mem.tail _ (List.Mem.tail _ (List.Mem.tail _ (List.Mem.head _))))).c1
        go_wp2_with fail
        refine (HSR.out _ (w16.alloc (.cells #[.bool sX, .slice AX nX cX] 42)) rr.in_).mono ?_
        rintro e w17 ⟨rfl, b17⟩
        clear cra crb
        replace K := K.call b17
        replace rq := rq.below b17
        replace rr := rr.below b17
        replace r15 := r15.below b17
        replace rx := rx.below b17
        clear b17
        have cDa := (K.blk (List.Mem.tail _ (List.Mem.head _))).c0
        have cDb := (K.blk (List.Mem.tail _ (List.Mem.head _))).c1
        go_wp2_with fail
        refine (sign_z _ 0 64 w17 r15.in_ (by omega)).mono ?_
        rintro e w18 ⟨rfl, b18⟩
        clear cDa cDb
        replace K := K.call b18
        replace rq := rq.below b18
        replace rr := rr.below b18
        replace r15 := r15.below b18
        replace rx := rx.below b18
        clear b18
        have cXa := (K.blk (List.Mem.head _)).c0
        have cXb := (K.blk (List.Mem.head _)).c1
        have cqa := (K.blk (List.Mem.tail _ (List.Mem.tail _ (List.Mem.tail _ (List.Mem.tail _ (List.Mem.head _)))))).c0
        have cqb := (K.blk (List.Mem.tail _ (List.Mem.tail _ (List.Mem.tail _ (List.Mem.tail _ (List.Mem.head _)))))).c1
        go_wp2_with fail
        refine (HC0.out _ _ (Z.fdiv Y) 60 w18 rx.in_ rq.in_ (by omega)).mono ?_
        rintro e w19 ⟨rfl, b19⟩
        clear cXa cXb cqa cqb
        replace K := K.call b19
        replace rq := rq.below b19
        replace rr := rr.below b19
        replace r15 := r15.below b19
        replace rx := rx.below b19
        clear b19
        go_wp2_with fail
        go_ret
        exact ⟨rfl, K.old⟩
      · have HY := hide hY0
        have hmk1 := hide (fdiv_make (Z := Z) hY0)
        have habs := hide (fmod_abs (Z := Z) hY0)
        have hcd := hide (cdiv_eq Z Y hY0)
        have hys := sign_ne hY0
        have hyt : (Y.sign != 0) = true := by simpa using hY0
        have hsg := hide (fmod_sign hY0 hR)
        have hR0 := hide hR
        clear hY0 hR
        go_enter Try.func12, Try.ntmps12
        go_wp2_with fail
        refine (counting_any _).mono ?_
        rintro e w1 ⟨rfl, b1⟩
        replace K := K.call b1
        clear b1
        go_wp2_with fail
        refine (zdividing_any w1).mono ?_
        rintro e w2 ⟨rfl, b2⟩
        replace K := K.call b2
        clear b2
        have cxa := (K.blk (List.Mem.head _)).c0
        have cxb := (K.blk (List.Mem.head _)).c1
        have cya := (K.blk (List.Mem.tail _ (List.Mem.head _))).c0
        have cyb := (K.blk (List.Mem.tail _ (List.Mem.head _))).c1
        go_wp2_with fail
        refine (z2short_yes _ _ Z Y 60 60 w2 (hv.below K.old) (hu.below K.old) (by omega) (by omega)).mono ?_
        rintro e w3 ⟨rfl, b3⟩
        clear cxa cxb cya cyb
        replace K := K.call b3
        clear b3
        have cxa := (K.blk (List.Mem.head _)).c0
        have cxb := (K.blk (List.Mem.head _)).c1
        have cya := (K.blk (List.Mem.tail _ (List.Mem.head _))).c0
        have cyb := (K.blk (List.Mem.tail _ (List.Mem.head _))).c1
        go_wp2_with fail
        refine (zdiv_yes _ _ Z Y 60 60 w3 (hv.below K.old) (hu.below K.old) HY.out (by omega) (by omega)).mono ?_
        rintro e w4 ⟨v4, u4, rfl, rq, rr, b4⟩
        clear cxa cxb cya cyb
        replace K := K.call b4
        clear b4
        obtain ⟨sq, Aq, nq, cq, rfl⟩ := rq.form
        obtain ⟨sr, Ar, nr, cr, rfl⟩ := rr.form
        have tt := (bl_alloc w4 (.cells #[.bool sq, .slice Aq nq cq] 42)).next (bl_alloc _ (.cells #[.bool sr, .slice Ar nr cr] 42))
        replace K := K.made2 (a := .bool sq) (b := .slice Aq nq cq) (c := .bool sr) (d := .slice Ar nr cr)
        replace rq := rq.below tt
        replace rr := rr.below tt
        clear tt
        have hs := sign_z _ Y 60 ((w4.alloc (.cells #[.bool sq, .slice Aq nq cq] 42)).alloc (.cells #[.bool sr, .slice Ar nr cr] 42)) (hu.below K.old) (by omega)
        unfold SignPost at hs
        have cya := (K.blk (List.Mem.tail _ (List.Mem.tail _ (List.Mem.tail _ (List.Mem.head _))))).c0
        have cyb := (K.blk (List.Mem.tail _ (List.Mem.tail _ (List.Mem.tail _ (List.Mem.head _))))).c1
        go_wp2_with fail
        refine (hs).mono ?_
        rintro e w5 ⟨rfl, b5⟩
        clear cya cyb
        replace K := K.call b5
        replace rq := rq.below b5
        replace rr := rr.below b5
        clear b5
        clear hs
        have HC0 := hide (fun v u (X : Int) k W (h1 : ZIn W v X k) (h2 : ZIn W u X k) (hk : k ≤ 1099511627776) => (show Calls Try.prog 42 #[v, u] W (fun e w' => e = .returned (.int .i64 0) ∧ Below W.heap.size W w') by have := cmp_z v u X X k W h1 h2 hk; unfold CmpZPost at this; rw [sgn3_same] at this; exact this))
        have HC1 := hide (fun v u W (h1 : ZIn W v ((Z.fmod Y).natAbs : Int) 60) (h2 : ZIn W u (Y.natAbs : Int) 60) => (show Calls Try.prog 42 #[v, u] W (fun e w' => e = .returned (.int .i64 (-1)) ∧ Below W.heap.size W w') by have := cmp_z v u _ _ 60 W h1 h2 (by omega); unfold CmpZPost at this; rw [habs.out] at this; exact this))
        have HSR := hide (fun v W (h1 : ZIn W v (Z.fmod Y) 60) => (show Calls Try.prog 43 #[v] W (fun e w' => e = .returned (.int .i64 Y.sign) ∧ Below W.heap.size W w') by have := sign_z v _ 60 W h1 (by omega); unfold SignPost at this; rw [hsg.out] at this; exact this))
        have HSY := hide (fun v W (h1 : ZIn W v Y 60) => (show Calls Try.prog 43 #[v] W (fun e w' => e = .returned (.int .i64 Y.sign) ∧ Below W.heap.size W w') from sign_z v _ 60 W h1 (by omega)))
        have hyy : (Y.sign == Y.sign) = true := by simp
        have hyn : (Y.sign != Y.sign) = false := by simp
        generalize hsgn : Y.sign = sgn at *
        clear hsgn
        have SOF := hide (show ∀ W, Keeps w [(w4.heap.size + 1, .bool sr, .slice Ar nr cr), (w4.heap.size, .bool sq, .slice Aq nq cq), (w.heap.size, .bool s, .slice A n c), (w.heap.size + 1, .bool t, .slice B m d)] W → (fun W => Keeps w [(w4.heap.size + 1, .bool sr, .slice Ar nr cr), (w4.heap.size, .bool sq, .slice Aq nq cq), (w.heap.size, .bool s, .slice A n c), (w.heap.size + 1, .bool t, .slice B m d)] W ∧ W.cell? ⟨w4.heap.size + 1, 0, none⟩ = some (.bool sr) ∧ W.cell? ⟨w4.heap.size + 1, 1, none⟩ = some (.slice Ar nr cr) ∧ W.cell? ⟨w4.heap.size, 0, none⟩ = some (.bool sq) ∧ W.cell? ⟨w4.heap.size, 1, none⟩ = some (.slice Aq nq cq) ∧ W.cell? ⟨w.heap.size, 0, none⟩ = some (.bool s) ∧ W.cell? ⟨w.heap.size, 1, none⟩ = some (.slice A n c) ∧ W.cell? ⟨w.heap.size + 1, 0, none⟩ = some (.bool t) ∧ W.cell? ⟨w.heap.size + 1, 1, none⟩ = some (.slice B m d)) W from fun W k => ⟨k, (k.blk (List.Mem.head _)).c0, (k.blk (List.Mem.head _)).c1, (k.blk (List.Mem.tail _ (List.Mem.head _))).c0, (k.blk (List.Mem.tail _ (List.Mem.head _))).c1, (k.blk (List.Mem.tail _ (List.Mem.tail _ (List.Mem.head _)))).c0, (k.blk (List.Mem.tail _ (List.Mem.tail _ (List.Mem.head _)))).c1, (k.blk (List.Mem.tail _ (List.Mem.tail _ (List.Mem.tail _ (List.Mem.head _))))).c0, (k.blk (List.Mem.tail _ (List.Mem.tail _ (List.Mem.tail _ (List.Mem.head _))))).c1⟩)
        have HK := hide K
        have T6 : Below w5.heap.size w5 w5.drew := bl_drewN w5 1
        clear K
        go_wp2_with fail
        go_region_held3 (fun W => Keeps w [(w4.heap.size + 1, .bool sr, .slice Ar nr cr), (w4.heap.size, .bool sq, .slice Aq nq cq), (w.heap.size, .bool s, .slice A n c), (w.heap.size + 1, .bool t, .slice B m d)] W ∧ W.cell? ⟨w4.heap.size + 1, 0, none⟩ = some (.bool sr) ∧ W.cell? ⟨w4.heap.size + 1, 1, none⟩ = some (.slice Ar nr cr) ∧ W.cell? ⟨w4.heap.size, 0, none⟩ = some (.bool sq) ∧ W.cell? ⟨w4.heap.size, 1, none⟩ = some (.slice Aq nq cq) ∧ W.cell? ⟨w.heap.size, 0, none⟩ = some (.bool s) ∧ W.cell? ⟨w.heap.size, 1, none⟩ = some (.slice A n c) ∧ W.cell? ⟨w.heap.size + 1, 0, none⟩ = some (.bool t) ∧ W.cell? ⟨w.heap.size + 1, 1, none⟩ = some (.slice B m d))
          (with_reducible first | exact SOF.out _ HK.out.drew | exact SOF.out _ (Keeps.call (And.left (a := Keeps w _ _) (by assumption)) (by assumption)))
          (first
            | (go_at_call 40; (with_reducible refine (mul_z _ _ (Z.fdiv Y) Y 60 60 w5.drew (rq.below T6).in_ (hu.below (HK.out.old.next T6)) (by omega) (by omega)).mono ?_); rintro e w7 ⟨v7, rfl, r7, b7⟩; have T7 := T6.next b7)
            | (go_at_call 36; (with_reducible refine (add_z _ _ (Z.fdiv Y * Y) (Z.fmod Y) 120 w7 r7.in_ ((rr.below T7).in_.mono (by omega)) (by omega)).mono ?_); rintro e w8 ⟨v8, rfl, r8, b8⟩; have T8 := T7.next b8; replace r8 := r8.ofEq hmk1.out)
            | (go_at_call 42; (with_reducible refine (HC0.out _ _ Z 121 w8 r8.in_ ((hv.below (HK.out.old.next T8)).mono (by omega)) (by omega)).mono ?_); rintro e w9 ⟨rfl, b9⟩; have T9 := T8.next b9)
            | (go_at_call 43; (with_reducible refine (HSR.out _ w9 (rr.below T9).in_).mono ?_); rintro e w10 ⟨rfl, b10⟩; have T10 := T9.next b10)
            | (go_at_call 43; (with_reducible refine (HSR.out _ w10 (rr.below T10).in_).mono ?_); rintro e w11 ⟨rfl, b11⟩; have T11 := T10.next b11)
            | (go_at_call 43; (with_reducible refine (HSY.out _ w11 (hu.below (HK.out.old.next T11))).mono ?_); rintro e w12 ⟨rfl, b12⟩; have T12 := T11.next b12)
            | (go_at_call 47; (with_reducible refine (abs_z _ (Z.fmod Y) 60 w12 (rr.below T12).in_ (by omega)).mono ?_); rintro e w13 ⟨v13, rfl, r13, b13⟩; have T13 := T12.next b13)
            | (go_at_call 47; (with_reducible refine (abs_z _ Y 60 w13 (hu.below (HK.out.old.next T13)) (by omega)).mono ?_); rintro e w14 ⟨v14, rfl, r14, b14⟩; have T14 := T13.next b14)
            | (go_at_call 42; (with_reducible refine (HC1.out _ _ w14 (r13.below b14).in_ r14.in_).mono ?_); rintro e w15 ⟨rfl, b15⟩; have T15 := T14.next b15))
        have K := HK.out.call T15
        replace rq := rq.below T15
        replace rr := rr.below T15
        clear HK SOF T6 T7 T8 T9 T10 T11 T12 T13 T14 T15
        have cxa := (K.blk (List.Mem.tail _ (List.Mem.tail _ (List.Mem.head _)))).c0
        have cxb := (K.blk (List.Mem.tail _ (List.Mem.tail _ (List.Mem.head _)))).c1
        have cya := (K.blk (List.Mem.tail _ (List.Mem.tail _ (List.Mem.tail _ (List.Mem.head _))))).c0
        have cyb := (K.blk (List.Mem.tail _ (List.Mem.tail _ (List.Mem.tail _ (List.Mem.head _))))).c1
        go_wp2_with fail
        refine (ceil_yes _ _ Z Y 60 60 w15 (hv.below K.old) (hu.below K.old) HY.out (by omega) (by omega)).mono ?_
        rintro e w16 ⟨v16, rfl, rc, b16⟩
        clear cxa cxb cya cyb
        replace K := K.call b16
        replace rq := rq.below b16
        replace rr := rr.below b16
        clear b16
        replace rc := rc.ofEq hcd.out
        rw [if_neg hR0.out] at rc
        obtain ⟨sC, AC, nC, cC, rfl⟩ := rc.form
        have tt := bl_alloc w16 (.cells #[.bool sC, .slice AC nC cC] 42)
        replace K := K.made1 (a := .bool sC) (b := .slice AC nC cC)
        replace rq := rq.below tt
        replace rr := rr.below tt
        replace rc := rc.below tt
        clear tt
        have cCa := (K.blk (List.Mem.head _)).c0
        have cCb := (K.blk (List.Mem.head _)).c1
        have cqa := (K.blk (List.Mem.tail _ (List.Mem.tail _ (List.Mem.head _)))).c0
        have cqb := (K.blk (List.Mem.tail _ (List.Mem.tail _ (List.Mem.head _)))).c1
        go_wp2_with fail
        refine (sub_z _ _ (Z.fdiv Y + 1) (Z.fdiv Y) 63 (w16.alloc (.cells #[.bool sC, .slice AC nC cC] 42)) rc.in_ (rq.in_.mono (by omega)) (by omega)).mono ?_
        rintro e w17 ⟨v17, rfl, r17, b17⟩
        clear cCa cCb cqa cqb
        replace K := K.call b17
        replace rq := rq.below b17
        replace rr := rr.below b17
        replace rc := rc.below b17
        clear b17
        replace r17 := r17.ofEq (show _ = (1 : Int) by omega)
        clear rc
        obtain ⟨sD, AD, nD, cD, rfl⟩ := r17.form
        have tt := bl_alloc w17 (.cells #[.bool sD, .slice AD nD cD] 42)
        replace K := K.made1 (a := .bool sD) (b := .slice AD nD cD)
        replace rq := rq.below tt
        replace rr := rr.below tt
        replace r17 := r17.below tt
        clear tt
        have cxa := (K.blk (List.Mem.tail _ (List.Mem.tail _ (List.Mem.tail _ (List.Mem.tail _ (List.Mem.head _)))))).c0
        have cxb := (K.blk (List.Mem.tail _ (List.Mem.tail _ (List.Mem.tail _ (List.Mem.tail _ (List.Mem.head _)))))).c1
        have cya := (K.blk (List.Mem.tail _ (List.Mem.tail _ (List.Mem.tail _ (List.Mem.tail _ (List.Mem.tail _ (List.Mem.head _))))))).c0
        have cyb := (K.blk (List.Mem.tail _ (List.Mem.tail _ (List.Mem.tail _ (List.Mem.tail _ (List.Mem.tail _ (List.Mem.head _))))))).c1
        go_wp2_with fail
        refine (exact_odd _ _ Z Y 60 60 (w17.alloc (.cells #[.bool sD, .slice AD nD cD] 42)) (hv.below K.old) (hu.below K.old) HY.out (by omega) (by omega) hR0.out).mono ?_
        rintro e w18 ⟨rfl, b18⟩
        clear cxa cxb cya cyb
        replace K := K.call b18
        replace rq := rq.below b18
        replace rr := rr.below b18
        replace r17 := r17.below b18
        clear b18
        have tt := bl_alloc w18 (.cells #[.bool false, .slice none 0 0] 42)
        replace K := K.made1 (a := .bool false) (b := .slice none 0 0)
        replace rq := rq.below tt
        replace rr := rr.below tt
        replace r17 := r17.below tt
        clear tt
        have cra := (K.blk (List.Mem.tail _ (List.Mem.tail _ (List.Mem.tail _ (List.Mem.head _))))).c0
        have crb := (K.blk (List.Mem.tail _ (List.Mem.tail _ (List.Mem.tail _ (List.Mem.head _))))).c1
        go_wp2_with fail
        refine (HSR.out _ (w18.alloc (.cells #[.bool false, .slice none 0 0] 42)) rr.in_).mono ?_
        rintro e w19 ⟨rfl, b19⟩
        clear cra crb
        replace K := K.call b19
        replace rq := rq.below b19
        replace rr := rr.below b19
        replace r17 := r17.below b19
        clear b19
        have cDa := (K.blk (List.Mem.tail _ (List.Mem.head _))).c0
        have cDb := (K.blk (List.Mem.tail _ (List.Mem.head _))).c1
        go_wp2_with fail
        refine (is_yes _ 1 64 w19 r17 (by omega) (by omega) (by omega)).mono ?_
        rintro e w20 ⟨rfl, b20⟩
        clear cDa cDb
        replace K := K.call b20
        replace rq := rq.below b20
        replace rr := rr.below b20
        replace r17 := r17.below b20
        clear b20
        have cXa := (K.blk (List.Mem.head _)).c0
        have cXb := (K.blk (List.Mem.head _)).c1
        go_wp2_with fail
        refine (sign_z _ 0 60 w20 (ZRes.zero _ _).in_ (by omega)).mono ?_
        rintro e w21 ⟨rfl, b21⟩
        clear cXa cXb
        replace K := K.call b21
        replace rq := rq.below b21
        replace rr := rr.below b21
        replace r17 := r17.below b21
        clear b21
        go_wp2_with fail
        go_ret
        exact ⟨rfl, K.old⟩
  · go_enter Try.func12, Try.ntmps12
    go_wp2_with fail
    refine (counting_any _).mono ?_
    rintro e w1 ⟨rfl, b1⟩
    replace K := K.call b1
    clear b1
    go_wp2_with fail
    refine (zdividing_any w1).mono ?_
    rintro e w2 ⟨rfl, b2⟩
    replace K := K.call b2
    clear b2
    have cxa := (K.blk (List.Mem.head _)).c0
    have cxb := (K.blk (List.Mem.head _)).c1
    have cya := (K.blk (List.Mem.tail _ (List.Mem.head _))).c0
    have cyb := (K.blk (List.Mem.tail _ (List.Mem.head _))).c1
    go_wp2_with fail
    refine (z2short_no s t A B n c m d 60 w2 (by omega) (by omega) (by omega) (by omega)).mono ?_
    rintro e w3 ⟨rfl, b3⟩
    clear cxa cxb cya cyb
    replace K := K.call b3
    clear b3
    go_wp2_with fail
    go_ret
    exact ⟨rfl, K.old⟩
end Go.Proofs.Ytpocaopiaggbmaa
