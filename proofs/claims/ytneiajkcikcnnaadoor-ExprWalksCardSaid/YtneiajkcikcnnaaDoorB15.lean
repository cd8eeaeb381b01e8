/- Texts of one seat, put together: ExprC12. -/
import Derived.Test.YtneiajkcikcnnaaDoorB14
set_option linter.unusedVariables false
/- A cursor's deny, inner, one, both, cond, Cond. -/
namespace Go.Proofs.YtneiajkcikcnnaaDoor
open Go.RowKit
open Lx Ex

/-- An answer handed on by the caller, in a block of its own. -/
theorem PPost.up {D : CD} {g j : Nat} {o : Out Tr} {W w2 : World} {e : Ending} (h : PPost D g o j W e w2) : ∃ (code : Int) (kd : Int) (Al : Option Addr) (nl cl : Nat) (Ar : Option Addr) (nr cr : Nat) (op : Int) (p q : ByteArray) (A : Option Addr) (n c : Nat),
    e = .returned (.tuple #[.agg #[.int .i64 kd, .slice Al nl cl, .slice Ar nr cr, .int .i64 op, .string p, .string q, .slice A n c], .int .i64 code]) ∧ Only g W w2 ∧
      (∀ w9 w i, Cur D g w i → Went D g j w W → w.heap.size < W.heap.size → Stands D i (rd D.ts j) j → Only w.heap.size w2 w9 → PPost D g o i w (.returned (.tuple #[.agg #[.int .i64 kd, .slice Al nl cl, .slice Ar nr cr, .int .i64 op, .string p, .string q, .slice A n c], .int .i64 code])) w9) := by
  obtain ⟨i', code, kd, Al, nl, cl, Ar, nr, cr, op, p, q, A, n, c, he, hw, hor⟩ := PPost.any h
  refine ⟨code, kd, Al, nl, cl, Ar, nr, cr, op, p, q, A, n, c, he, hw.1, fun w9 w i hc hq hlt hs ho => ?_⟩
  have hw9 := Went.fresh hc (hq.trans hw) ho (Nat.le_refl _)
  rcases hor with ⟨h0, t, r1, h1, hT, h3⟩ | ⟨cd, r1, h0, hcd, h1, h3⟩
  · subst h0
    exact PPost.ok (vs := #[.int .i64 kd, .slice Al nl cl, .slice Ar nr cr, .int .i64 op, .string p, .string q, .slice A n c]) h1 ((hT.keep (Keep.of_only ho hlt)).mono (Nat.le_of_lt hlt)) (hs.trans h3) hw9
  · subst h0
    subst h1
    obtain ⟨i2, he2, _⟩ := h
    rw [he] at he2
    injection he2 with he2
    injection he2 with he2
    have e1 : Value.agg #[.int .i64 kd, .slice Al nl cl, .slice Ar nr cr, .int .i64 op, .string p, .string q, .slice A n c] = Value.agg #[.int .i64 0, .slice none 0 0, .slice none 0 0, .int .i64 0, .string ⟨#[]⟩, .string ⟨#[]⟩, .slice none 0 0] := by have := congrArg (fun a => a[0]?) he2; simpa using this
    rw [e1]
    exact PPost.err rfl hcd (hs.trans h3) hw9
set_option maxRecDepth 100000 in
set_option maxHeartbeats 8000000 in
theorem deny_any (D : CD) (g i : Nat) (l : Int) (o : Out Tr) (w : World) (h : Cur D g w i) (htab : OpTab w)
    (hone : ∀ W, Cur D g W i → OpTab W → Calls Tryd.prog 55 #[.pointer (some ⟨g, 0, none⟩), .int .i64 l] W (PPost D g o i W)) :
    Calls Tryd.prog 60 #[.pointer (some ⟨g, 0, none⟩), .int .i64 l] w (PPost D g (bind o (fun t r1 => .ok (.deny t) r1)) i w) := by
  have HH := hide h
  have HB := hide (bl_alloc w (.cells #[.int .i64 0, .slice none 0 0, .slice none 0 0, .int .i64 0, .string ⟨#[]⟩, .string ⟨#[]⟩, .slice none 0 0] 45))
  have hsz : (w.alloc (.cells #[.int .i64 0, .slice none 0 0, .slice none 0 0, .int .i64 0, .string ⟨#[]⟩, .string ⟨#[]⟩, .slice none 0 0] 45)).heap.size = w.heap.size + 1 := World.size_alloc _ _
  have X0 := hide (Box.new 45 w #[.int .i64 0, .slice none 0 0, .slice none 0 0, .int .i64 0, .string ⟨#[]⟩, .string ⟨#[]⟩, .slice none 0 0])
  have HTB := hide (htab.below HB.out)
  have hgw := h.lt
  have HC0 := hide (h.below HB.out)
  have s1 := (hone _ HC0.out HTB.out).mono (fun _ _ hh => PPost.any hh)
  clear h htab hone
  go_enter Tryd.func60, Tryd.ntmps60
  go_wp2_with fail
  generalize hW0 : w.alloc (.cells #[.int .i64 0, .slice none 0 0, .slice none 0 0, .int .i64 0, .string ⟨#[]⟩, .string ⟨#[]⟩, .slice none 0 0] 45) = W0 at *
  clear hW0
  refine s1.mono ?_
  rintro e w2 ⟨i2, code, kd, Al, nl, cl, Ar, nr, cr, op, p, q, A, n, c, rfl, q2, hor⟩
  have X2 := hide (X0.out.other q2.1 (Nat.ne_of_gt hgw))
  have Q2 := hide ((Went.of_below HH.out HB.out).trans q2)
  have hs2 := q2.1.size
  clear s1 q2
  rcases hor with ⟨h0, t, r1, h1, hT, h3⟩ | ⟨cd, r1, h0, hcd, h1, h3⟩
  · subst h0 h1
    have hb3 := bl_alloc w2 (.cells #[.int .i64 kd, .slice Al nl cl, .slice Ar nr cr, .int .i64 op, .string p, .string q, .slice A n c] 45)
    have hb4 := bl_alloc (w2.alloc (.cells #[.int .i64 kd, .slice Al nl cl, .slice Ar nr cr, .int .i64 op, .string p, .string q, .slice A n c] 45)) (.cells #[.int .i64 kd, .slice Al nl cl, .slice Ar nr cr, .int .i64 op, .string p, .string q, .slice A n c] 45)
    have hz3 : (w2.alloc (.cells #[.int .i64 kd, .slice Al nl cl, .slice Ar nr cr, .int .i64 op, .string p, .string q, .slice A n c] 45)).heap.size = w2.heap.size + 1 := World.size_alloc _ _
    have x4 := (X2.out.next hb3).next hb4
    have G4 := hide (Box.new 45 (w2.alloc (.cells #[.int .i64 kd, .slice Al nl cl, .slice Ar nr cr, .int .i64 op, .string p, .string q, .slice A n c] 45)) #[.int .i64 kd, .slice Al nl cl, .slice Ar nr cr, .int .i64 op, .string p, .string q, .slice A n c])
    have T4 := hide ((hT.keep (Keep.of_below hb3)).keep (Keep.of_below hb4))
    have Q4 := hide ((Q2.out.below hb3).below hb4)
    have HS := hide h3
    rw [hz3] at G4
    clear hb3 hb4 hz3 hT h3
    go_wp2_with (with_reducible refine wpList_store_box rfl 45 _ _ rfl w.heap.size #[.int .i64 3, .slice none 0 0, .slice none 0 0, .int .i64 0, .string ⟨#[]⟩, .string ⟨#[]⟩, .slice (some ⟨w2.heap.size + 1, 0, none⟩) 1 1] rfl rfl _ x4 (by kernel_rfl) rfl (by simp [Value.oneCell']) ?_; intro w9 k9 ho9)
    refine bodyPost_tr rfl rfl rfl k9 rfl ?_
    refine PPost.ok (vs := #[.int .i64 3, .slice none 0 0, .slice none 0 0, .int .i64 0, .string ⟨#[]⟩, .string ⟨#[]⟩, .slice (some ⟨w2.heap.size + 1, 0, none⟩) 1 1]) rfl ?_ HS.out (Went.fresh HH.out Q4.out ho9 (Nat.le_refl _))
    refine TIn.kids (T := 45) 3 [gt t] [[.int .i64 kd, .slice Al nl cl, .slice Ar nr cr, .int .i64 op, .string p, .string q, .slice A n c]] rfl (by unfold From; omega) (G4.out.other ho9 (by omega)) (fun j x hx => ?_) (by simp)
    match j, hx with
    | 0, hx =>
      injection hx with hx; subst hx
      exact ⟨_, rfl, (T4.out.keep (Keep.of_only ho9 (by omega))).mono (by omega)⟩
    | j + 1, hx => simp at hx
  · have gc := err_ne hcd
    subst h0 h1
    have x3 := X2.out.alloc (.cells #[.int .i64 kd, .slice Al nl cl, .slice Ar nr cr, .int .i64 op, .string p, .string q, .slice A n c] 45)
    have HP := hide (fun w9 ho9 => PPost.err (o := bind (Out.err cd r1) (fun t r1 => .ok (.deny t) r1)) (w' := w9) rfl hcd h3 (Went.fresh HH.out (Q2.out.below (bl_alloc w2 (.cells #[.int .i64 kd, .slice Al nl cl, .slice Ar nr cr, .int .i64 op, .string p, .string q, .slice A n c] 45))) ho9 (Nat.le_refl _)))
    clear h3 hcd
    go_wp2_with (with_reducible refine wpList_store_box rfl 45 _ _ rfl w.heap.size #[.int .i64 0, .slice none 0 0, .slice none 0 0, .int .i64 0, .string ⟨#[]⟩, .string ⟨#[]⟩, .slice none 0 0] rfl rfl _ x3 (by kernel_rfl) rfl (by simp [Value.oneCell']) ?_; intro w9 k9 ho9)
    refine bodyPost_tr rfl rfl rfl k9 rfl ?_
    exact HP.out _ ho9
set_option maxRecDepth 100000 in
set_option maxHeartbeats 8000000 in
theorem inner_any (D : CD) (g i : Nat) (l : Int) (o : Out Tr) (w : World) (h : Cur D g w i) (htab : OpTab w)
    (hcond : ∀ W, Cur D g W i → OpTab W → Calls Tryd.prog 31 #[.pointer (some ⟨g, 0, none⟩), .int .i64 l] W (PPost D g o i W)) :
    Calls Tryd.prog 61 #[.pointer (some ⟨g, 0, none⟩), .int .i64 l] w (PPost D g (bind o (fun t r1 => if isT ⟨#[41]⟩ r1 = true then .ok t r1.tail else .err 101 r1)) i w) := by
  have HH := hide h
  have HB := hide (bl_alloc w (.cells #[.int .i64 0, .slice none 0 0, .slice none 0 0, .int .i64 0, .string ⟨#[]⟩, .string ⟨#[]⟩, .slice none 0 0] 45))
  have hsz : (w.alloc (.cells #[.int .i64 0, .slice none 0 0, .slice none 0 0, .int .i64 0, .string ⟨#[]⟩, .string ⟨#[]⟩, .slice none 0 0] 45)).heap.size = w.heap.size + 1 := World.size_alloc _ _
  have X0 := hide (Box.new 45 w #[.int .i64 0, .slice none 0 0, .slice none 0 0, .int .i64 0, .string ⟨#[]⟩, .string ⟨#[]⟩, .slice none 0 0])
  have HTB := hide (htab.below HB.out)
  have hgw := h.lt
  have HC0 := hide (h.below HB.out)
  have s1 := (hcond _ HC0.out HTB.out).mono (fun _ _ hh => PPost.any hh)
  clear h htab hcond
  go_enter Tryd.func61, Tryd.ntmps61
  go_wp2_with fail
  generalize hW0 : w.alloc (.cells #[.int .i64 0, .slice none 0 0, .slice none 0 0, .int .i64 0, .string ⟨#[]⟩, .string ⟨#[]⟩, .slice none 0 0] 45) = W0 at *
  clear hW0
  refine s1.mono ?_
  rintro e w2 ⟨i2, code, kd, Al, nl, cl, Ar, nr, cr, op, p, q, A, n, c, rfl, q2, hor⟩
  have X2 := hide (X0.out.other q2.1 (Nat.ne_of_gt hgw))
  have Q2 := hide ((Went.of_below HH.out HB.out).trans q2)
  have hs2 := q2.1.size
  clear s1 q2
  rcases hor with ⟨h0, t, r1, h1, hT, h3⟩ | ⟨cd, r1, h0, hcd, h1, h3⟩
  · subst h0 h1
    have hb3 := bl_alloc w2 (.cells #[.int .i64 kd, .slice Al nl cl, .slice Ar nr cr, .int .i64 op, .string p, .string q, .slice A n c] 45)
    have X3 := hide (X2.out.next hb3)
    have Y3 := hide (Box.new 45 w2 #[.int .i64 kd, .slice Al nl cl, .slice Ar nr cr, .int .i64 op, .string p, .string q, .slice A n c])
    have T3 := hide (hT.keep (Keep.of_below hb3))
    have Q3 := hide (Q2.out.below hb3)
    have HS := hide h3
    have hwa := want_any D g i2 ⟨#[41]⟩ _ Q3.out.2
    unfold WantPost at hwa
    have hrd := h3.1
    rw [hrd] at hwa
    cases hs : isT ⟨#[41]⟩ r1 with
    | true =>
      rw [hs] at hwa
      simp only [if_true] at hwa
      have hst := isT_step HH.out.good.ends (show isT ⟨#[41]⟩ (rd D.ts i2) = true by rw [hrd]; exact hs)
      have HST := hide (show Stands D i r1.tail (i2 + 1) from h3.trans' (by rw [hst.1, hrd]) (by have := hst.2.1; have e2 := hst.1; rw [hrd] at e2 this ⊢; rw [← e2]; omega))
      have HO := hide (show bind (Out.ok t r1) (fun t r1 => if isT ⟨#[41]⟩ r1 = true then Out.ok t r1.tail else .err 101 r1) = .ok t r1.tail from if_pos hs)
      clear hs hst hrd h3 hT hb3
      go_wp2_with fail
      refine hwa.mono ?_
      rintro e w4 ⟨rfl, q4⟩
      have x4 := X3.out.other q4.1 (Nat.ne_of_gt hgw)
      have Y4 := Y3.out.other q4.1 (by omega)
      have l0 := Y4.cell 0 _ rfl
      have l1 := Y4.cell 1 _ rfl
      have l2 := Y4.cell 2 _ rfl
      have l3 := Y4.cell 3 _ rfl
      have l4 := Y4.cell 4 _ rfl
      have l5 := Y4.cell 5 _ rfl
      have l6 := Y4.cell 6 _ rfl
      have T4 := hide (T3.out.keep (Keep.of_only q4.1 (by omega)))
      have Q4 := hide (Q3.out.trans q4)
      clear q4 hwa Y4
      go_wp2_with (with_reducible refine wpList_store_box rfl 45 _ _ rfl w.heap.size #[.int .i64 kd, .slice Al nl cl, .slice Ar nr cr, .int .i64 op, .string p, .string q, .slice A n c] rfl rfl _ x4 (by kernel_rfl) rfl (by simp [Value.oneCell']) ?_; intro w9 k9 ho9)
      refine bodyPost_tr rfl rfl rfl k9 rfl ?_
      exact PPost.ok (vs := #[.int .i64 kd, .slice Al nl cl, .slice Ar nr cr, .int .i64 op, .string p, .string q, .slice A n c]) HO.out ((T4.out.keep (Keep.of_only ho9 (by omega))).mono (by omega)) HST.out (Went.fresh HH.out Q4.out ho9 (Nat.le_refl _))
    | false =>
      rw [hs] at hwa
      simp only [Bool.false_eq_true, if_false] at hwa
      have HO := hide (show bind (Out.ok t r1) (fun t r1 => if isT ⟨#[41]⟩ r1 = true then Out.ok t r1.tail else .err 101 r1) = .err 101 r1 from if_neg (by rw [hs]; decide))
      clear hs hrd h3 hT hb3
      go_wp2_with fail
      refine hwa.mono ?_
      rintro e w4 ⟨rfl, q4⟩
      have x4 := X3.out.other q4.1 (Nat.ne_of_gt hgw)
      have Q4 := hide (Q3.out.trans q4)
      clear q4 hwa
      go_wp2_with (with_reducible refine wpList_store_box rfl 45 _ _ rfl w.heap.size #[.int .i64 0, .slice none 0 0, .slice none 0 0, .int .i64 0, .string ⟨#[]⟩, .string ⟨#[]⟩, .slice none 0 0] rfl rfl _ x4 (by kernel_rfl) rfl (by simp [Value.oneCell']) ?_; intro w9 k9 ho9)
      refine bodyPost_tr rfl rfl rfl k9 rfl ?_
      exact PPost.err (c := 101) HO.out (by decide) HS.out (Went.fresh HH.out Q4.out ho9 (Nat.le_refl _))
  · have gc := err_ne hcd
    have gc2 := err_ne2 hcd
    subst h0 h1
    have x3 := X2.out.alloc (.cells #[.int .i64 kd, .slice Al nl cl, .slice Ar nr cr, .int .i64 op, .string p, .string q, .slice A n c] 45)
    have HP := hide (fun w9 ho9 => PPost.err (o := bind (Out.err cd r1) (fun t r1 => if isT ⟨#[41]⟩ r1 = true then .ok t r1.tail else .err 101 r1)) (w' := w9) rfl hcd h3 (Went.fresh HH.out (Q2.out.below (bl_alloc w2 (.cells #[.int .i64 kd, .slice Al nl cl, .slice Ar nr cr, .int .i64 op, .string p, .string q, .slice A n c] 45))) ho9 (Nat.le_refl _)))
    clear h3 hcd
    go_wp2_with (with_reducible refine wpList_store_box rfl 45 _ _ rfl w.heap.size #[.int .i64 0, .slice none 0 0, .slice none 0 0, .int .i64 0, .string ⟨#[]⟩, .string ⟨#[]⟩, .slice none 0 0] rfl rfl _ x3 (by kernel_rfl) rfl (by simp [Value.oneCell']) ?_; intro w9 k9 ho9)
    refine bodyPost_tr rfl rfl rfl k9 rfl ?_
    exact HP.out _ ho9
end Go.Proofs.YtneiajkcikcnnaaDoor
