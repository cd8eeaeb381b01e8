/- Texts of one seat, put together: ExprC13. -/
import Derived.Test.YtneiajkcikcnnaaDoorB15
set_option linter.unusedVariables false
/- A cursor's one, both, cond, Cond. -/
namespace Go.Proofs.YtneiajkcikcnnaaDoor
open Go.RowKit
open Lx Ex

set_option maxRecDepth 100000 in
set_option maxHeartbeats 16000000 in
theorem one_any (D : CD) (g i lv : Nat) (w : World) (h : Cur D g w i) (htab : OpTab w) (hlv : lv ≤ 60)
    (hone : ∀ W, 1 ≤ lv → Cur D g W (i + 1) → OpTab W → (rd D.ts (i + 1)).length < (rd D.ts i).length → Calls Tryd.prog 55 #[.pointer (some ⟨g, 0, none⟩), .int .i64 ((lv : Int) - 1)] W (PPost D g (parsF D.kn .one (lv - 1) (rd D.ts (i + 1))) (i + 1) W))
    (hcond : ∀ W, 1 ≤ lv → Cur D g W (i + 1) → OpTab W → (rd D.ts (i + 1)).length < (rd D.ts i).length → Calls Tryd.prog 31 #[.pointer (some ⟨g, 0, none⟩), .int .i64 ((lv : Int) - 1)] W (PPost D g (parsF D.kn .cond (lv - 1) (rd D.ts (i + 1))) (i + 1) W)) :
    Calls Tryd.prog 55 #[.pointer (some ⟨g, 0, none⟩), .int .i64 (lv : Int)] w (PPost D g (parsF D.kn .one lv (rd D.ts i)) i w) := by
  have HH := hide h
  have HB := hide (bl_alloc w (.cells #[.int .i64 0, .slice none 0 0, .slice none 0 0, .int .i64 0, .string ⟨#[]⟩, .string ⟨#[]⟩, .slice none 0 0] 45))
  have hsz : (w.alloc (.cells #[.int .i64 0, .slice none 0 0, .slice none 0 0, .int .i64 0, .string ⟨#[]⟩, .string ⟨#[]⟩, .slice none 0 0] 45)).heap.size = w.heap.size + 1 := World.size_alloc _ _
  have X0 := hide (Box.new 45 w #[.int .i64 0, .slice none 0 0, .slice none 0 0, .int .i64 0, .string ⟨#[]⟩, .string ⟨#[]⟩, .slice none 0 0])
  have HTB := hide (htab.below HB.out)
  have hgw := h.lt
  have HC0 := hide (h.below HB.out)
  have HP1 := hide (parsF_one D.kn lv (rd D.ts i))
  have HT := hide (fun (s : ByteArray) W (c : Cur D g W i) => take_any D g i s W c)
  have HS := hide (fun (s : ByteArray) W (c : Cur D g W i) => sees_any D g i s W c)
  unfold TakePost at HT
  unfold BoolW at HS
  have HTAB := hide htab
  have HONE := hide hone
  have HCOND := hide hcond
  have hg2 := htab.ne h
  obtain ⟨O, hO⟩ : ∃ O, O = parsF D.kn .one lv (rd D.ts i) := ⟨_, rfl⟩
  rw [← hO] at HP1 ⊢
  clear h htab hone hcond hO
  by_cases hl : lv = 0
  · cases hb : isT ⟨#[33]⟩ (rd D.ts i) with
    | true =>
      have HO := hide (HP1.out.trans (if_pos (by subst hl; exact ⟨rfl, Or.inl hb⟩)))
      subst hl
      clear HP1
      go_enter Tryd.func55, Tryd.ntmps55
      go_wp2_with fail
      generalize hW0 : w.alloc (.cells #[.int .i64 0, .slice none 0 0, .slice none 0 0, .int .i64 0, .string ⟨#[]⟩, .string ⟨#[]⟩, .slice none 0 0] 45) = W0 at *
      clear hW0
      have Q0 := hide (Went.of_below HH.out HB.out)
      have XX0 := hide X0.out
      have hq := HS.out ⟨#[33]⟩ _ Q0.out.2
      rw [hb] at hq
      refine hq.mono ?_
      rintro e w1 ⟨rfl, bq⟩
      have Q1 := hide (Q0.out.below bq)
      have XX1 := hide (XX0.out.next bq)
      have hs1 := bq.size
      clear bq hq
      have x9 := XX1.out
      go_wp2_with (with_reducible refine wpList_store_box rfl 45 _ _ rfl w.heap.size #[.int .i64 0, .slice none 0 0, .slice none 0 0, .int .i64 0, .string ⟨#[]⟩, .string ⟨#[]⟩, .slice none 0 0] rfl rfl _ x9 (by kernel_rfl) rfl (by simp [Value.oneCell']) ?_; intro w9 k9 ho9)
      refine bodyPost_tr rfl rfl rfl k9 rfl ?_
      exact PPost.err (c := 102) HO.out (by decide) (Stands.refl D i) (Went.fresh HH.out Q1.out ho9 (Nat.le_refl _))
    | false =>
      cases hp : isT ⟨#[40]⟩ (rd D.ts i) with
      | true =>
        have HO := hide (HP1.out.trans (if_pos (by subst hl; exact ⟨rfl, Or.inr hp⟩)))
        subst hl
        clear HP1
        go_enter Tryd.func55, Tryd.ntmps55
        go_wp2_with fail
        generalize hW0 : w.alloc (.cells #[.int .i64 0, .slice none 0 0, .slice none 0 0, .int .i64 0, .string ⟨#[]⟩, .string ⟨#[]⟩, .slice none 0 0] 45) = W0 at *
        clear hW0
        have Q0 := hide (Went.of_below HH.out HB.out)
        have XX0 := hide X0.out
        have hq := HS.out ⟨#[33]⟩ _ Q0.out.2
        rw [hb] at hq
        refine hq.mono ?_
        rintro e w1 ⟨rfl, bq⟩
        have Q1 := hide (Q0.out.below bq)
        have XX1 := hide (XX0.out.next bq)
        have hs1 := bq.size
        clear bq hq
        go_wp2_with fail
        have hq := HS.out ⟨#[40]⟩ _ Q1.out.2
        rw [hp] at hq
        refine hq.mono ?_
        rintro e w2 ⟨rfl, bq⟩
        have Q2 := hide (Q1.out.below bq)
        have XX2 := hide (XX1.out.next bq)
        have hs2 := bq.size
        clear bq hq
        have x9 := XX2.out
        go_wp2_with (with_reducible refine wpList_store_box rfl 45 _ _ rfl w.heap.size #[.int .i64 0, .slice none 0 0, .slice none 0 0, .int .i64 0, .string ⟨#[]⟩, .string ⟨#[]⟩, .slice none 0 0] rfl rfl _ x9 (by kernel_rfl) rfl (by simp [Value.oneCell']) ?_; intro w9 k9 ho9)
        refine bodyPost_tr rfl rfl rfl k9 rfl ?_
        exact PPost.err (c := 102) HO.out (by decide) (Stands.refl D i) (Went.fresh HH.out Q2.out ho9 (Nat.le_refl _))
      | false =>
        cases ht : isT ⟨#[116, 114, 117, 101]⟩ (rd D.ts i) with
        | true =>
          have hno : ¬ (lv = 0 ∧ (isT ⟨#[33]⟩ (rd D.ts i) = true ∨ isT ⟨#[40]⟩ (rd D.ts i) = true)) := fun hh => by rw [hb, hp] at hh; simp at hh
          have HO := hide (HP1.out.trans ((if_neg hno).trans ((if_neg (by rw [hb]; decide)).trans ((if_neg (by rw [hp]; decide)).trans (if_pos ht)))))
          clear hno
          have hst := isT_step HH.out.good.ends ht
          rw [← hst.1] at HO
          have hl1 := hst.2.1
          have HST := hide (show Stands D i (rd D.ts (i + 1)) (i + 1) from ⟨rfl, by omega⟩)
          clear hst
          subst hl
          clear HP1
          go_enter Tryd.func55, Tryd.ntmps55
          go_wp2_with fail
          generalize hW0 : w.alloc (.cells #[.int .i64 0, .slice none 0 0, .slice none 0 0, .int .i64 0, .string ⟨#[]⟩, .string ⟨#[]⟩, .slice none 0 0] 45) = W0 at *
          clear hW0
          have Q0 := hide (Went.of_below HH.out HB.out)
          have XX0 := hide X0.out
          have hq := HS.out ⟨#[33]⟩ _ Q0.out.2
          rw [hb] at hq
          refine hq.mono ?_
          rintro e w1 ⟨rfl, bq⟩
          have Q1 := hide (Q0.out.below bq)
          have XX1 := hide (XX0.out.next bq)
          have hs1 := bq.size
          clear bq hq
          go_wp2_with fail
          have hq := HS.out ⟨#[40]⟩ _ Q1.out.2
          rw [hp] at hq
          refine hq.mono ?_
          rintro e w2 ⟨rfl, bq⟩
          have Q2 := hide (Q1.out.below bq)
          have XX2 := hide (XX1.out.next bq)
          have hs2 := bq.size
          clear bq hq
          go_wp2_with fail
          have hq := HT.out ⟨#[33]⟩ _ Q2.out.2
          rw [hb] at hq
          simp only [Bool.false_eq_true, if_false] at hq
          refine hq.mono ?_
          rintro e w3 ⟨rfl, bq⟩
          have Q3 := hide (Q2.out.trans bq)
          have XX3 := hide (XX2.out.other bq.1 (Nat.ne_of_gt hgw))
          have hs3 := bq.1.size
          clear bq hq
          go_wp2_with fail
          have hq := HT.out ⟨#[40]⟩ _ Q3.out.2
          rw [hp] at hq
          simp only [Bool.false_eq_true, if_false] at hq
          refine hq.mono ?_
          rintro e w4 ⟨rfl, bq⟩
          have Q4 := hide (Q3.out.trans bq)
          have XX4 := hide (XX3.out.other bq.1 (Nat.ne_of_gt hgw))
          have hs4 := bq.1.size
          clear bq hq
          go_wp2_with fail
          have hq := HT.out ⟨#[116, 114, 117, 101]⟩ _ Q4.out.2
          rw [ht] at hq
          simp only [if_true] at hq
          refine hq.mono ?_
          rintro e w5 ⟨rfl, bq⟩
          have Q5 := hide (Q4.out.trans bq)
          have XX5 := hide (XX4.out.other bq.1 (Nat.ne_of_gt hgw))
          have hs5 := bq.1.size
          clear bq hq
          have x9 := XX5.out
          go_wp2_with (with_reducible refine wpList_store_box rfl 45 _ _ rfl w.heap.size #[.int .i64 0, .slice none 0 0, .slice none 0 0, .int .i64 0, .string ⟨#[]⟩, .string ⟨#[]⟩, .slice none 0 0] rfl rfl _ x9 (by kernel_rfl) rfl (by simp [Value.oneCell']) ?_; intro w9 k9 ho9)
          refine bodyPost_tr rfl rfl rfl k9 rfl ?_
          exact PPost.ok (vs := #[.int .i64 0, .slice none 0 0, .slice none 0 0, .int .i64 0, .string ⟨#[]⟩, .string ⟨#[]⟩, .slice none 0 0]) HO.out (TIn.leaf _ _ 0) HST.out (Went.fresh HH.out Q5.out ho9 (Nat.le_refl _))
        | false =>
          cases hf : isT ⟨#[102, 97, 108, 115, 101]⟩ (rd D.ts i) with
          | true =>
            have hno : ¬ (lv = 0 ∧ (isT ⟨#[33]⟩ (rd D.ts i) = true ∨ isT ⟨#[40]⟩ (rd D.ts i) = true)) := fun hh => by rw [hb, hp] at hh; simp at hh
            have HO := hide (HP1.out.trans ((if_neg hno).trans ((if_neg (by rw [hb]; decide)).trans ((if_neg (by rw [hp]; decide)).trans ((if_neg (by rw [ht]; decide)).trans (if_pos hf))))))
            clear hno
            have hst := isT_step HH.out.good.ends hf
            rw [← hst.1] at HO
            have hl1 := hst.2.1
            have HST := hide (show Stands D i (rd D.ts (i + 1)) (i + 1) from ⟨rfl, by omega⟩)
            clear hst
            subst hl
            clear HP1
            go_enter Tryd.func55, Tryd.ntmps55
            go_wp2_with fail
            generalize hW0 : w.alloc (.cells #[.int .i64 0, .slice none 0 0, .slice none 0 0, .int .i64 0, .string ⟨#[]⟩, .string ⟨#[]⟩, .slice none 0 0] 45) = W0 at *
            clear hW0
            have Q0 := hide (Went.of_below HH.out HB.out)
            have XX0 := hide X0.out
            have hq := HS.out ⟨#[33]⟩ _ Q0.out.2
            rw [hb] at hq
            refine hq.mono ?_
            rintro e w1 ⟨rfl, bq⟩
            have Q1 := hide (Q0.out.below bq)
            have XX1 := hide (XX0.out.next bq)
            have hs1 := bq.size
            clear bq hq
            go_wp2_with fail
            have hq := HS.out ⟨#[40]⟩ _ Q1.out.2
            rw [hp] at hq
            refine hq.mono ?_
            rintro e w2 ⟨rfl, bq⟩
            have Q2 := hide (Q1.out.below bq)
            have XX2 := hide (XX1.out.next bq)
            have hs2 := bq.size
            clear bq hq
            go_wp2_with fail
            have hq := HT.out ⟨#[33]⟩ _ Q2.out.2
            rw [hb] at hq
            simp only [Bool.false_eq_true, if_false] at hq
            refine hq.mono ?_
            rintro e w3 ⟨rfl, bq⟩
            have Q3 := hide (Q2.out.trans bq)
            have XX3 := hide (XX2.out.other bq.1 (Nat.ne_of_gt hgw))
            have hs3 := bq.1.size
            clear bq hq
            go_wp2_with fail
            have hq := HT.out ⟨#[40]⟩ _ Q3.out.2
            rw [hp] at hq
            simp only [Bool.false_eq_true, if_false] at hq
            refine hq.mono ?_
            rintro e w4 ⟨rfl, bq⟩
            have Q4 := hide (Q3.out.trans bq)
            have XX4 := hide (XX3.out.other bq.1 (Nat.ne_of_gt hgw))
            have hs4 := bq.1.size
            clear bq hq
            go_wp2_with fail
            have hq := HT.out ⟨#[116, 114, 117, 101]⟩ _ Q4.out.2
            rw [ht] at hq
            simp only [Bool.false_eq_true, if_false] at hq
            refine hq.mono ?_
            rintro e w5 ⟨rfl, bq⟩
            have Q5 := hide (Q4.out.trans bq)
            have XX5 := hide (XX4.out.other bq.1 (Nat.ne_of_gt hgw))
            have hs5 := bq.1.size
            clear bq hq
            go_wp2_with fail
            have hq := HT.out ⟨#[102, 97, 108, 115, 101]⟩ _ Q5.out.2
            rw [hf] at hq
            simp only [if_true] at hq
            refine hq.mono ?_
            rintro e w6 ⟨rfl, bq⟩
            have Q6 := hide (Q5.out.trans bq)
            have XX6 := hide (XX5.out.other bq.1 (Nat.ne_of_gt hgw))
            have hs6 := bq.1.size
            clear bq hq
            have x9 := XX6.out
            go_wp2_with (with_reducible refine wpList_store_box rfl 45 _ _ rfl w.heap.size #[.int .i64 1, .slice none 0 0, .slice none 0 0, .int .i64 0, .string ⟨#[]⟩, .string ⟨#[]⟩, .slice none 0 0] rfl rfl _ x9 (by kernel_rfl) rfl (by simp [Value.oneCell']) ?_; intro w9 k9 ho9)
            refine bodyPost_tr rfl rfl rfl k9 rfl ?_
            exact PPost.ok (vs := #[.int .i64 1, .slice none 0 0, .slice none 0 0, .int .i64 0, .string ⟨#[]⟩, .string ⟨#[]⟩, .slice none 0 0]) HO.out (TIn.leaf _ _ 1) HST.out (Went.fresh HH.out Q6.out ho9 (Nat.le_refl _))
          | false =>
            have hno : ¬ (lv = 0 ∧ (isT ⟨#[33]⟩ (rd D.ts i) = true ∨ isT ⟨#[40]⟩ (rd D.ts i) = true)) := fun hh => by rw [hb, hp] at hh; simp at hh
            have HO := hide (HP1.out.trans ((if_neg hno).trans ((if_neg (by rw [hb]; decide)).trans ((if_neg (by rw [hp]; decide)).trans ((if_neg (by rw [ht]; decide)).trans (if_neg (by rw [hf]; decide)))))))
            clear hno
            subst hl
            clear HP1
            go_enter Tryd.func55, Tryd.ntmps55
            go_wp2_with fail
            generalize hW0 : w.alloc (.cells #[.int .i64 0, .slice none 0 0, .slice none 0 0, .int .i64 0, .string ⟨#[]⟩, .string ⟨#[]⟩, .slice none 0 0] 45) = W0 at *
            clear hW0
            have Q0 := hide (Went.of_below HH.out HB.out)
            have XX0 := hide X0.out
            have hq := HS.out ⟨#[33]⟩ _ Q0.out.2
            rw [hb] at hq
            refine hq.mono ?_
            rintro e w1 ⟨rfl, bq⟩
            have Q1 := hide (Q0.out.below bq)
            have XX1 := hide (XX0.out.next bq)
            have hs1 := bq.size
            clear bq hq
            go_wp2_with fail
            have hq := HS.out ⟨#[40]⟩ _ Q1.out.2
            rw [hp] at hq
            refine hq.mono ?_
            rintro e w2 ⟨rfl, bq⟩
            have Q2 := hide (Q1.out.below bq)
            have XX2 := hide (XX1.out.next bq)
            have hs2 := bq.size
            clear bq hq
            go_wp2_with fail
            have hq := HT.out ⟨#[33]⟩ _ Q2.out.2
            rw [hb] at hq
            simp only [Bool.false_eq_true, if_false] at hq
            refine hq.mono ?_
            rintro e w3 ⟨rfl, bq⟩
            have Q3 := hide (Q2.out.trans bq)
            have XX3 := hide (XX2.out.other bq.1 (Nat.ne_of_gt hgw))
            have hs3 := bq.1.size
            clear bq hq
            go_wp2_with fail
            have hq := HT.out ⟨#[40]⟩ _ Q3.out.2
            rw [hp] at hq
            simp only [Bool.false_eq_true, if_false] at hq
            refine hq.mono ?_
            rintro e w4 ⟨rfl, bq⟩
            have Q4 := hide (Q3.out.trans bq)
            have XX4 := hide (XX3.out.other bq.1 (Nat.ne_of_gt hgw))
            have hs4 := bq.1.size
            clear bq hq
            go_wp2_with fail
            have hq := HT.out ⟨#[116, 114, 117, 101]⟩ _ Q4.out.2
            rw [ht] at hq
            simp only [Bool.false_eq_true, if_false] at hq
            refine hq.mono ?_
            rintro e w5 ⟨rfl, bq⟩
            have Q5 := hide (Q4.out.trans bq)
            have XX5 := hide (XX4.out.other bq.1 (Nat.ne_of_gt hgw))
            have hs5 := bq.1.size
            clear bq hq
            go_wp2_with fail
            have hq := HT.out ⟨#[102, 97, 108, 115, 101]⟩ _ Q5.out.2
            rw [hf] at hq
            simp only [Bool.false_eq_true, if_false] at hq
            refine hq.mono ?_
            rintro e w6 ⟨rfl, bq⟩
            have Q6 := hide (Q5.out.trans bq)
            have XX6 := hide (XX5.out.other bq.1 (Nat.ne_of_gt hgw))
            have hs6 := bq.1.size
            clear bq hq
            go_wp2_with fail
            have hd := (compare_any D g i _ Q6.out.2 (HTAB.out.went HH.out Q6.out)).mono (fun _ _ hh => PPost.up hh)
            refine hd.mono ?_
            rintro e wr ⟨code, kd, Al, nl, cl, Ar, nr, cr, op, p, q, A, n, c, rfl, or, hup⟩
            have x9 := XX6.out.other or (Nat.ne_of_gt hgw)
            have HU := hide (fun w9 ho9 => hup w9 w i HH.out Q6.out (by omega) (Stands.refl D i) ho9)
            clear hup or hd
            go_wp2_with (with_reducible refine wpList_store_box rfl 45 _ _ rfl w.heap.size #[.int .i64 kd, .slice Al nl cl, .slice Ar nr cr, .int .i64 op, .string p, .string q, .slice A n c] rfl rfl _ x9 (by kernel_rfl) rfl (by simp [Value.oneCell']) ?_; intro w9 k9 ho9)
            refine bodyPost_tr rfl rfl rfl k9 rfl ?_
            rw [HO.out]
            exact HU.out _ ho9
  · cases hb : isT ⟨#[33]⟩ (rd D.ts i) with
    | true =>
      have HO := hide (HP1.out.trans ((if_neg (fun hh => hl hh.1)).trans (if_pos hb)))
      have hst := isT_step HH.out.good.ends hb
      rw [← hst.1] at HO
      have hl1 := hst.2.1
      have HST := hide (show Stands D i (rd D.ts (i + 1)) (i + 1) from ⟨rfl, by omega⟩)
      clear hst
      have gl : ((lv : Int) == 0) = false := by simp; omega
      clear HP1
      go_enter Tryd.func55, Tryd.ntmps55
      go_wp2_with fail
      generalize hW0 : w.alloc (.cells #[.int .i64 0, .slice none 0 0, .slice none 0 0, .int .i64 0, .string ⟨#[]⟩, .string ⟨#[]⟩, .slice none 0 0] 45) = W0 at *
      clear hW0
      have Q0 := hide (Went.of_below HH.out HB.out)
      have XX0 := hide X0.out
      have hq := HT.out ⟨#[33]⟩ _ Q0.out.2
      rw [hb] at hq
      simp only [if_true] at hq
      refine hq.mono ?_
      rintro e w1 ⟨rfl, bq⟩
      have Q1 := hide (Q0.out.trans bq)
      have XX1 := hide (XX0.out.other bq.1 (Nat.ne_of_gt hgw))
      have hs1 := bq.1.size
      clear bq hq
      go_wp2_with fail
      have hd := (deny_any D g (i + 1) ((lv : Int) - 1) _ _ Q1.out.2 (HTAB.out.went HH.out Q1.out) (fun W c tt => HONE.out W (by omega) c tt (by omega))).mono (fun _ _ hh => PPost.up hh)
      refine hd.mono ?_
      rintro e wr ⟨code, kd, Al, nl, cl, Ar, nr, cr, op, p, q, A, n, c, rfl, or, hup⟩
      have x9 := XX1.out.other or (Nat.ne_of_gt hgw)
      have HU := hide (fun w9 ho9 => hup w9 w i HH.out Q1.out (by omega) HST.out ho9)
      clear hup or hd
      go_wp2_with (with_reducible refine wpList_store_box rfl 45 _ _ rfl w.heap.size #[.int .i64 kd, .slice Al nl cl, .slice Ar nr cr, .int .i64 op, .string p, .string q, .slice A n c] rfl rfl _ x9 (by kernel_rfl) rfl (by simp [Value.oneCell']) ?_; intro w9 k9 ho9)
      refine bodyPost_tr rfl rfl rfl k9 rfl ?_
      rw [HO.out]
      exact HU.out _ ho9
    | false =>
      cases hp : isT ⟨#[40]⟩ (rd D.ts i) with
      | true =>
        have HO := hide (HP1.out.trans ((if_neg (fun hh => hl hh.1)).trans ((if_neg (by rw [hb]; decide)).trans (if_pos hp))))
        have hst := isT_step HH.out.good.ends hp
        rw [← hst.1] at HO
        have hl1 := hst.2.1
        have HST := hide (show Stands D i (rd D.ts (i + 1)) (i + 1) from ⟨rfl, by omega⟩)
        clear hst
        have gl : ((lv : Int) == 0) = false := by simp; omega
        clear HP1
        go_enter Tryd.func55, Tryd.ntmps55
        go_wp2_with fail
        generalize hW0 : w.alloc (.cells #[.int .i64 0, .slice none 0 0, .slice none 0 0, .int .i64 0, .string ⟨#[]⟩, .string ⟨#[]⟩, .slice none 0 0] 45) = W0 at *
        clear hW0
        have Q0 := hide (Went.of_below HH.out HB.out)
        have XX0 := hide X0.out
        have hq := HT.out ⟨#[33]⟩ _ Q0.out.2
        rw [hb] at hq
        simp only [Bool.false_eq_true, if_false] at hq
        refine hq.mono ?_
        rintro e w1 ⟨rfl, bq⟩
        have Q1 := hide (Q0.out.trans bq)
        have XX1 := hide (XX0.out.other bq.1 (Nat.ne_of_gt hgw))
        have hs1 := bq.1.size
        clear bq hq
        go_wp2_with fail
        have hq := HT.out ⟨#[40]⟩ _ Q1.out.2
        rw [hp] at hq
        simp only [if_true] at hq
        refine hq.mono ?_
        rintro e w2 ⟨rfl, bq⟩
        have Q2 := hide (Q1.out.trans bq)
        have XX2 := hide (XX1.out.other bq.1 (Nat.ne_of_gt hgw))
        have hs2 := bq.1.size
        clear bq hq
        go_wp2_with fail
        have hd := (inner_any D g (i + 1) ((lv : Int) - 1) _ _ Q2.out.2 (HTAB.out.went HH.out Q2.out) (fun W c tt => HCOND.out W (by omega) c tt (by omega))).mono (fun _ _ hh => PPost.up hh)
        refine hd.mono ?_
        rintro e wr ⟨code, kd, Al, nl, cl, Ar, nr, cr, op, p, q, A, n, c, rfl, or, hup⟩
        have x9 := XX2.out.other or (Nat.ne_of_gt hgw)
        have HU := hide (fun w9 ho9 => hup w9 w i HH.out Q2.out (by omega) HST.out ho9)
        clear hup or hd
        go_wp2_with (with_reducible refine wpList_store_box rfl 45 _ _ rfl w.heap.size #[.int .i64 kd, .slice Al nl cl, .slice Ar nr cr, .int .i64 op, .string p, .string q, .slice A n c] rfl rfl _ x9 (by kernel_rfl) rfl (by simp [Value.oneCell']) ?_; intro w9 k9 ho9)
        refine bodyPost_tr rfl rfl rfl k9 rfl ?_
        rw [HO.out]
        exact HU.out _ ho9
      | false =>
        cases ht : isT ⟨#[116, 114, 117, 101]⟩ (rd D.ts i) with
        | true =>
          have hno : ¬ (lv = 0 ∧ (isT ⟨#[33]⟩ (rd D.ts i) = true ∨ isT ⟨#[40]⟩ (rd D.ts i) = true)) := fun hh => by rw [hb, hp] at hh; simp at hh
          have HO := hide (HP1.out.trans ((if_neg hno).trans ((if_neg (by rw [hb]; decide)).trans ((if_neg (by rw [hp]; decide)).trans (if_pos ht)))))
          clear hno
          have hst := isT_step HH.out.good.ends ht
          rw [← hst.1] at HO
          have hl1 := hst.2.1
          have HST := hide (show Stands D i (rd D.ts (i + 1)) (i + 1) from ⟨rfl, by omega⟩)
          clear hst
          have gl : ((lv : Int) == 0) = false := by simp; omega
          clear HP1
          go_enter Tryd.func55, Tryd.ntmps55
          go_wp2_with fail
          generalize hW0 : w.alloc (.cells #[.int .i64 0, .slice none 0 0, .slice none 0 0, .int .i64 0, .string ⟨#[]⟩, .string ⟨#[]⟩, .slice none 0 0] 45) = W0 at *
          clear hW0
          have Q0 := hide (Went.of_below HH.out HB.out)
          have XX0 := hide X0.out
          have hq := HT.out ⟨#[33]⟩ _ Q0.out.2
          rw [hb] at hq
          simp only [Bool.false_eq_true, if_false] at hq
          refine hq.mono ?_
          rintro e w1 ⟨rfl, bq⟩
          have Q1 := hide (Q0.out.trans bq)
          have XX1 := hide (XX0.out.other bq.1 (Nat.ne_of_gt hgw))
          have hs1 := bq.1.size
          clear bq hq
          go_wp2_with fail
          have hq := HT.out ⟨#[40]⟩ _ Q1.out.2
          rw [hp] at hq
          simp only [Bool.false_eq_true, if_false] at hq
          refine hq.mono ?_
          rintro e w2 ⟨rfl, bq⟩
          have Q2 := hide (Q1.out.trans bq)
          have XX2 := hide (XX1.out.other bq.1 (Nat.ne_of_gt hgw))
          have hs2 := bq.1.size
          clear bq hq
          go_wp2_with fail
          have hq := HT.out ⟨#[116, 114, 117, 101]⟩ _ Q2.out.2
          rw [ht] at hq
          simp only [if_true] at hq
          refine hq.mono ?_
          rintro e w3 ⟨rfl, bq⟩
          have Q3 := hide (Q2.out.trans bq)
          have XX3 := hide (XX2.out.other bq.1 (Nat.ne_of_gt hgw))
          have hs3 := bq.1.size
          clear bq hq
          have x9 := XX3.out
          go_wp2_with (with_reducible refine wpList_store_box rfl 45 _ _ rfl w.heap.size #[.int .i64 0, .slice none 0 0, .slice none 0 0, .int .i64 0, .string ⟨#[]⟩, .string ⟨#[]⟩, .slice none 0 0] rfl rfl _ x9 (by kernel_rfl) rfl (by simp [Value.oneCell']) ?_; intro w9 k9 ho9)
          refine bodyPost_tr rfl rfl rfl k9 rfl ?_
          exact PPost.ok (vs := #[.int .i64 0, .slice none 0 0, .slice none 0 0, .int .i64 0, .string ⟨#[]⟩, .string ⟨#[]⟩, .slice none 0 0]) HO.out (TIn.leaf _ _ 0) HST.out (Went.fresh HH.out Q3.out ho9 (Nat.le_refl _))
        | false =>
          cases hf : isT ⟨#[102, 97, 108, 115, 101]⟩ (rd D.ts i) with
          | true =>
            have hno : ¬ (lv = 0 ∧ (isT ⟨#[33]⟩ (rd D.ts i) = true ∨ isT ⟨#[40]⟩ (rd D.ts i) = true)) := fun hh => by rw [hb, hp] at hh; simp at hh
            have HO := hide (HP1.out.trans ((if_neg hno).trans ((if_neg (by rw [hb]; decide)).trans ((if_neg (by rw [hp]; decide)).trans ((if_neg (by rw [ht]; decide)).trans (if_pos hf))))))
            clear hno
            have hst := isT_step HH.out.good.ends hf
            rw [← hst.1] at HO
            have hl1 := hst.2.1
            have HST := hide (show Stands D i (rd D.ts (i + 1)) (i + 1) from ⟨rfl, by omega⟩)
            clear hst
            have gl : ((lv : Int) == 0) = false := by simp; omega
            clear HP1
            go_enter Tryd.func55, Tryd.ntmps55
            go_wp2_with fail
            generalize hW0 : w.alloc (.cells #[.int .i64 0, .slice none 0 0, .slice none 0 0, .int .i64 0, .string ⟨#[]⟩, .string ⟨#[]⟩, .slice none 0 0] 45) = W0 at *
            clear hW0
            have Q0 := hide (Went.of_below HH.out HB.out)
            have XX0 := hide X0.out
            have hq := HT.out ⟨#[33]⟩ _ Q0.out.2
            rw [hb] at hq
            simp only [Bool.false_eq_true, if_false] at hq
            refine hq.mono ?_
            rintro e w1 ⟨rfl, bq⟩
            have Q1 := hide (Q0.out.trans bq)
            have XX1 := hide (XX0.out.other bq.1 (Nat.ne_of_gt hgw))
            have hs1 := bq.1.size
            clear bq hq
            go_wp2_with fail
            have hq := HT.out ⟨#[40]⟩ _ Q1.out.2
            rw [hp] at hq
            simp only [Bool.false_eq_true, if_false] at hq
            refine hq.mono ?_
            rintro e w2 ⟨rfl, bq⟩
            have Q2 := hide (Q1.out.trans bq)
            have XX2 := hide (XX1.out.other bq.1 (Nat.ne_of_gt hgw))
            have hs2 := bq.1.size
            clear bq hq
            go_wp2_with fail
            have hq := HT.out ⟨#[116, 114, 117, 101]⟩ _ Q2.out.2
            rw [ht] at hq
            simp only [Bool.false_eq_true, if_false] at hq
            refine hq.mono ?_
            rintro e w3 ⟨rfl, bq⟩
            have Q3 := hide (Q2.out.trans bq)
            have XX3 := hide (XX2.out.other bq.1 (Nat.ne_of_gt hgw))
            have hs3 := bq.1.size
            clear bq hq
            go_wp2_with fail
            have hq := HT.out ⟨#[102, 97, 108, 115, 101]⟩ _ Q3.out.2
            rw [hf] at hq
            simp only [if_true] at hq
            refine hq.mono ?_
            rintro e w4 ⟨rfl, bq⟩
            have Q4 := hide (Q3.out.trans bq)
            have XX4 := hide (XX3.out.other bq.1 (Nat.ne_of_gt hgw))
            have hs4 := bq.1.size
            clear bq hq
            have x9 := XX4.out
            go_wp2_with (with_reducible refine wpList_store_box rfl 45 _ _ rfl w.heap.size #[.int .i64 1, .slice none 0 0, .slice none 0 0, .int .i64 0, .string ⟨#[]⟩, .string ⟨#[]⟩, .slice none 0 0] rfl rfl _ x9 (by kernel_rfl) rfl (by simp [Value.oneCell']) ?_; intro w9 k9 ho9)
            refine bodyPost_tr rfl rfl rfl k9 rfl ?_
            exact PPost.ok (vs := #[.int .i64 1, .slice none 0 0, .slice none 0 0, .int .i64 0, .string ⟨#[]⟩, .string ⟨#[]⟩, .slice none 0 0]) HO.out (TIn.leaf _ _ 1) HST.out (Went.fresh HH.out Q4.out ho9 (Nat.le_refl _))
          | false =>
            have hno : ¬ (lv = 0 ∧ (isT ⟨#[33]⟩ (rd D.ts i) = true ∨ isT ⟨#[40]⟩ (rd D.ts i) = true)) := fun hh => by rw [hb, hp] at hh; simp at hh
            have HO := hide (HP1.out.trans ((if_neg hno).trans ((if_neg (by rw [hb]; decide)).trans ((if_neg (by rw [hp]; decide)).trans ((if_neg (by rw [ht]; decide)).trans (if_neg (by rw [hf]; decide)))))))
            clear hno
            have gl : ((lv : Int) == 0) = false := by simp; omega
            clear HP1
            go_enter Tryd.func55, Tryd.ntmps55
            go_wp2_with fail
            generalize hW0 : w.alloc (.cells #[.int .i64 0, .slice none 0 0, .slice none 0 0, .int .i64 0, .string ⟨#[]⟩, .string ⟨#[]⟩, .slice none 0 0] 45) = W0 at *
            clear hW0
            have Q0 := hide (Went.of_below HH.out HB.out)
            have XX0 := hide X0.out
            have hq := HT.out ⟨#[33]⟩ _ Q0.out.2
            rw [hb] at hq
            simp only [Bool.false_eq_true, if_false] at hq
            refine hq.mono ?_
            rintro e w1 ⟨rfl, bq⟩
            have Q1 := hide (Q0.out.trans bq)
            have XX1 := hide (XX0.out.other bq.1 (Nat.ne_of_gt hgw))
            have hs1 := bq.1.size
            clear bq hq
            go_wp2_with fail
            have hq := HT.out ⟨#[40]⟩ _ Q1.out.2
            rw [hp] at hq
            simp only [Bool.false_eq_true, if_false] at hq
            refine hq.mono ?_
            rintro e w2 ⟨rfl, bq⟩
            have Q2 := hide (Q1.out.trans bq)
            have XX2 := hide (XX1.out.other bq.1 (Nat.ne_of_gt hgw))
            have hs2 := bq.1.size
            clear bq hq
            go_wp2_with fail
            have hq := HT.out ⟨#[116, 114, 117, 101]⟩ _ Q2.out.2
            rw [ht] at hq
            simp only [Bool.false_eq_true, if_false] at hq
            refine hq.mono ?_
            rintro e w3 ⟨rfl, bq⟩
            have Q3 := hide (Q2.out.trans bq)
            have XX3 := hide (XX2.out.other bq.1 (Nat.ne_of_gt hgw))
            have hs3 := bq.1.size
            clear bq hq
            go_wp2_with fail
            have hq := HT.out ⟨#[102, 97, 108, 115, 101]⟩ _ Q3.out.2
            rw [hf] at hq
            simp only [Bool.false_eq_true, if_false] at hq
            refine hq.mono ?_
            rintro e w4 ⟨rfl, bq⟩
            have Q4 := hide (Q3.out.trans bq)
            have XX4 := hide (XX3.out.other bq.1 (Nat.ne_of_gt hgw))
            have hs4 := bq.1.size
            clear bq hq
            go_wp2_with fail
            have hd := (compare_any D g i _ Q4.out.2 (HTAB.out.went HH.out Q4.out)).mono (fun _ _ hh => PPost.up hh)
            refine hd.mono ?_
            rintro e wr ⟨code, kd, Al, nl, cl, Ar, nr, cr, op, p, q, A, n, c, rfl, or, hup⟩
            have x9 := XX4.out.other or (Nat.ne_of_gt hgw)
            have HU := hide (fun w9 ho9 => hup w9 w i HH.out Q4.out (by omega) (Stands.refl D i) ho9)
            clear hup or hd
            go_wp2_with (with_reducible refine wpList_store_box rfl 45 _ _ rfl w.heap.size #[.int .i64 kd, .slice Al nl cl, .slice Ar nr cr, .int .i64 op, .string p, .string q, .slice A n c] rfl rfl _ x9 (by kernel_rfl) rfl (by simp [Value.oneCell']) ?_; intro w9 k9 ho9)
            refine bodyPost_tr rfl rfl rfl k9 rfl ?_
            rw [HO.out]
            exact HU.out _ ho9
set_option maxRecDepth 100000 in
set_option maxHeartbeats 8000000 in
theorem both_any (D : CD) (g i lv : Nat) (w : World) (h : Cur D g w i) (htab : OpTab w) (hlv : lv ≤ 60)
    (hpart : ∀ W j, Cur D g W j → OpTab W → (rd D.ts j).length ≤ (rd D.ts i).length → Calls Tryd.prog 55 #[.pointer (some ⟨g, 0, none⟩), .int .i64 (lv : Int)] W (PPost D g (parsF D.kn .one lv (rd D.ts j)) j W)) :
    Calls Tryd.prog 48 #[.pointer (some ⟨g, 0, none⟩), .int .i64 (lv : Int)] w (PPost D g (parsF D.kn .both lv (rd D.ts i)) i w) := by
  have HH := hide h
  have HB := hide (bl_alloc w (.cells #[.int .i64 0, .slice none 0 0, .slice none 0 0, .int .i64 0, .string ⟨#[]⟩, .string ⟨#[]⟩, .slice none 0 0] 45))
  have hsz : (w.alloc (.cells #[.int .i64 0, .slice none 0 0, .slice none 0 0, .int .i64 0, .string ⟨#[]⟩, .string ⟨#[]⟩, .slice none 0 0] 45)).heap.size = w.heap.size + 1 := World.size_alloc _ _
  have X0 := hide (Box.new 45 w #[.int .i64 0, .slice none 0 0, .slice none 0 0, .int .i64 0, .string ⟨#[]⟩, .string ⟨#[]⟩, .slice none 0 0])
  have HTB := hide (htab.below HB.out)
  have hgw := h.lt
  have HC0 := hide (h.below HB.out)
  have hc := (chain_any D g i lv _ 55 4 ⟨#[38]⟩ .one .bothGo .both HC0.out HTB.out hlv (fun args W => call_enter Tryd.func55 (by kernel_rfl) (by kernel_rfl) args W) hpart (fun t r => parsF_bothGo _ _ _ _) (fun t k => rfl)).mono (fun _ _ hh => PPost.up hh)
  rw [parsF_both]
  clear h htab hpart
  go_enter Tryd.func48, Tryd.ntmps48
  go_wp2_with fail
  generalize hW0 : w.alloc (.cells #[.int .i64 0, .slice none 0 0, .slice none 0 0, .int .i64 0, .string ⟨#[]⟩, .string ⟨#[]⟩, .slice none 0 0] 45) = W0 at *
  clear hW0
  refine hc.mono ?_
  rintro e w2 ⟨code, kd, Al, nl, cl, Ar, nr, cr, op, p, q, A, n, c, rfl, q2, hup⟩
  have x9 := X0.out.other q2 (Nat.ne_of_gt hgw)
  have HU := hide (fun w9 ho9 => hup w9 w i HH.out (Went.of_below HH.out HB.out) (by omega) (Stands.refl D i) ho9)
  clear hc q2 hup
  go_wp2_with (with_reducible refine wpList_store_box rfl 45 _ _ rfl w.heap.size #[.int .i64 kd, .slice Al nl cl, .slice Ar nr cr, .int .i64 op, .string p, .string q, .slice A n c] rfl rfl _ x9 (by kernel_rfl) rfl (by simp [Value.oneCell']) ?_; intro w9 k9 ho9)
  refine bodyPost_tr rfl rfl rfl k9 rfl ?_
  exact HU.out _ ho9
set_option maxRecDepth 100000 in
set_option maxHeartbeats 8000000 in
theorem cond_any (D : CD) (g i lv : Nat) (w : World) (h : Cur D g w i) (htab : OpTab w) (hlv : lv ≤ 60)
    (hpart : ∀ W j, Cur D g W j → OpTab W → (rd D.ts j).length ≤ (rd D.ts i).length → Calls Tryd.prog 48 #[.pointer (some ⟨g, 0, none⟩), .int .i64 (lv : Int)] W (PPost D g (parsF D.kn .both lv (rd D.ts j)) j W)) :
    Calls Tryd.prog 31 #[.pointer (some ⟨g, 0, none⟩), .int .i64 (lv : Int)] w (PPost D g (parsF D.kn .cond lv (rd D.ts i)) i w) := by
  have HH := hide h
  have HB := hide (bl_alloc w (.cells #[.int .i64 0, .slice none 0 0, .slice none 0 0, .int .i64 0, .string ⟨#[]⟩, .string ⟨#[]⟩, .slice none 0 0] 45))
  have hsz : (w.alloc (.cells #[.int .i64 0, .slice none 0 0, .slice none 0 0, .int .i64 0, .string ⟨#[]⟩, .string ⟨#[]⟩, .slice none 0 0] 45)).heap.size = w.heap.size + 1 := World.size_alloc _ _
  have X0 := hide (Box.new 45 w #[.int .i64 0, .slice none 0 0, .slice none 0 0, .int .i64 0, .string ⟨#[]⟩, .string ⟨#[]⟩, .slice none 0 0])
  have HTB := hide (htab.below HB.out)
  have hgw := h.lt
  have HC0 := hide (h.below HB.out)
  have hc := (chain_any D g i lv _ 48 5 ⟨#[124]⟩ .both .condGo .any HC0.out HTB.out hlv (fun args W => call_enter Tryd.func48 (by kernel_rfl) (by kernel_rfl) args W) hpart (fun t r => parsF_condGo _ _ _ _) (fun t k => rfl)).mono (fun _ _ hh => PPost.up hh)
  rw [parsF_cond]
  clear h htab hpart
  go_enter Tryd.func31, Tryd.ntmps31
  go_wp2_with fail
  generalize hW0 : w.alloc (.cells #[.int .i64 0, .slice none 0 0, .slice none 0 0, .int .i64 0, .string ⟨#[]⟩, .string ⟨#[]⟩, .slice none 0 0] 45) = W0 at *
  clear hW0
  refine hc.mono ?_
  rintro e w2 ⟨code, kd, Al, nl, cl, Ar, nr, cr, op, p, q, A, n, c, rfl, q2, hup⟩
  have x9 := X0.out.other q2 (Nat.ne_of_gt hgw)
  have HU := hide (fun w9 ho9 => hup w9 w i HH.out (Went.of_below HH.out HB.out) (by omega) (Stands.refl D i) ho9)
  clear hc q2 hup
  go_wp2_with (with_reducible refine wpList_store_box rfl 45 _ _ rfl w.heap.size #[.int .i64 kd, .slice Al nl cl, .slice Ar nr cr, .int .i64 op, .string p, .string q, .slice A n c] rfl rfl _ x9 (by kernel_rfl) rfl (by simp [Value.oneCell']) ?_; intro w9 k9 ho9)
  refine bodyPost_tr rfl rfl rfl k9 rfl ?_
  exact HU.out _ ho9
/-- The parsers of trees, at every cursor. -/
theorem parsers (D : CD) (g : Nat) (m : Nat) : ∀ (i lv : Nat), lv ≤ 60 →
    (3 * (rd D.ts i).length ≤ m → ∀ W, Cur D g W i → OpTab W → Calls Tryd.prog 55 #[.pointer (some ⟨g, 0, none⟩), .int .i64 (lv : Int)] W (PPost D g (parsF D.kn .one lv (rd D.ts i)) i W)) ∧
    (3 * (rd D.ts i).length + 1 ≤ m → ∀ W, Cur D g W i → OpTab W → Calls Tryd.prog 48 #[.pointer (some ⟨g, 0, none⟩), .int .i64 (lv : Int)] W (PPost D g (parsF D.kn .both lv (rd D.ts i)) i W)) ∧
    (3 * (rd D.ts i).length + 2 ≤ m → ∀ W, Cur D g W i → OpTab W → Calls Tryd.prog 31 #[.pointer (some ⟨g, 0, none⟩), .int .i64 (lv : Int)] W (PPost D g (parsF D.kn .cond lv (rd D.ts i)) i W)) := by
  induction m with
  | zero => intro i lv _; have := rd_pos D.ts i; exact ⟨fun h => by omega, fun h => by omega, fun h => by omega⟩
  | succ m ih =>
    intro i lv hlv
    refine ⟨fun hl W hc ht => ?_, fun hl W hc ht => ?_, fun hl W hc ht => ?_⟩
    · refine one_any D g i lv W hc ht hlv (fun W2 h1 c2 t2 hl2 => ?_) (fun W2 h1 c2 t2 hl2 => ?_)
      · have e : (lv : Int) - 1 = ((lv - 1 : Nat) : Int) := by omega
        rw [e]
        exact (ih (i + 1) (lv - 1) (by omega)).1 (by omega) W2 c2 t2
      · have e : (lv : Int) - 1 = ((lv - 1 : Nat) : Int) := by omega
        rw [e]
        exact (ih (i + 1) (lv - 1) (by omega)).2.2 (by omega) W2 c2 t2
    · exact both_any D g i lv W hc ht hlv (fun W2 j c2 t2 hl2 => (ih j lv hlv).1 (by omega) W2 c2 t2)
    · exact cond_any D g i lv W hc ht hlv (fun W2 j c2 t2 hl2 => (ih j lv hlv).2.1 (by omega) W2 c2 t2)
set_option maxRecDepth 100000 in
set_option maxHeartbeats 8000000 in
theorem Cond_any (D : CD) (g i : Nat) (w : World) (h : Cur D g w i) (htab : OpTab w) :
    Calls Tryd.prog 9 #[.pointer (some ⟨g, 0, none⟩)] w (PPost D g (parsF D.kn .cond 60 (rd D.ts i)) i w) := by
  have HH := hide h
  have HB := hide (bl_alloc w (.cells #[.int .i64 0, .slice none 0 0, .slice none 0 0, .int .i64 0, .string ⟨#[]⟩, .string ⟨#[]⟩, .slice none 0 0] 45))
  have hsz : (w.alloc (.cells #[.int .i64 0, .slice none 0 0, .slice none 0 0, .int .i64 0, .string ⟨#[]⟩, .string ⟨#[]⟩, .slice none 0 0] 45)).heap.size = w.heap.size + 1 := World.size_alloc _ _
  have X0 := hide (Box.new 45 w #[.int .i64 0, .slice none 0 0, .slice none 0 0, .int .i64 0, .string ⟨#[]⟩, .string ⟨#[]⟩, .slice none 0 0])
  have HTB := hide (htab.below HB.out)
  have hgw := h.lt
  have HC0 := hide (h.below HB.out)
  have hc := ((parsers D g _ i 60 (Nat.le_refl _)).2.2 (Nat.le_refl _) _ HC0.out HTB.out).mono (fun _ _ hh => PPost.up hh)
  clear h htab
  go_enter Tryd.func9, Tryd.ntmps9
  go_wp2_with fail
  generalize hW0 : w.alloc (.cells #[.int .i64 0, .slice none 0 0, .slice none 0 0, .int .i64 0, .string ⟨#[]⟩, .string ⟨#[]⟩, .slice none 0 0] 45) = W0 at *
  clear hW0
  refine hc.mono ?_
  rintro e w2 ⟨code, kd, Al, nl, cl, Ar, nr, cr, op, p, q, A, n, c, rfl, q2, hup⟩
  have x9 := X0.out.other q2 (Nat.ne_of_gt hgw)
  have HU := hide (fun w9 ho9 => hup w9 w i HH.out (Went.of_below HH.out HB.out) (by omega) (Stands.refl D i) ho9)
  clear hc q2 hup
  go_wp2_with (with_reducible refine wpList_store_box rfl 45 _ _ rfl w.heap.size #[.int .i64 kd, .slice Al nl cl, .slice Ar nr cr, .int .i64 op, .string p, .string q, .slice A n c] rfl rfl _ x9 (by kernel_rfl) rfl (by simp [Value.oneCell']) ?_; intro w9 k9 ho9)
  refine bodyPost_tr rfl rfl rfl k9 rfl ?_
  exact HU.out _ ho9
end Go.Proofs.YtneiajkcikcnnaaDoor
