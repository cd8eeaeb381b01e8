/- Texts of one seat, put together: WordLp. -/
import Derived.Test.YtljocjjdfgpbaaaB20
set_option linter.unusedVariables false
/- plumblinelaw15.plain. -/
namespace Go.Proofs.Ytljocjjdfgpbaaa
open Go.RowKit
open Wo

theorem few3 (a : Pr) (h : a.wf) : few (.una 3 a) = decide ((tree a).k = 2) := by
  cases a with
  | tt => rfl
  | ff => rfl
  | cmp p => rfl
  | una k b => rcases h.1 with rfl | rfl | rfl | rfl <;> rfl
  | bin k b c => rcases h.1 with rfl | rfl | rfl | rfl | rfl <;> rfl
set_option maxRecDepth 100000 in
set_option maxHeartbeats 16000000 in
theorem lplain_any (Z : Nat) : ∀ (S : Nat → Prop) (f : Pr) (k p : Int) (A : Option Addr) (n c : Nat) (w0 : World), f.size ≤ Z → f.wf → DIn S w0 (tree f) (c3 k p A n c) →
    Calls Try.prog 22 #[.agg #[.int .i64 k, .int .i64 p, .slice A n c]] w0 (fun e w' => e = .returned (.bool (few f)) ∧ Below w0.heap.size w0 w') := by
  induction Z with
  | zero => intro S f k p A n c w0 hz; have := f.size_pos; omega
  | succ Z ih =>
    intro S f k p A n c w0 hz hwf hd
    obtain ⟨x1, hb, hbz⟩ := bstart1 24 w0 #[.int .i64 k, .int .i64 p, .slice A n c]
    have cc0 := x1.cell 0 _ rfl
    have cc2 := x1.cell 2 _ rfl
    obtain ⟨hk, -, hks, -, -, -⟩ := (hd.keep (Keep.of_below hb)).parts
    have HB := hide hb
    clear x1
    obtain ⟨W1, hW1⟩ : ∃ W1, W1 = w0.alloc (.cells #[.int .i64 k, .int .i64 p, .slice A n c] 24) := ⟨_, rfl⟩
    rw [← hW1] at cc0 cc2 hks HB hbz
    cases f with
    | tt =>
      obtain rfl : k = 0 := hk
      obtain rfl : n = 0 := hks.1.symm
      clear hd hbz hb hks hz hwf ih
      subst hW1
      go_enter Try.func22, Try.ntmps22
      go_wp2_with fail
      go_ret
      exact ⟨rfl, HB.out⟩
    | ff =>
      obtain rfl : k = 1 := hk
      obtain rfl : n = 0 := hks.1.symm
      clear hd hbz hb hks hz hwf ih
      subst hW1
      go_enter Try.func22, Try.ntmps22
      go_wp2_with fail
      go_ret
      exact ⟨rfl, HB.out⟩
    | cmp q =>
      obtain rfl : k = 2 := hk
      obtain rfl : n = 0 := hks.1.symm
      clear hd hbz hb hks hz hwf ih
      subst hW1
      go_enter Try.func22, Try.ntmps22
      go_wp2_with fail
      go_ret
      exact ⟨rfl, HB.out⟩
    | una u a =>
      rcases hwf.1 with rfl | rfl | rfl | rfl
      · obtain rfl : k = 3 := hk
        obtain rfl : n = 1 := hks.1.symm
        obtain ⟨be, oe, tk, k9, p9, A9, n9, c9, rfl, hlt, hkid, hdk, e0, e1, e2⟩ := hks.at_ (j := 0) (by omega)
        obtain rfl : tree a = tk := by simpa [tree, LT.kids] using hkid
        simp only [Nat.zero_mul, Nat.add_zero] at e0 e1 e2
        have hf3 := few3 a hwf.2
        rw [← show k9 = (tree a).k from hdk.parts.1] at hf3
        clear hd hbz hb hks hz hwf ih hkid hdk
        by_cases h2 : k9 = 2
        · subst h2
          rw [hf3]
          clear hf3
          subst hW1
          go_enter Try.func22, Try.ntmps22
          go_wp2_with fail
          go_ret
          exact ⟨rfl, HB.out⟩
        · have g2 : (k9 == 2) = false := by rw [beq_eq_false_iff_ne]; exact h2
          rw [hf3, decide_eq_false h2]
          clear hf3
          subst hW1
          go_enter Try.func22, Try.ntmps22
          go_wp2_with fail
          go_ret
          exact ⟨rfl, HB.out⟩
      · obtain rfl : k = 8 := hk
        obtain rfl : n = 1 := hks.1.symm
        obtain ⟨be, oe, tk, k9, p9, A9, n9, c9, rfl, hlt, hkid, hdk, e0, e1, e2⟩ := hks.at_ (j := 0) (by omega)
        obtain rfl : tree a = tk := by simpa [tree, LT.kids] using hkid
        simp only [Nat.zero_mul, Nat.add_zero] at e0 e1 e2
        have HIH := hide (fun W (h : Below W1.heap.size W1 W) => ih S a k9 p9 A9 n9 c9 W (by simp [Pr.size] at hz; omega) hwf.2 (hdk.keep (Keep.of_below h)))
        clear hd hbz hb hks hz hwf ih hkid hdk
        subst hW1
        go_enter Try.func22, Try.ntmps22
        go_wp2_with fail
        refine (HIH.out _ (Below.refl _ _)).mono ?_
        rintro e w2 ⟨rfl, b2⟩
        have HB2 := hide (HB.out.next b2)
        clear b2
        go_wp2_with fail
        go_ret
        exact ⟨rfl, HB2.out⟩
      · obtain rfl : k = 9 := hk
        obtain rfl : n = 1 := hks.1.symm
        clear hd hbz hb hks hz hwf ih
        subst hW1
        go_enter Try.func22, Try.ntmps22
        go_wp2_with fail
        go_ret
        exact ⟨rfl, HB.out⟩
      · obtain rfl : k = 10 := hk
        obtain rfl : n = 1 := hks.1.symm
        clear hd hbz hb hks hz hwf ih
        subst hW1
        go_enter Try.func22, Try.ntmps22
        go_wp2_with fail
        go_ret
        exact ⟨rfl, HB.out⟩
    | bin u a b =>
      rcases hwf.1 with rfl | rfl | rfl | rfl | rfl
      · obtain rfl : k = 4 := hk
        obtain rfl : n = 2 := hks.1.symm
        obtain ⟨be, oe, tk, k9, p9, A9, n9, c9, hA5, hlt, hkid, hdk, e0, e1, e2⟩ := hks.at_ (j := 0) (by omega)
        obtain rfl : tree a = tk := by simpa [tree, LT.kids] using hkid
        simp only [Nat.zero_mul, Nat.add_zero] at e0 e1 e2
        obtain ⟨be2, oe2, tk2, k8, p8, A8, n8, c8, hA6, hlt2, hkid2, hdk2, d0, d1, d2⟩ := hks.at_ (j := 1) (by omega)
        rw [hA5] at hA6
        injection hA6 with hA6
        injection hA6 with q1 q2
        subst q1 q2 hA5
        obtain rfl : tree b = tk2 := by simpa [tree, LT.kids] using hkid2
        simp only [Nat.one_mul] at d0 d1 d2
        have HIH := hide (fun W (h : Below W1.heap.size W1 W) => ih S a k9 p9 A9 n9 c9 W (by simp [Pr.size] at hz; omega) hwf.2.1 (hdk.keep (Keep.of_below h)))
        have HIK := hide (fun W (h : Below W1.heap.size W1 W) => ih S b k8 p8 A8 n8 c8 W (by simp [Pr.size] at hz; omega) hwf.2.2 (hdk2.keep (Keep.of_below h)))
        rw [show few (Pr.bin 4 a b) = (few a && few b) from rfl]
        have HCC := hide (fun W (h : Below W1.heap.size W1 W) => (⟨(World.cell?_of_block (w := W1) (a := ⟨w0.heap.size, 2, none⟩) (h.block w0.heap.size (by omega))).trans cc2, (World.cell?_of_block (w := W1) (a := ⟨be, oe + 3, none⟩) (h.block _ hlt)).trans d0, (World.cell?_of_block (w := W1) (a := ⟨be, oe + 3 + 1, none⟩) (h.block _ hlt)).trans d1, (World.cell?_of_block (w := W1) (a := ⟨be, oe + 3 + 2, none⟩) (h.block _ hlt)).trans d2⟩ : W.cell? ⟨w0.heap.size, 2, none⟩ = some (.slice (some ⟨be, oe, none⟩) 2 c) ∧ W.cell? ⟨be, oe + 3, none⟩ = some (.int .i64 k8) ∧ W.cell? ⟨be, oe + 3 + 1, none⟩ = some (.int .i64 p8) ∧ W.cell? ⟨be, oe + 3 + 2, none⟩ = some (.slice A8 n8 c8)))
        generalize few a = fa at *
        generalize few b = fb at *
        clear hd hbz hb hks hz hwf ih hkid hdk hkid2 hdk2
        subst hW1
        go_enter Try.func22, Try.ntmps22
        go_wp2_with fail
        refine (HIH.out _ (Below.refl _ _)).mono ?_
        rintro e w2 ⟨rfl, b2⟩
        have HB2 := hide (HB.out.next b2)
        obtain ⟨cc2, d0, d1, d2⟩ := HCC.out _ b2
        have B2 := hide b2
        clear b2 e0 e1 e2
        cases fa
        · go_wp2_with fail
          go_ret
          exact ⟨rfl, HB2.out⟩
        · go_wp2_with fail
          refine (HIK.out _ B2.out).mono ?_
          rintro e w3 ⟨rfl, b3⟩
          have HB3 := hide (HB2.out.next b3)
          clear b3
          go_wp2_with fail
          go_ret
          exact ⟨by simp, HB3.out⟩
      · obtain rfl : k = 5 := hk
        obtain rfl : n = 2 := hks.1.symm
        obtain ⟨be, oe, tk, k9, p9, A9, n9, c9, hA5, hlt, hkid, hdk, e0, e1, e2⟩ := hks.at_ (j := 0) (by omega)
        obtain rfl : tree a = tk := by simpa [tree, LT.kids] using hkid
        simp only [Nat.zero_mul, Nat.add_zero] at e0 e1 e2
        obtain ⟨be2, oe2, tk2, k8, p8, A8, n8, c8, hA6, hlt2, hkid2, hdk2, d0, d1, d2⟩ := hks.at_ (j := 1) (by omega)
        rw [hA5] at hA6
        injection hA6 with hA6
        injection hA6 with q1 q2
        subst q1 q2 hA5
        obtain rfl : tree b = tk2 := by simpa [tree, LT.kids] using hkid2
        simp only [Nat.one_mul] at d0 d1 d2
        have HIH := hide (fun W (h : Below W1.heap.size W1 W) => ih S a k9 p9 A9 n9 c9 W (by simp [Pr.size] at hz; omega) hwf.2.1 (hdk.keep (Keep.of_below h)))
        have HIK := hide (fun W (h : Below W1.heap.size W1 W) => ih S b k8 p8 A8 n8 c8 W (by simp [Pr.size] at hz; omega) hwf.2.2 (hdk2.keep (Keep.of_below h)))
        rw [show few (Pr.bin 5 a b) = (few a && few b) from rfl]
        have HCC := hide (fun W (h : Below W1.heap.size W1 W) => (⟨(World.cell?_of_block (w := W1) (a := ⟨w0.heap.size, 2, none⟩) (h.block w0.heap.size (by omega))).trans cc2, (World.cell?_of_block (w := W1) (a := ⟨be, oe + 3, none⟩) (h.block _ hlt)).trans d0, (World.cell?_of_block (w := W1) (a := ⟨be, oe + 3 + 1, none⟩) (h.block _ hlt)).trans d1, (World.cell?_of_block (w := W1) (a := ⟨be, oe + 3 + 2, none⟩) (h.block _ hlt)).trans d2⟩ : W.cell? ⟨w0.heap.size, 2, none⟩ = some (.slice (some ⟨be, oe, none⟩) 2 c) ∧ W.cell? ⟨be, oe + 3, none⟩ = some (.int .i64 k8) ∧ W.cell? ⟨be, oe + 3 + 1, none⟩ = some (.int .i64 p8) ∧ W.cell? ⟨be, oe + 3 + 2, none⟩ = some (.slice A8 n8 c8)))
        generalize few a = fa at *
        generalize few b = fb at *
        clear hd hbz hb hks hz hwf ih hkid hdk hkid2 hdk2
        subst hW1
        go_enter Try.func22, Try.ntmps22
        go_wp2_with fail
        refine (HIH.out _ (Below.refl _ _)).mono ?_
        rintro e w2 ⟨rfl, b2⟩
        have HB2 := hide (HB.out.next b2)
        obtain ⟨cc2, d0, d1, d2⟩ := HCC.out _ b2
        have B2 := hide b2
        clear b2 e0 e1 e2
        cases fa
        · go_wp2_with fail
          go_ret
          exact ⟨rfl, HB2.out⟩
        · go_wp2_with fail
          refine (HIK.out _ B2.out).mono ?_
          rintro e w3 ⟨rfl, b3⟩
          have HB3 := hide (HB2.out.next b3)
          clear b3
          go_wp2_with fail
          go_ret
          exact ⟨by simp, HB3.out⟩
      · obtain rfl : k = 7 := hk
        obtain rfl : n = 2 := hks.1.symm
        clear hd hbz hb hks hz hwf ih
        subst hW1
        go_enter Try.func22, Try.ntmps22
        go_wp2_with fail
        go_ret
        exact ⟨rfl, HB.out⟩
      · obtain rfl : k = 11 := hk
        obtain rfl : n = 2 := hks.1.symm
        obtain ⟨be, oe, tk, k9, p9, A9, n9, c9, hA5, hlt, hkid, hdk, e0, e1, e2⟩ := hks.at_ (j := 0) (by omega)
        obtain rfl : tree a = tk := by simpa [tree, LT.kids] using hkid
        simp only [Nat.zero_mul, Nat.add_zero] at e0 e1 e2
        obtain ⟨be2, oe2, tk2, k8, p8, A8, n8, c8, hA6, hlt2, hkid2, hdk2, d0, d1, d2⟩ := hks.at_ (j := 1) (by omega)
        rw [hA5] at hA6
        injection hA6 with hA6
        injection hA6 with q1 q2
        subst q1 q2 hA5
        obtain rfl : tree b = tk2 := by simpa [tree, LT.kids] using hkid2
        simp only [Nat.one_mul] at d0 d1 d2
        have HIH := hide (fun W (h : Below W1.heap.size W1 W) => ih S a k9 p9 A9 n9 c9 W (by simp [Pr.size] at hz; omega) hwf.2.1 (hdk.keep (Keep.of_below h)))
        have HIK := hide (fun W (h : Below W1.heap.size W1 W) => ih S b k8 p8 A8 n8 c8 W (by simp [Pr.size] at hz; omega) hwf.2.2 (hdk2.keep (Keep.of_below h)))
        rw [show few (Pr.bin 11 a b) = (few a && few b) from rfl]
        have HCC := hide (fun W (h : Below W1.heap.size W1 W) => (⟨(World.cell?_of_block (w := W1) (a := ⟨w0.heap.size, 2, none⟩) (h.block w0.heap.size (by omega))).trans cc2, (World.cell?_of_block (w := W1) (a := ⟨be, oe + 3, none⟩) (h.block _ hlt)).trans d0, (World.cell?_of_block (w := W1) (a := ⟨be, oe + 3 + 1, none⟩) (h.block _ hlt)).trans d1, (World.cell?_of_block (w := W1) (a := ⟨be, oe + 3 + 2, none⟩) (h.block _ hlt)).trans d2⟩ : W.cell? ⟨w0.heap.size, 2, none⟩ = some (.slice (some ⟨be, oe, none⟩) 2 c) ∧ W.cell? ⟨be, oe + 3, none⟩ = some (.int .i64 k8) ∧ W.cell? ⟨be, oe + 3 + 1, none⟩ = some (.int .i64 p8) ∧ W.cell? ⟨be, oe + 3 + 2, none⟩ = some (.slice A8 n8 c8)))
        generalize few a = fa at *
        generalize few b = fb at *
        clear hd hbz hb hks hz hwf ih hkid hdk hkid2 hdk2
        subst hW1
        go_enter Try.func22, Try.ntmps22
        go_wp2_with fail
        refine (HIH.out _ (Below.refl _ _)).mono ?_
        rintro e w2 ⟨rfl, b2⟩
        have HB2 := hide (HB.out.next b2)
        obtain ⟨cc2, d0, d1, d2⟩ := HCC.out _ b2
        have B2 := hide b2
        clear b2 e0 e1 e2
        cases fa
        · go_wp2_with fail
          go_ret
          exact ⟨rfl, HB2.out⟩
        · go_wp2_with fail
          refine (HIK.out _ B2.out).mono ?_
          rintro e w3 ⟨rfl, b3⟩
          have HB3 := hide (HB2.out.next b3)
          clear b3
          go_wp2_with fail
          go_ret
          exact ⟨by simp, HB3.out⟩
      · obtain rfl : k = 12 := hk
        obtain rfl : n = 2 := hks.1.symm
        obtain ⟨be, oe, tk, k9, p9, A9, n9, c9, hA5, hlt, hkid, hdk, e0, e1, e2⟩ := hks.at_ (j := 0) (by omega)
        obtain rfl : tree a = tk := by simpa [tree, LT.kids] using hkid
        simp only [Nat.zero_mul, Nat.add_zero] at e0 e1 e2
        obtain ⟨be2, oe2, tk2, k8, p8, A8, n8, c8, hA6, hlt2, hkid2, hdk2, d0, d1, d2⟩ := hks.at_ (j := 1) (by omega)
        rw [hA5] at hA6
        injection hA6 with hA6
        injection hA6 with q1 q2
        subst q1 q2 hA5
        obtain rfl : tree b = tk2 := by simpa [tree, LT.kids] using hkid2
        simp only [Nat.one_mul] at d0 d1 d2
        have HIH := hide (fun W (h : Below W1.heap.size W1 W) => ih S a k9 p9 A9 n9 c9 W (by simp [Pr.size] at hz; omega) hwf.2.1 (hdk.keep (Keep.of_below h)))
        have HIK := hide (fun W (h : Below W1.heap.size W1 W) => ih S b k8 p8 A8 n8 c8 W (by simp [Pr.size] at hz; omega) hwf.2.2 (hdk2.keep (Keep.of_below h)))
        rw [show few (Pr.bin 12 a b) = (few a && few b) from rfl]
        have HCC := hide (fun W (h : Below W1.heap.size W1 W) => (⟨(World.cell?_of_block (w := W1) (a := ⟨w0.heap.size, 2, none⟩) (h.block w0.heap.size (by omega))).trans cc2, (World.cell?_of_block (w := W1) (a := ⟨be, oe + 3, none⟩) (h.block _ hlt)).trans d0, (World.cell?_of_block (w := W1) (a := ⟨be, oe + 3 + 1, none⟩) (h.block _ hlt)).trans d1, (World.cell?_of_block (w := W1) (a := ⟨be, oe + 3 + 2, none⟩) (h.block _ hlt)).trans d2⟩ : W.cell? ⟨w0.heap.size, 2, none⟩ = some (.slice (some ⟨be, oe, none⟩) 2 c) ∧ W.cell? ⟨be, oe + 3, none⟩ = some (.int .i64 k8) ∧ W.cell? ⟨be, oe + 3 + 1, none⟩ = some (.int .i64 p8) ∧ W.cell? ⟨be, oe + 3 + 2, none⟩ = some (.slice A8 n8 c8)))
        generalize few a = fa at *
        generalize few b = fb at *
        clear hd hbz hb hks hz hwf ih hkid hdk hkid2 hdk2
        subst hW1
        go_enter Try.func22, Try.ntmps22
        go_wp2_with fail
        refine (HIH.out _ (Below.refl _ _)).mono ?_
        rintro e w2 ⟨rfl, b2⟩
        have HB2 := hide (HB.out.next b2)
        obtain ⟨cc2, d0, d1, d2⟩ := HCC.out _ b2
        have B2 := hide b2
        clear b2 e0 e1 e2
        cases fa
        · go_wp2_with fail
          go_ret
          exact ⟨rfl, HB2.out⟩
        · go_wp2_with fail
          refine (HIK.out _ B2.out).mono ?_
          rintro e w3 ⟨rfl, b3⟩
          have HB3 := hide (HB2.out.next b3)
          clear b3
          go_wp2_with fail
          go_ret
          exact ⟨by simp, HB3.out⟩
end Go.Proofs.Ytljocjjdfgpbaaa
