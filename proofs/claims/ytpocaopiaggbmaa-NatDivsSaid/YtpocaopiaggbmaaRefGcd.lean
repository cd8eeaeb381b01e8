/- plumblineref01.Gcd. -/
import Derived.Test.YtpocaopiaggbmaaRefDivB
import Derived.Test.YtpocaopiaggbmaaAlive2
namespace Go.Proofs.Ytpocaopiaggbmaa
open Go.RowKit

set_option maxHeartbeats 4000000 in
theorem rgcd_any (A B : Option Addr) (n c m d : Nat) (xs ys : List Nat) (w : World) (hx : Nums w A n xs) (hn : n ≤ 1099511626) (hy : Nums w B m ys) (hm : m ≤ 1099511626) :
    Calls Try.prog 23 #[.slice A n c, .slice B m d] w (RefPost (Nat.gcd (Limb.val xs) (Limb.val ys)) w) := by
  have hxl := hide hx.lt
  have hyl := hide hy.lt
  generalize hN : Limb.val xs = N at *
  generalize hM : Limb.val ys = M at *
  have HN := hide hN
  have HM := hide hM
  clear hN hM
  go_enter Try.func23, Try.ntmps23
  go_wp2_with fail
  refine (rtrim_any A n c xs w hx (by omega)).mono ?_
  rintro e w1 ⟨A1, n1, c1, rfl, o1, l1, m1, b1⟩
  rw [HN.out] at o1
  have ln1 : n1 ≤ n := short_canon o1 hxl.out
  go_wp2_with fail
  refine (rtrim_any B m d ys w1 (hy.below b1) (by omega)).mono ?_
  rintro e w2 ⟨A2, n2, c2, rfl, o2, l2, m2, b2⟩
  rw [HM.out] at o2
  have ln2 : n2 ≤ m := short_canon o2 hyl.out
  have t2 := b1.next b2
  have o1a := o1.below b2
  clear o1 b1 b2 hxl hyl HN HM hx hy
  go_wp2_with fail
  generalize M = k0 at *
  go_loopg [5, 6] k0 (fun k va vb wr => ∃ X P p pc Q q qc, va = .slice P p pc ∧ vb = .slice Q q qc ∧ Nums wr P p (Limb.canon X) ∧ Nums wr Q q (Limb.canon k) ∧ p ≤ pc ∧ pc ≤ 9223372036854775807 ∧ q ≤ qc ∧ qc ≤ 9223372036854775807 ∧ p ≤ 1099511626 ∧ q ≤ 1099511626 ∧ Below w.heap.size w wr ∧ Hid (Nat.gcd X k = Nat.gcd N k0))
  case atStart => exact ⟨N, A1, n1, c1, A2, n2, c2, rfl, rfl, o1a, o2, l1, m1, l2, m2, by omega, by omega, t2, rfl⟩
  case round =>
    clear o1a o2 t2 l1 m1 l2 m2 ln1 ln2
    obtain ⟨X, P, p, pc, Q, q, qc, rfl, rfl, oP, oQ, lp, mp, lq, mq, hp, hq, tr, HG⟩ := hrel
    have hql := hide oQ.len
    rcases Nat.eq_zero_or_pos q with hq0 | hq0
    · subst hq0
      have hk0 : gk = 0 := (Limb.canon_len_zero _).1 hql.out
      subst hk0
      have hgx : Hid (X = Nat.gcd N k0) := by show _ = _; rw [← HG.out, Nat.gcd_zero_right]
      go_wp2_with fail
      go_ret
      rw [hgx.out] at oP
      exact ⟨P, p, pc, rfl, oP, lp, mp, tr⟩
    · have hk : gk ≠ 0 := fun h0 => by
        have := hql.out
        rw [h0, Limb.canon_zero] at this
        simp at this
        omega
      have hml := Nat.mod_lt X (Nat.pos_of_ne_zero hk)
      have HK := hide hk
      clear hk
      go_wp2_with fail
      refine (rdiv_yes P Q p pc q qc _ _ wr oP (by omega) oQ (by omega) (by rw [Limb.val_canon]; exact HK.out)).mono ?_
      rintro e w3 ⟨A3, n3, c3, A4, n4, c4, rfl, o3, l3, m3, o4, l4, m4, b3⟩
      rw [Limb.val_canon, Limb.val_canon] at o4
      have ln4 : n4 ≤ q := by rw [← o4.len, ← hql.out]; exact Limb.canon_len_mono (Nat.le_of_lt hml)
      go_wp2_with fail
      go_roundg (X % gk)
      case rel => exact ⟨gk, Q, q, qc, A4, n4, c4, rfl, rfl, oQ.below b3, o4, lq, mq, l4, m4, by omega, by omega, tr.next b3, by show _ = _; rw [← HG.out, Nat.gcd_comm gk, ← Nat.gcd_rec, Nat.gcd_comm]⟩
      case measure => exact hml

end Go.Proofs.Ytpocaopiaggbmaa
