/- Texts of one seat, put together: WordC. -/
import Derived.Test.YtljocjjdfgpbaaaB08
set_option linter.unusedVariables false
/- plumblineref15.Deep, Few. -/
namespace Go.Proofs.Ytljocjjdfgpbaaa
open Go.RowKit
open Wo

def SomeBool (w : World) (e : Ending) (w' : World) : Prop := ∃ b : Bool, e = .returned (.bool b) ∧ Below w.heap.size w w'
set_option maxRecDepth 100000 in
set_option maxHeartbeats 8000000 in
theorem deep_any (N : Nat) : ∀ (m : Int), (m + 1).toNat ≤ N → -1 ≤ m → m ≤ 1000000 → ∀ (S : Nat → Prop) (t : LT) (k p : Int) (A : Option Addr) (n c : Nat) (w : World), DIn S w t (c3 k p A n c) →
    Calls Try.prog 27 #[.agg #[.int .i64 k, .int .i64 p, .slice A n c], .int .i64 m] w (SomeBool w) := by
  induction N with
  | zero =>
    intro m hN hm1 hm2 S t k p A n c w h
    have g1 : m < 0 := by omega
    have hb := bl_alloc w (.cells #[.int .i64 k, .int .i64 p, .slice A n c] 24)
    have HB := hide hb
    clear hb h
    go_enter Try.func27, Try.ntmps27
    go_wp2_with fail
    go_ret
    exact ⟨_, rfl, HB.out⟩
  | succ N ih =>
    intro m hN hm1 hm2 S t k p A n c w h
    obtain ⟨x0, hb, -⟩ := bstart1 24 w #[.int .i64 k, .int .i64 p, .slice A n c]
    have HB := hide hb
    by_cases hm0 : m < 0
    · clear h
      go_enter Try.func27, Try.ntmps27
      go_wp2_with fail
      go_ret
      exact ⟨_, rfl, HB.out⟩
    · have HX := hide x0
      have HD := hide (h.keep (Keep.of_below hb))
      have HAR := hide (fun W => arity_any k W)
      have HKI := hide (fun (q : Nat) W (hq : q ≤ 100) (hd : DIn S W t (c3 k p A n c)) => kid_any S t k p A n c q W hd hq)
      have HSI := hide (fun t k p A n c W (hd : DIn S W t (c3 k p A n c)) => ih (m - 1) (by omega) (by omega) (by omega) S t k p A n c W hd)
      unfold TreePost at HKI
      unfold SomeBool at HSI
      have hle := arity_le k
      obtain ⟨ar, har⟩ : ∃ ar, ar = arity k := ⟨_, rfl⟩
      rw [← har] at HAR hle
      clear h x0 hb ih har
      have HS := hide (Below.refl (w.alloc (.cells #[.int .i64 k, .int .i64 p, .slice A n c] 24)).heap.size (w.alloc (.cells #[.int .i64 k, .int .i64 p, .slice A n c] 24)))
      go_enter Try.func27, Try.ntmps27
      go_wp2_with fail
      generalize hW : w.alloc (.cells #[.int .i64 k, .int .i64 p, .slice A n c] 24) = W1 at *
      clear hW
      go_loopw [5] (fun i wr => ∃ q : Nat, q ≤ ar ∧ i = .int .i64 q ∧ Hid (Below W1.heap.size W1 wr)) (fun i _ => 2 - (intOf i).toNat)
      case atStart => exact ⟨0, Nat.zero_le _, rfl, HS⟩
      case round =>
        obtain ⟨q, hq, rfl, HR⟩ := hrel
        have u0 := (HX.out.next HR.out).cell 0 _ rfl
        by_cases hqa : q < ar
        · have g1 : (q : Int) < (ar : Int) := by omega
          go_wp2_with fail
          refine (HAR.out _).mono ?_
          rintro e w2 ⟨rfl, b2⟩
          have HR2 := hide (HR.out.next b2)
          have u0 := (HX.out.next HR2.out).cell 0 _ rfl
          have u1 := (HX.out.next HR2.out).cell 1 _ rfl
          have u2 := (HX.out.next HR2.out).cell 2 _ rfl
          clear b2
          go_wp2_with fail
          refine (HKI.out q _ (by omega) (HD.out.keep (Keep.of_below HR2.out))).mono ?_
          rintro e w3 ⟨k1, p1, A1, n1, c1, rfl, hd, b3⟩
          have HR3 := hide (HR2.out.next b3)
          clear b3 u0 u1 u2
          go_wp2_with fail
          refine (HSI.out _ _ _ _ _ _ _ hd).mono ?_
          rintro e w4 ⟨bb, rfl, b4⟩
          have HR4 := hide (HR3.out.next b4)
          clear b4 hd
          cases bb
          · go_wp2_with fail
            go_ret
            exact ⟨_, rfl, HB.out.next HR4.out⟩
          · go_wp2_with fail
            go_roundw
            case rel => exact ⟨q + 1, by omega, by go_num, HR4⟩
            case measure => simp [intOf]; omega
        · have g1 : ¬ (q : Int) < (ar : Int) := by omega
          go_wp2_with fail
          refine (HAR.out _).mono ?_
          rintro e w2 ⟨rfl, b2⟩
          go_wp2_with fail
          go_ret
          exact ⟨_, rfl, (HB.out.next HR.out).next b2⟩
def FewPost (most : Int) (L1 L2 : List (List Bool)) (w : World) (e : Ending) (w' : World) : Prop :=
  ∃ b : Bool, e = .returned (.bool b) ∧ (b = true → ((L1.length + L2.length : Nat) : Int) ≤ most ∧ (∀ (j : Nat) (l : List Bool), L1[j]? = some l → l.length ≤ 100) ∧ (∀ (j : Nat) (l : List Bool), L2[j]? = some l → l.length ≤ 100)) ∧ Below w.heap.size w w'
set_option maxRecDepth 100000 in
set_option maxHeartbeats 8000000 in
theorem few_any (S : Nat → Prop) (A B : Option Addr) (n c m d : Nat) (L1 L2 : List (List Bool)) (most : Int) (w : World) (h1 : LsIn S w A n L1) (h2 : LsIn S w B m L2) (hn : n ≤ 4611686018427387903) (hm : m ≤ 4611686018427387903) :
    Calls Try.prog 17 #[.agg #[.slice A n c, .slice B m d], .int .i64 most] w (FewPost most L1 L2 w) := by
  obtain ⟨x0, hb, -⟩ := bstart1 34 w #[.slice A n c, .slice B m d]
  have HB := hide hb
  have HX := hide x0
  have H1 := hide (h1.keep (Keep.of_below hb))
  have H2 := hide (h2.keep (Keep.of_below hb))
  have hl1 := h1.1
  have hl2 := h2.1
  have HF := hide (show ∀ w', Below w.heap.size w w' → FewPost most L1 L2 w (.returned (.bool false)) w' from fun w' hw => ⟨false, rfl, fun h => (by cases h), hw⟩)
  by_cases hsum : (n : Int) + (m : Int) ≤ most
  · have HP := hide (show ∀ w', (∀ j, j < n → ∀ l, L1[j]? = some l → l.length ≤ 100) → (∀ j, j < m → ∀ l, L2[j]? = some l → l.length ≤ 100) → Below w.heap.size w w' → FewPost most L1 L2 w (.returned (.bool true)) w' from fun w' q1 q2 hw => ⟨true, rfl, fun _ => ⟨by rw [hl1, hl2]; omega, fun j l hj => q1 j (by
        rcases Nat.lt_or_ge j n with q | q
        · exact q
        · rw [List.getElem?_eq_none (by omega)] at hj; cases hj) l hj, fun j l hj => q2 j (by
        rcases Nat.lt_or_ge j m with q | q
        · exact q
        · rw [List.getElem?_eq_none (by omega)] at hj; cases hj) l hj⟩, hw⟩)
    have u0 := x0.cell 0 _ rfl
    have u1 := x0.cell 1 _ rfl
    clear h1 h2 x0 hb hl1 hl2
    have HS := hide (Below.refl (w.alloc (.cells #[.slice A n c, .slice B m d] 34)).heap.size (w.alloc (.cells #[.slice A n c, .slice B m d] 34)))
    go_enter Try.func17, Try.ntmps17
    go_wp2_with fail
    generalize hW : w.alloc (.cells #[.slice A n c, .slice B m d] 34) = W1 at *
    clear hW
    go_loopw [5] (fun i wr => ∃ q : Nat, q ≤ n ∧ i = .int .i64 q ∧ Hid (Below W1.heap.size W1 wr) ∧ (∀ j, j < q → ∀ l, L1[j]? = some l → l.length ≤ 100)) (fun i _ => n - (intOf i).toNat)
    case atStart => exact ⟨0, Nat.zero_le _, rfl, HS, fun j hj => absurd hj (by omega)⟩
    case round =>
      obtain ⟨q, hq, rfl, HR, hq1⟩ := hrel
      have u0 := (HX.out.next HR.out).cell 0 _ rfl
      have u1 := (HX.out.next HR.out).cell 1 _ rfl
      have HQ := hide hq1
      clear hq1
      by_cases hqn : q < n
      · obtain ⟨b, o, A1, c1, l, rfl, hlt, hl, d0, -⟩ := (H1.out.keep (Keep.of_below HR.out)).at_ hqn
        by_cases hlen : 100 < l.length
        · have g1 : (100 : Int) < (l.length : Int) := by omega
          generalize hll : l.length = ll at *
          clear hll
          go_wp2_with fail
          go_ret
          exact HF.out _ (HB.out.next HR.out)
        · have g1 : ¬ (100 : Int) < (l.length : Int) := by omega
          have HQ2 := hide (show ∀ j, j < q + 1 → ∀ l, L1[j]? = some l → l.length ≤ 100 from fun j hj l' hl' => by
            by_cases hjq : j = q
            · subst hjq; rw [hl] at hl'; injection hl' with e; subst e; omega
            · exact HQ.out j (by omega) l' hl')
          generalize hll : l.length = ll at *
          clear hll hl hlen
          go_wp2_with fail
          go_roundw
          case rel => exact ⟨q + 1, by omega, by go_num, HR, HQ2.out⟩
          case measure => simp [intOf]; omega
      · go_wp2_with fail
        obtain rfl : q = n := by omega
        go_loopw [6] (fun i wr => ∃ q : Nat, q ≤ m ∧ i = .int .i64 q ∧ Hid (Below W1.heap.size W1 wr) ∧ (∀ j, j < q → ∀ l, L2[j]? = some l → l.length ≤ 100)) (fun i _ => m - (intOf i).toNat)
        case atStart => exact ⟨0, Nat.zero_le _, rfl, HR, fun j hj => absurd hj (by omega)⟩
        case round =>
          obtain ⟨r, hr, rfl, HR1, hr1⟩ := hrel
          have u0 := (HX.out.next HR1.out).cell 0 _ rfl
          have u1 := (HX.out.next HR1.out).cell 1 _ rfl
          have HRL := hide hr1
          clear hr1
          by_cases hrn : r < m
          · obtain ⟨b, o, A1, c1, l, rfl, hlt, hl, d0, -⟩ := (H2.out.keep (Keep.of_below HR1.out)).at_ hrn
            by_cases hlen : 100 < l.length
            · have g1 : (100 : Int) < (l.length : Int) := by omega
              generalize hll : l.length = ll at *
              clear hll
              go_wp2_with fail
              go_ret
              exact HF.out _ (HB.out.next HR1.out)
            · have g1 : ¬ (100 : Int) < (l.length : Int) := by omega
              have HR2 := hide (show ∀ j, j < r + 1 → ∀ l, L2[j]? = some l → l.length ≤ 100 from fun j hj l' hl' => by
                by_cases hjq : j = r
                · subst hjq; rw [hl] at hl'; injection hl' with e; subst e; omega
                · exact HRL.out j (by omega) l' hl')
              generalize hll : l.length = ll at *
              clear hll hl hlen
              go_wp2_with fail
              go_roundw
              case rel => exact ⟨r + 1, by omega, by go_num, HR1, HR2.out⟩
              case measure => simp [intOf]; omega
          · obtain rfl : r = m := by omega
            go_wp2_with fail
            go_ret
            exact HP.out _ HQ.out HRL.out (HB.out.next HR1.out)
  · have u0 := x0.cell 0 _ rfl
    have u1 := x0.cell 1 _ rfl
    clear h1 h2 hb hl1 hl2
    go_enter Try.func17, Try.ntmps17
    go_wp2_with fail
    go_ret
    exact HF.out _ HB.out
end Go.Proofs.Ytljocjjdfgpbaaa
