/- Texts of one seat, put together: WordLawU. -/
import Derived.Test.YtljocjjdfgpbaaaB27
import Derived.Test.YtljocjjdfgpbaaaB28
set_option linter.unusedVariables false
/- The law WordUnfolds, walked. -/
namespace Go.Proofs.Ytljocjjdfgpbaaa
open Go.RowKit
open Wo

section
variable {L1 L2 : List (List Bool)} {p q : LT}
theorem HV_bin (k : Int) (h : arity k = 2) (x : Nat) : HV L1 L2 (norm (.mk k 0 [p, q])) x = HV L1 L2 (.bin k.toNat (norm p) (norm q)) x := by rw [norm_fb h]
theorem HV_una (k : Int) (h : arity k = 1) (x : Nat) : HV L1 L2 (norm (.mk k 0 [p])) x = HV L1 L2 (.una k.toNat (norm p)) x := by rw [norm_fa h]
theorem HV_next (x : Nat) : HV L1 L2 (norm (.mk 8 0 [p])) x = HV L1 L2 (norm p) (x + 1) := by rw [HV_una 8 (by decide)]; rfl
theorem HV_not (x : Nat) : HV L1 L2 (norm (.mk 3 0 [p])) x = !HV L1 L2 (norm p) x := by rw [HV_una 3 (by decide)]; rfl
theorem HV_and (x : Nat) : HV L1 L2 (norm (.mk 4 0 [p, q])) x = (HV L1 L2 (norm p) x && HV L1 L2 (norm q) x) := by rw [HV_bin 4 (by decide)]; rfl
theorem HV_or (x : Nat) : HV L1 L2 (norm (.mk 5 0 [p, q])) x = (HV L1 L2 (norm p) x || HV L1 L2 (norm q) x) := by rw [HV_bin 5 (by decide)]; rfl
theorem HV_imp (x : Nat) : HV L1 L2 (norm (.mk 7 0 [p, q])) x = (!HV L1 L2 (norm p) x || HV L1 L2 (norm q) x) := by rw [HV_bin 7 (by decide)]; rfl
theorem HV_until (h : 0 < L2.length) (x : Nat) : HV L1 L2 (norm (.mk 11 0 [p, q])) x = (HV L1 L2 (norm q) x || (HV L1 L2 (norm p) x && HV L1 L2 (norm (.mk 11 0 [p, q])) (x + 1))) := by
  rw [HV_bin 11 (by decide), HV_bin 11 (by decide)]
  exact UF_next h (H_per (perL L1 L2) (norm p)) (H_per (perL L1 L2) (norm q)) x
theorem HV_free (h : 0 < L2.length) (x : Nat) : HV L1 L2 (norm (.mk 12 0 [p, q])) x = (HV L1 L2 (norm q) x && (HV L1 L2 (norm p) x || HV L1 L2 (norm (.mk 12 0 [p, q])) (x + 1))) := by
  rw [HV_bin 12 (by decide), HV_bin 12 (by decide)]
  exact RF_next h (H_per (perL L1 L2) (norm p)) (H_per (perL L1 L2) (norm q)) x
theorem HV_all (h : 0 < L2.length) (x : Nat) : HV L1 L2 (norm (.mk 9 0 [p])) x = (HV L1 L2 (norm p) x && HV L1 L2 (norm (.mk 9 0 [p])) (x + 1)) := by
  rw [HV_una 9 (by decide), HV_una 9 (by decide)]
  have := RF_next h (Per.const L1.length L2.length false) (H_per (n := L1.length + L2.length) (perL L1 L2) (norm p)) x
  rw [Bool.false_or] at this
  exact this
theorem HV_some (h : 0 < L2.length) (x : Nat) : HV L1 L2 (norm (.mk 10 0 [p])) x = (HV L1 L2 (norm p) x || HV L1 L2 (norm (.mk 10 0 [p])) (x + 1)) := by
  rw [HV_una 10 (by decide), HV_una 10 (by decide)]
  have := UF_next h (Per.const L1.length L2.length true) (H_per (n := L1.length + L2.length) (perL L1 L2) (norm p)) x
  rw [Bool.true_and] at this
  exact this
end
theorem low1023 (n : Int) : bits .and .i64 n 1023 = n % 1024 := by
  have key : (BitVec.ofInt 64 n &&& BitVec.ofInt 64 1023).toNat = (n % ((2 ^ 64 : Nat) : Int)).toNat % 1024 := by
    rw [BitVec.toNat_and, BitVec.toNat_ofInt, show (BitVec.ofInt 64 1023).toNat = 2 ^ 10 - 1 by decide, Nat.and_two_pow_sub_one_eq_mod]
  show IntKind.i64.wrap ((BitVec.ofInt 64 n &&& BitVec.ofInt 64 1023).toNat : Nat) = _
  rw [key, IntKind.wrap_i64]
  omega
theorem hv_call (S : Nat → Prop) (t : LT) (k p : Int) (A : Option Addr) (n c : Nat) (A1 : Option Addr) (c1 : Nat) (A2 : Option Addr) (c2 : Nat) (L1 L2 : List (List Bool)) (at_ : Int) (x : Nat) (v : Bool) (w0 : World) (hd : DIn S w0 t (c3 k p A n c)) (h1 : LsIn S w0 A1 L1.length L1) (h2 : LsIn S w0 A2 L2.length L2) (h0 : 0 < L2.length) (h9 : L1.length + L2.length ≤ 500000) (hx9 : at_ ≤ 9223372036854775807)
    (hx : at_.toNat = x) (hv : HV L1 L2 (norm t) x = v) :
    Calls Try.prog 12 #[.agg #[.int .i64 k, .int .i64 p, .slice A n c], .agg #[.slice A1 L1.length c1, .slice A2 L2.length c2], .int .i64 at_] w0 (SamePost v w0) := by
  have h := wholds_any S t k p A n c A1 c1 A2 c2 L1 L2 at_ w0 hd h1 h2 h0 h9 hx9
  rw [hx, H_HV, hv] at h
  exact h
set_option maxRecDepth 100000 in
set_option maxHeartbeats 32000000 in
theorem wordUnfolds_any (kp pp : Int) (Ap : Option Addr) (np cp : Nat) (tp : LT) (kq pq : Int) (Aq : Option Addr) (nq cq : Nat) (tq : LT) (A1 : Option Addr) (c1 : Nat) (L1 : List (List Bool)) (A2 : Option Addr) (c2 : Nat) (L2 : List (List Bool)) (at_ : Int) (W : World)
    (hp : DIn Some_ W tp (c3 kp pp Ap np cp)) (hq : DIn Some_ W tq (c3 kq pq Aq nq cq)) (h1 : LsIn Some_ W A1 L1.length L1) (h2 : LsIn Some_ W A2 L2.length L2) (hn : L1.length ≤ 4611686018427387903) (hm : L2.length ≤ 4611686018427387903) (hx9 : at_ ≤ 9223372036854775807) :
    Calls Try.prog 4 #[.agg #[.int .i64 kp, .int .i64 pp, .slice Ap np cp], .agg #[.int .i64 kq, .int .i64 pq, .slice Aq nq cq], .agg #[.slice A1 L1.length c1, .slice A2 L2.length c2], .int .i64 at_] W (WYes W) := by
  obtain ⟨x4, x5, x6, hb, hbz⟩ := bstart3 24 24 27 W #[.int .i64 kp, .int .i64 pp, .slice Ap np cp] #[.int .i64 kq, .int .i64 pq, .slice Aq nq cq] #[.slice A1 L1.length c1, .slice A2 L2.length c2]
  have HB := hide hb
  have X4 := hide x4
  have X5 := hide x5
  have X6 := hide x6
  have HSP := hide (fun w (h : Below W.heap.size W w) => size_any 7 (by decide) Some_ tp kp pp Ap np cp w (hp.keep (Keep.of_below h)))
  have HSQ := hide (fun w (h : Below W.heap.size W w) => size_any 7 (by decide) Some_ tq kq pq Aq nq cq w (hq.keep (Keep.of_below h)))
  have HFW := hide (fun w (h : Below W.heap.size W w) => few_any Some_ A1 A2 L1.length c1 L2.length c2 L1 L2 7 w (h1.keep (Keep.of_below h)) (h2.keep (Keep.of_below h)) hn hm)
  have HAS := hide (fun w => as_any A1 L1.length c1 A2 L2.length c2 w)
  have DP := hide (hp.sub (S' := Lt W.heap.size) (fun b hlt _ => hlt))
  have DQ := hide (hq.sub (S' := Lt W.heap.size) (fun b hlt _ => hlt))
  have DW1 := hide h1
  have DW2 := hide h2
  unfold SizePost at HSP HSQ
  obtain ⟨z1, hz1⟩ : ∃ z, z = (norm tp).sizeL 7 := ⟨_, rfl⟩
  obtain ⟨z2, hz2⟩ : ∃ z, z = (norm tq).sizeL 7 := ⟨_, rfl⟩
  have HSP := hide HSP.out
  have HSQ := hide HSQ.out
  rw [show ((7 : Nat) : Int) = 7 from rfl, ← hz1] at HSP
  rw [show ((7 : Nat) : Int) = 7 from rfl, ← hz2] at HSQ
  clear hb hbz hp hq h1 h2 x4 x5 x6 hz1 hz2
  have HY := hide (show ∀ w', Below W.heap.size W w' → WYes W (.returned (.bool true)) w' from fun w' h => ⟨rfl, h⟩)
  go_enter Try.func4, Try.ntmps4
  go_wp2_with fail
  refine (lalive_any _).mono ?_
  rintro e w2 ⟨rfl, b2⟩
  have HB2 := hide (HB.out.next b2)
  have X4 := hide (X4.out.next b2)
  have X5 := hide (X5.out.next b2)
  have X6 := hide (X6.out.next b2)
  clear b2
  have C0 := X4.out.cell 0 _ rfl
  have C1 := X4.out.cell 1 _ rfl
  have C2 := X4.out.cell 2 _ rfl
  go_wp2_with fail
  refine (HSP.out _ HB2.out).mono ?_
  rintro e w3 ⟨rfl, b3⟩
  have HB3 := hide (HB2.out.next b3)
  have X4 := hide (X4.out.next b3)
  have X5 := hide (X5.out.next b3)
  have X6 := hide (X6.out.next b3)
  clear b3 C0 C1 C2
  by_cases hz1 : 7 < z1
  case pos =>
    have gz1 : decide (7 < z1) = true := decide_eq_true hz1
    clear HSQ HFW HAS DP DQ DW1 DW2
    go_wp2_with fail
    go_ret
    exact HY.out _ HB3.out
  have gz1 : decide (7 < z1) = false := decide_eq_false hz1
  have C3 := X5.out.cell 0 _ rfl
  have C4 := X5.out.cell 1 _ rfl
  have C5 := X5.out.cell 2 _ rfl
  go_wp2_with fail
  refine (HSQ.out _ HB3.out).mono ?_
  rintro e w4 ⟨rfl, b4⟩
  have HB4 := hide (HB3.out.next b4)
  have X4 := hide (X4.out.next b4)
  have X5 := hide (X5.out.next b4)
  have X6 := hide (X6.out.next b4)
  clear b4 C3 C4 C5 hz1 gz1 HSP
  by_cases hz2 : 7 < z2
  case pos =>
    have gz2 : decide (7 < z2) = true := decide_eq_true hz2
    clear HSQ HFW HAS DP DQ DW1 DW2
    go_wp2_with fail
    go_ret
    exact HY.out _ HB4.out
  have gz2 : decide (7 < z2) = false := decide_eq_false hz2
  have C6 := X6.out.cell 0 _ rfl
  have C7 := X6.out.cell 1 _ rfl
  go_wp2_with fail
  refine (HAS.out _).mono ?_
  rintro e w5 ⟨rfl, b5⟩
  have HB5 := hide (HB4.out.next b5)
  have X4 := hide (X4.out.next b5)
  have X5 := hide (X5.out.next b5)
  have X6 := hide (X6.out.next b5)
  clear b5 C6 C7 hz2 gz2 HSQ
  go_wp2_with fail
  refine (HFW.out _ HB5.out).mono ?_
  rintro e w6 ⟨bf, rfl, hf, b6⟩
  have HB6 := hide (HB5.out.next b6)
  have X4 := hide (X4.out.next b6)
  have X5 := hide (X5.out.next b6)
  have X6 := hide (X6.out.next b6)
  clear b6 HFW HAS
  cases bf
  case false =>
    clear DP DQ DW1 DW2 hf
    go_wp2_with fail
    go_ret
    exact HY.out _ HB6.out
  obtain ⟨hl, -, -⟩ := hf rfl
  have HL := hide hl
  clear hf hl
  have C7 := X6.out.cell 1 _ rfl
  by_cases hz : L2.length = 0
  · rw [hz] at C7
    clear X4 X5 X6 DP DQ DW1 DW2 HL hm
    generalize L2.length = n2 at *
    subst hz
    go_wp2_with fail
    go_ret
    exact HY.out _ HB6.out
  have g0 : ((L2.length : Int) == 0) = false := by rw [beq_eq_false_iff_ne]; omega
  have HN0 := hide (show 0 < L2.length by omega)
  have HN9 := hide (show L1.length + L2.length ≤ 500000 by have := HL.out; omega)
  obtain ⟨x, hx⟩ : ∃ x, x = at_.toNat := ⟨_, rfl⟩
  have hmx : ∀ (w : World) (ts : Array TypeId) (t : TypeId) (k k' : IntKind), (Builtin.max_ ts t #[.int k at_, .int k' 0]).run Try.prog w = .ok (.int k (x : Int)) w := fun w ts t k k' => by
    rw [run_max_int2]; congr 2; split <;> omega
  have hx9' : x ≤ 9223372036854775807 := by omega
  clear hx hx9 hn hm
  go_upto_if 40 with fail
  go_cut [3] (fun s3 wx => ∃ y : Nat, y ≤ 1000000 ∧ s3 = .int .i64 (y : Int) ∧ wx = w6)
  case first =>
    by_cases hxm : (1000000 : Int) < (x : Int)
    · have gx : decide ((1000000 : Int) < (x : Int)) = true := decide_eq_true hxm
      go_wp2_with fail
      go_meet
      case rel => exact ⟨((x : Int) % 1024).toNat, by omega, congrArg (Value.int .i64) ((low1023 x).trans (by omega)), rfl⟩
    · have gx : decide ((1000000 : Int) < (x : Int)) = false := decide_eq_false hxm
      go_wp2_with fail
      go_meet
      case rel => exact ⟨x, by omega, rfl, rfl⟩
  case rest =>
  obtain ⟨y, hy9, hu3, hwc⟩ := hcut
  subst hu3
  subst wc
  clear hmx hx9' g0 hz C7
  go_upto_region 8 with fail
  obtain ⟨ra, ha⟩ : ∃ ra, ra = HV L1 L2 (norm tp) y := ⟨_, rfl⟩
  have VA := hide ha.symm
  obtain ⟨ra1, ha1⟩ : ∃ ra1, ra1 = HV L1 L2 (norm tp) (y + 1) := ⟨_, rfl⟩
  have VA1 := hide ha1.symm
  obtain ⟨rb, hb⟩ : ∃ rb, rb = HV L1 L2 (norm tq) y := ⟨_, rfl⟩
  have VB := hide hb.symm
  obtain ⟨ru, hru⟩ : ∃ ru, ru = HV L1 L2 (norm (.mk 11 0 [tp, tq])) y := ⟨_, rfl⟩
  have VU := hide hru.symm
  obtain ⟨ru1, hru1⟩ : ∃ ru1, ru1 = HV L1 L2 (norm (.mk 11 0 [tp, tq])) (y + 1) := ⟨_, rfl⟩
  have VU1 := hide hru1.symm
  obtain ⟨rf, hrf⟩ : ∃ rf, rf = HV L1 L2 (norm (.mk 12 0 [tp, tq])) y := ⟨_, rfl⟩
  have VF := hide hrf.symm
  obtain ⟨rf1, hrf1⟩ : ∃ rf1, rf1 = HV L1 L2 (norm (.mk 12 0 [tp, tq])) (y + 1) := ⟨_, rfl⟩
  have VF1 := hide hrf1.symm
  obtain ⟨rg, hrg⟩ : ∃ rg, rg = HV L1 L2 (norm (.mk 9 0 [tp])) y := ⟨_, rfl⟩
  have VG := hide hrg.symm
  obtain ⟨rg1, hrg1⟩ : ∃ rg1, rg1 = HV L1 L2 (norm (.mk 9 0 [tp])) (y + 1) := ⟨_, rfl⟩
  have VG1 := hide hrg1.symm
  obtain ⟨rs, hrs⟩ : ∃ rs, rs = HV L1 L2 (norm (.mk 10 0 [tp])) y := ⟨_, rfl⟩
  have VS := hide hrs.symm
  obtain ⟨rs1, hrs1⟩ : ∃ rs1, rs1 = HV L1 L2 (norm (.mk 10 0 [tp])) (y + 1) := ⟨_, rfl⟩
  have VS1 := hide hrs1.symm
  have EU := hide (show ru = (rb || (ra && ru1)) from by rw [hru, hb, ha, hru1]; exact HV_until HN0.out y)
  have EF := hide (show rf = (rb && (ra || rf1)) from by rw [hrf, hb, ha, hrf1]; exact HV_free HN0.out y)
  have EG := hide (show rg = (ra && rg1) from by rw [hrg, ha, hrg1]; exact HV_all HN0.out y)
  have ES := hide (show rs = (ra || rs1) from by rw [hrs, ha, hrs1]; exact HV_some HN0.out y)
  clear ha ha1 hb hru hru1 hrf hrf1 hrg hrg1 hrs hrs1
  have CA := hide (fun w (h : Below W.heap.size W w) => hv_call Some_ tp kp pp Ap np cp A1 c1 A2 c2 L1 L2 (y : Int) (y) ra w ((DP.out.keep (Keep.of_below h)).sub (fun _ _ _ => trivial)) (DW1.out.keep (Keep.of_below h)) (DW2.out.keep (Keep.of_below h)) HN0.out HN9.out (by omega) (by omega) VA.out)
  have CA1 := hide (fun w (h : Below W.heap.size W w) => hv_call Some_ tp kp pp Ap np cp A1 c1 A2 c2 L1 L2 ((y : Int) + 1) (y + 1) ra1 w ((DP.out.keep (Keep.of_below h)).sub (fun _ _ _ => trivial)) (DW1.out.keep (Keep.of_below h)) (DW2.out.keep (Keep.of_below h)) HN0.out HN9.out (by omega) (by omega) VA1.out)
  have CB := hide (fun w (h : Below W.heap.size W w) => hv_call Some_ tq kq pq Aq nq cq A1 c1 A2 c2 L1 L2 (y : Int) (y) rb w ((DQ.out.keep (Keep.of_below h)).sub (fun _ _ _ => trivial)) (DW1.out.keep (Keep.of_below h)) (DW2.out.keep (Keep.of_below h)) HN0.out HN9.out (by omega) (by omega) VB.out)
  have SOF := hide (fun w (h : Below w6.heap.size w6 w) => (⟨(X4.out.next h).cell 0 _ rfl, (X4.out.next h).cell 1 _ rfl, (X4.out.next h).cell 2 _ rfl, (X5.out.next h).cell 0 _ rfl, (X5.out.next h).cell 1 _ rfl, (X5.out.next h).cell 2 _ rfl, (X6.out.next h).cell 0 _ rfl, (X6.out.next h).cell 1 _ rfl⟩ : _ ∧ _ ∧ _ ∧ _ ∧ _ ∧ _ ∧ _ ∧ _))
  refine wp_drawn (by kernel_rfl) (by kernel_rfl) (by kernel_rfl) (fun w w' => Below w.heap.size w w') (fun j v w => match j with | 0 => v = .agg #[.int .i64 kp, .int .i64 pp, .slice Ap np cp] | 1 => v = .agg #[.slice A1 L1.length c1, .slice A2 L2.length c2] | 2 => v = .int .i64 (y : Int) | 3 => v = .bool ra | 4 => v = .agg #[.int .i64 kq, .int .i64 pq, .slice Aq nq cq] | 5 => v = .agg #[.slice A1 L1.length c1, .slice A2 L2.length c2] | 6 => v = .int .i64 (y : Int) | 7 => v = .bool rb | 8 => v = .bool ra | 9 => v = .bool rb | _ => True) (fun _ _ w => Below w6.heap.size w6 w) ?_ (fun _ => bl_drewN w6 1) ?_ ?_
  · intro j v w w' hT h
    match j, h with
    | 0, h => exact h
    | 1, h => exact h
    | 2, h => exact h
    | 3, h => exact h
    | 4, h => exact h
    | 5, h => exact h
    | 6, h => exact h
    | 7, h => exact h
    | 8, h => exact h
    | 9, h => exact h
    | j + 10, h => trivial
  · refine ⟨?_, ?_, ?_, ?_, ?_, ?_, ?_, ?_, ?_, ?_, trivial⟩
    · intro listed σ w a hin hout hl hc hp hG hF
      refine Guarded.none rfl ?_
      have e4 : a.tmps.getD 4 undef = .pointer (some ⟨W.heap.size, 0, none⟩) := hout 4 (outB_spec (by kernel_rfl))
      have CC := SOF.out w hG; obtain ⟨C0, C1, C2, C3, C4, C5, C6, C7⟩ := CC
      refine Does.val (.agg #[.int .i64 kp, .int .i64 pp, .slice Ap np cp]) (w' := w) ?_ ⟨Below.refl _ _, rfl, hG⟩
      go_simp
    · intro listed σ w a hin hout hl hc hp hG hF
      refine Guarded.none rfl ?_
      have e6 : a.tmps.getD 6 undef = .pointer (some ⟨W.heap.size + 1 + 1, 0, none⟩) := hout 6 (outB_spec (by kernel_rfl))
      have CC := SOF.out w hG; obtain ⟨C0, C1, C2, C3, C4, C5, C6, C7⟩ := CC
      refine Does.val (.agg #[.slice A1 L1.length c1, .slice A2 L2.length c2]) (w' := w) ?_ ⟨Below.refl _ _, rfl, hG⟩
      go_simp
    · intro listed σ w a hin hout hl hc hp hG hF
      refine Guarded.none rfl ?_
      have e3 : a.tmps.getD 3 undef = .int .i64 (y : Int) := hout 3 (outB_spec (by kernel_rfl))
      refine Does.val (.int .i64 (y : Int)) (w' := w) ?_ ⟨Below.refl _ _, rfl, hG⟩
      simp only [Array.getD_eq_getD_getElem?] at e3
      go_simp
    · intro listed σ w a hin hout hl hc hp hG hF
      refine Guarded.none rfl ?_
      have e43 : a.tmps.getD 43 undef = .agg #[.int .i64 kp, .int .i64 pp, .slice Ap np cp] := (hin 0 43 rfl (hp ⟨0, .data⟩ (by simp) rfl)).trans (hF 0 (hp ⟨0, .data⟩ (by simp) rfl))
      have e44 : a.tmps.getD 44 undef = .agg #[.slice A1 L1.length c1, .slice A2 L2.length c2] := (hin 1 44 rfl (hp ⟨1, .data⟩ (by simp) rfl)).trans (hF 1 (hp ⟨1, .data⟩ (by simp) rfl))
      have e45 : a.tmps.getD 45 undef = .int .i64 (y : Int) := (hin 2 45 rfl (hp ⟨2, .data⟩ (by simp) rfl)).trans (hF 2 (hp ⟨2, .data⟩ (by simp) rfl))
      refine Does.call ?_ (CA.out w (HB6.out.next hG)) ?_
      · go_simp
      · rintro e w' ⟨rfl, hb⟩
        exact ⟨_, rfl, hb, rfl, hG.next hb⟩
    · intro listed σ w a hin hout hl hc hp hG hF
      refine Guarded.none rfl ?_
      have e5 : a.tmps.getD 5 undef = .pointer (some ⟨W.heap.size + 1, 0, none⟩) := hout 5 (outB_spec (by kernel_rfl))
      have CC := SOF.out w hG; obtain ⟨C0, C1, C2, C3, C4, C5, C6, C7⟩ := CC
      refine Does.val (.agg #[.int .i64 kq, .int .i64 pq, .slice Aq nq cq]) (w' := w) ?_ ⟨Below.refl _ _, rfl, hG⟩
      go_simp
    · intro listed σ w a hin hout hl hc hp hG hF
      refine Guarded.none rfl ?_
      have e6 : a.tmps.getD 6 undef = .pointer (some ⟨W.heap.size + 1 + 1, 0, none⟩) := hout 6 (outB_spec (by kernel_rfl))
      have CC := SOF.out w hG; obtain ⟨C0, C1, C2, C3, C4, C5, C6, C7⟩ := CC
      refine Does.val (.agg #[.slice A1 L1.length c1, .slice A2 L2.length c2]) (w' := w) ?_ ⟨Below.refl _ _, rfl, hG⟩
      go_simp
    · intro listed σ w a hin hout hl hc hp hG hF
      refine Guarded.none rfl ?_
      have e3 : a.tmps.getD 3 undef = .int .i64 (y : Int) := hout 3 (outB_spec (by kernel_rfl))
      refine Does.val (.int .i64 (y : Int)) (w' := w) ?_ ⟨Below.refl _ _, rfl, hG⟩
      simp only [Array.getD_eq_getD_getElem?] at e3
      go_simp
    · intro listed σ w a hin hout hl hc hp hG hF
      refine Guarded.none rfl ?_
      have e47 : a.tmps.getD 47 undef = .agg #[.int .i64 kq, .int .i64 pq, .slice Aq nq cq] := (hin 4 47 rfl (hp ⟨4, .data⟩ (by simp) rfl)).trans (hF 4 (hp ⟨4, .data⟩ (by simp) rfl))
      have e48 : a.tmps.getD 48 undef = .agg #[.slice A1 L1.length c1, .slice A2 L2.length c2] := (hin 5 48 rfl (hp ⟨5, .data⟩ (by simp) rfl)).trans (hF 5 (hp ⟨5, .data⟩ (by simp) rfl))
      have e49 : a.tmps.getD 49 undef = .int .i64 (y : Int) := (hin 6 49 rfl (hp ⟨6, .data⟩ (by simp) rfl)).trans (hF 6 (hp ⟨6, .data⟩ (by simp) rfl))
      refine Does.call ?_ (CB.out w (HB6.out.next hG)) ?_
      · go_simp
      · rintro e w' ⟨rfl, hb⟩
        exact ⟨_, rfl, hb, rfl, hG.next hb⟩
    · intro listed σ w a hin hout hl hc hp hG hF
      refine Guarded.none rfl ?_
      have e46 : a.tmps.getD 46 undef = .bool ra := (hin 3 46 rfl (hp ⟨3, .data⟩ (by simp) rfl)).trans (hF 3 (hp ⟨3, .data⟩ (by simp) rfl))
      refine Does.val (.bool ra) (w' := w) ?_ ⟨Below.refl _ _, rfl, hG⟩
      simp only [Array.getD_eq_getD_getElem?] at e46
      go_simp
    · intro listed σ w a hin hout hl hc hp hG hF
      refine Guarded.none rfl ?_
      have e50 : a.tmps.getD 50 undef = .bool rb := (hin 7 50 rfl (hp ⟨7, .data⟩ (by simp) rfl)).trans (hF 7 (hp ⟨7, .data⟩ (by simp) rfl))
      refine Does.val (.bool rb) (w' := w) ?_ ⟨Below.refl _ _, rfl, hG⟩
      simp only [Array.getD_eq_getD_getElem?] at e50
      go_simp
  · intro listed σ W9 hall hG hF
    rw [show mid _ σ listed _ = (Act.put (Act.put (Act.put (Act.put (Act.put (Act.put (Act.put (Act.put (Act.put (Act.put _ (some 43) (σ 0)) (some 44) (σ 1)) (some 45) (σ 2)) (some 46) (σ 3)) (some 47) (σ 4)) (some 48) (σ 5)) (some 49) (σ 6)) (some 50) (σ 7)) (some 9) (σ 8)) (some 10) (σ 9)) from (mid_all hall).trans rfl]
    generalize σ 0 = tt0
    generalize σ 1 = tt1
    generalize σ 2 = tt2
    generalize σ 3 = tt3
    generalize σ 4 = tt4
    generalize σ 5 = tt5
    generalize σ 6 = tt6
    generalize σ 7 = tt7
    rw [show σ 8 = .bool ra from hF 8 (by decide)]
    rw [show σ 9 = .bool rb from hF 9 (by decide)]
    simp only [Act.put, List.setIfInBounds_toArray, List.set_cons_zero, List.set_cons_succ]
    have TG := hG
    clear hF hG hall
    clear σ
    have HBa := hide (HB6.out.next TG)
    have X4 := hide (X4.out.next TG)
    have X5 := hide (X5.out.next TG)
    have X6 := hide (X6.out.next TG)
    clear SOF TG CB
    go_upto_region 9 with fail
    have SOF := hide (fun w (h : Below W9.heap.size W9 w) => (⟨(X4.out.next h).cell 0 _ rfl, (X4.out.next h).cell 1 _ rfl, (X4.out.next h).cell 2 _ rfl, (X5.out.next h).cell 0 _ rfl, (X5.out.next h).cell 1 _ rfl, (X5.out.next h).cell 2 _ rfl, (X6.out.next h).cell 0 _ rfl, (X6.out.next h).cell 1 _ rfl⟩ : _ ∧ _ ∧ _ ∧ _ ∧ _ ∧ _ ∧ _ ∧ _))
    refine wp_drawnL (by kernel_rfl) (by kernel_rfl) (by kernel_rfl) (by kernel_rfl) (fun _ _ => True) (fun j v w => match j with | 0 => v = .agg #[.int .i64 kp, .int .i64 pp, .slice Ap np cp] | 1 => v = .agg #[.int .i64 kq, .int .i64 pq, .slice Aq nq cq] | 2 => True | 3 => v = .agg #[.int .i64 kp, .int .i64 pp, .slice Ap np cp] | 4 => v = .agg #[.int .i64 kq, .int .i64 pq, .slice Aq nq cq] | 5 => True | 6 => True | 7 => True | 8 => True | _ => True) (fun listed σ w => (listed.getD 8 false = false ∧ GQ W9 (spL 2 6 (.mk 11 0 [tp, tq])) (spL 5 7 (.mk 12 0 [tp, tq])) listed σ w) ∨ (listed.getD 8 false = true ∧ GQ2 W9 (spL 2 6 (.mk 11 0 [tp, tq])) (spL 5 7 (.mk 12 0 [tp, tq])) σ id w)) ?_ (fun _ => .inl ⟨rep_false _ _, GQ.start (bl_drewN W9 1)⟩) ?_ ?_
    · intro j v w w' hT h
      match j, h with
      | 0, h => exact h
      | 1, h => exact h
      | 2, h => trivial
      | 3, h => exact h
      | 4, h => exact h
      | 5, h => trivial
      | 6, h => trivial
      | 7, h => trivial
      | 8, h => trivial
      | j + 9, h => trivial
    · refine ⟨?_, ?_, ?_, ?_, ?_, ?_, ?_, ?_, ?_, trivial⟩
      · intro listed σ w a hin hout hl hla hs hc hp hG hF
        refine Guarded.none rfl ?_
        have h8 : listed.getD 8 false = false := (un_next (k := 8) hc hl (by kernel_rfl))
        have hG := (hG.resolve_right (fun h => by rw [h8] at h; cases h.1)).2
        have e4 : a.tmps.getD 4 undef = .pointer (some ⟨W.heap.size, 0, none⟩) := hout 4 (outB_spec (by kernel_rfl))
        have CC := SOF.out w hG.below; obtain ⟨C0, C1, C2, C3, C4, C5, C6, C7⟩ := CC
        refine Does.val (.agg #[.int .i64 kp, .int .i64 pp, .slice Ap np cp]) (w' := w) ?_ ⟨trivial, rfl, .inl ⟨(by rw [getD_set_ne false (show (0 : Nat) ≠ 8 by decide)]; exact h8), hG.next (spL_ok 2 6 (.mk 11 0 [tp, tq])) (spL_ok 5 7 (.mk 12 0 [tp, tq])) (Below.refl _ _) (show (0 : Nat) ≠ 2 ∧ (0 : Nat) ≠ 5 ∧ (0 : Nat) ≠ 6 ∧ (0 : Nat) ≠ 7 by decide)⟩⟩
        go_simp
      · intro listed σ w a hin hout hl hla hs hc hp hG hF
        refine Guarded.none rfl ?_
        have h8 : listed.getD 8 false = false := (un_next (k := 8) hc hl (by kernel_rfl))
        have hG := (hG.resolve_right (fun h => by rw [h8] at h; cases h.1)).2
        have e5 : a.tmps.getD 5 undef = .pointer (some ⟨W.heap.size + 1, 0, none⟩) := hout 5 (outB_spec (by kernel_rfl))
        have CC := SOF.out w hG.below; obtain ⟨C0, C1, C2, C3, C4, C5, C6, C7⟩ := CC
        refine Does.val (.agg #[.int .i64 kq, .int .i64 pq, .slice Aq nq cq]) (w' := w) ?_ ⟨trivial, rfl, .inl ⟨(by rw [getD_set_ne false (show (1 : Nat) ≠ 8 by decide)]; exact h8), hG.next (spL_ok 2 6 (.mk 11 0 [tp, tq])) (spL_ok 5 7 (.mk 12 0 [tp, tq])) (Below.refl _ _) (show (1 : Nat) ≠ 2 ∧ (1 : Nat) ≠ 5 ∧ (1 : Nat) ≠ 6 ∧ (1 : Nat) ≠ 7 by decide)⟩⟩
        go_simp
      · intro listed σ w a hin hout hl hla hs hc hp hG hF
        refine Guarded.none rfl ?_
        have h8 : listed.getD 8 false = false := (un_next (k := 8) hc hl (by kernel_rfl))
        have hG := (hG.resolve_right (fun h => by rw [h8] at h; cases h.1)).2
        have e51 : a.tmps.getD 51 undef = .agg #[.int .i64 kp, .int .i64 pp, .slice Ap np cp] := (hin 0 51 rfl (hp ⟨0, .data⟩ (by simp) rfl)).trans (hF 0 (hp ⟨0, .data⟩ (by simp) rfl))
        have e52 : a.tmps.getD 52 undef = .agg #[.int .i64 kq, .int .i64 pq, .slice Aq nq cq] := (hin 1 52 rfl (hp ⟨1, .data⟩ (by simp) rfl)).trans (hF 1 (hp ⟨1, .data⟩ (by simp) rfl))
        refine Does.call ?_ (ltwo_any (Lt W9.heap.size) w.heap.size 11 tp tq kp pp Ap np cp kq pq Aq nq cq w ((DP.out.keep (Keep.of_below (HBa.out.next hG.below))).sub (fun b hlt h => .inl (Nat.lt_of_lt_of_le h HBa.out.size))) ((DQ.out.keep (Keep.of_below (HBa.out.next hG.below))).sub (fun b hlt h => .inl (Nat.lt_of_lt_of_le h HBa.out.size))) (Nat.le_refl _)) ?_
        · go_simp
        · rintro e w' ⟨A, n, c, rfl, hd, hb⟩
          exact ⟨_, rfl, trivial, trivial, .inl ⟨(by rw [getD_set_ne false (show (2 : Nat) ≠ 8 by decide)]; exact h8), hG.call (by kernel_rfl) (spL_ok 2 6 (.mk 11 0 [tp, tq])) (spL_ok 5 7 (.mk 12 0 [tp, tq])) (.inl rfl) rfl hb ⟨_, _, _, _, _, rfl, hd.sub (fun b hlt h => by rcases h with h | h; exact .inl h; exact .inr ⟨h, hlt⟩)⟩⟩⟩
      · intro listed σ w a hin hout hl hla hs hc hp hG hF
        refine Guarded.none rfl ?_
        have h8 : listed.getD 8 false = false := (un_next (k := 8) hc (un_next (k := 5) hc hl (by kernel_rfl)) (by kernel_rfl))
        have hG := (hG.resolve_right (fun h => by rw [h8] at h; cases h.1)).2
        have e4 : a.tmps.getD 4 undef = .pointer (some ⟨W.heap.size, 0, none⟩) := hout 4 (outB_spec (by kernel_rfl))
        have CC := SOF.out w hG.below; obtain ⟨C0, C1, C2, C3, C4, C5, C6, C7⟩ := CC
        refine Does.val (.agg #[.int .i64 kp, .int .i64 pp, .slice Ap np cp]) (w' := w) ?_ ⟨trivial, rfl, .inl ⟨(by rw [getD_set_ne false (show (3 : Nat) ≠ 8 by decide)]; exact h8), hG.next (spL_ok 2 6 (.mk 11 0 [tp, tq])) (spL_ok 5 7 (.mk 12 0 [tp, tq])) (Below.refl _ _) (show (3 : Nat) ≠ 2 ∧ (3 : Nat) ≠ 5 ∧ (3 : Nat) ≠ 6 ∧ (3 : Nat) ≠ 7 by decide)⟩⟩
        go_simp
      · intro listed σ w a hin hout hl hla hs hc hp hG hF
        refine Guarded.none rfl ?_
        have h8 : listed.getD 8 false = false := (un_next (k := 8) hc (un_next (k := 5) hc hl (by kernel_rfl)) (by kernel_rfl))
        have hG := (hG.resolve_right (fun h => by rw [h8] at h; cases h.1)).2
        have e5 : a.tmps.getD 5 undef = .pointer (some ⟨W.heap.size + 1, 0, none⟩) := hout 5 (outB_spec (by kernel_rfl))
        have CC := SOF.out w hG.below; obtain ⟨C0, C1, C2, C3, C4, C5, C6, C7⟩ := CC
        refine Does.val (.agg #[.int .i64 kq, .int .i64 pq, .slice Aq nq cq]) (w' := w) ?_ ⟨trivial, rfl, .inl ⟨(by rw [getD_set_ne false (show (4 : Nat) ≠ 8 by decide)]; exact h8), hG.next (spL_ok 2 6 (.mk 11 0 [tp, tq])) (spL_ok 5 7 (.mk 12 0 [tp, tq])) (Below.refl _ _) (show (4 : Nat) ≠ 2 ∧ (4 : Nat) ≠ 5 ∧ (4 : Nat) ≠ 6 ∧ (4 : Nat) ≠ 7 by decide)⟩⟩
        go_simp
      · intro listed σ w a hin hout hl hla hs hc hp hG hF
        refine Guarded.none rfl ?_
        have h8 : listed.getD 8 false = false := (un_next (k := 8) hc hl (by kernel_rfl))
        have hG := (hG.resolve_right (fun h => by rw [h8] at h; cases h.1)).2
        have e54 : a.tmps.getD 54 undef = .agg #[.int .i64 kp, .int .i64 pp, .slice Ap np cp] := (hin 3 54 rfl (hp ⟨3, .data⟩ (by simp) rfl)).trans (hF 3 (hp ⟨3, .data⟩ (by simp) rfl))
        have e55 : a.tmps.getD 55 undef = .agg #[.int .i64 kq, .int .i64 pq, .slice Aq nq cq] := (hin 4 55 rfl (hp ⟨4, .data⟩ (by simp) rfl)).trans (hF 4 (hp ⟨4, .data⟩ (by simp) rfl))
        refine Does.call ?_ (ltwo_any (Lt W9.heap.size) w.heap.size 12 tp tq kp pp Ap np cp kq pq Aq nq cq w ((DP.out.keep (Keep.of_below (HBa.out.next hG.below))).sub (fun b hlt h => .inl (Nat.lt_of_lt_of_le h HBa.out.size))) ((DQ.out.keep (Keep.of_below (HBa.out.next hG.below))).sub (fun b hlt h => .inl (Nat.lt_of_lt_of_le h HBa.out.size))) (Nat.le_refl _)) ?_
        · go_simp
        · rintro e w' ⟨A, n, c, rfl, hd, hb⟩
          exact ⟨_, rfl, trivial, trivial, .inl ⟨(by rw [getD_set_ne false (show (5 : Nat) ≠ 8 by decide)]; exact h8), hG.call (by kernel_rfl) (spL_ok 2 6 (.mk 11 0 [tp, tq])) (spL_ok 5 7 (.mk 12 0 [tp, tq])) (.inr rfl) rfl hb ⟨_, _, _, _, _, rfl, hd.sub (fun b hlt h => by rcases h with h | h; exact .inl h; exact .inr ⟨h, hlt⟩)⟩⟩⟩
      · intro listed σ w a hin hout hl hla hs hc hp hG hF
        refine Guarded.none rfl ?_
        have h8 : listed.getD 8 false = false := (un_next (k := 8) hc hl (by kernel_rfl))
        have hG := (hG.resolve_right (fun h => by rw [h8] at h; cases h.1)).2
        refine Does.val (.pointer (some ⟨w.heap.size, 0, none⟩)) (w' := w.alloc (.cells #[.int .i64 0, .int .i64 0, .slice none 0 0] 24)) ?_ ⟨trivial, trivial, .inl ⟨(by rw [getD_set_ne false (show (6 : Nat) ≠ 8 by decide)]; exact h8), hG.made (by kernel_rfl) (spL_ok 2 6 (.mk 11 0 [tp, tq])) (spL_ok 5 7 (.mk 12 0 [tp, tq])) (.inl rfl) rfl⟩⟩
        go_simp
      · intro listed σ w a hin hout hl hla hs hc hp hG hF
        refine Guarded.none rfl ?_
        have h8 : listed.getD 8 false = false := (un_next (k := 8) hc hl (by kernel_rfl))
        have hG := (hG.resolve_right (fun h => by rw [h8] at h; cases h.1)).2
        refine Does.val (.pointer (some ⟨w.heap.size, 0, none⟩)) (w' := w.alloc (.cells #[.int .i64 0, .int .i64 0, .slice none 0 0] 24)) ?_ ⟨trivial, trivial, .inl ⟨(by rw [getD_set_ne false (show (7 : Nat) ≠ 8 by decide)]; exact h8), hG.made (by kernel_rfl) (spL_ok 2 6 (.mk 11 0 [tp, tq])) (spL_ok 5 7 (.mk 12 0 [tp, tq])) (.inr rfl) rfl⟩⟩
        go_simp
      · intro listed σ w a hin hout hl hla hs hc hp hG hF
        refine Guarded.none rfl ?_
        have hG := (hG.resolve_right (fun h => by rw [hl] at h; cases h.1)).2
        obtain ⟨hb, g1, g2, cs1, cs2, e1, e2, eg1, eg2, hg1, hg2, hne, b1, b2, p1, p2⟩ := hG.all (spL_ok 2 6 (.mk 11 0 [tp, tq])) (spL_ok 5 7 (.mk 12 0 [tp, tq])) (hp ⟨2, .data⟩ (by simp) rfl) (hp ⟨5, .chain⟩ (by simp) rfl) (hp ⟨6, .data⟩ (by simp) rfl) (hp ⟨7, .phase⟩ (by simp) rfl)
        have hpp := p1
        obtain ⟨k9, p9, A9, n9, c9, rfl, hd9⟩ := p1
        have e11 := (hin 6 11 rfl (hp ⟨6, .data⟩ (by simp) rfl)).trans eg1
        have e53 := (hin 2 53 rfl (hp ⟨2, .data⟩ (by simp) rfl)).trans e1
        refine Does.store_box (T := 24) (cells := #[.int .i64 k9, .int .i64 p9, .slice A9 n9 c9]) rfl e11 e53 b1 (by kernel_rfl) rfl (by simp [Value.oneCell']) (fun w2 x9 o9 => ?_)
        have h9 : 8 < listed.size := by rw [show listed.size = 10 from hs]; decide
        exact ⟨trivial, trivial, .inr ⟨(by simp [Array.getD, h9]), hb.trans (o9.below hb.size hg1), g1, g2, _, _, ((upd_ne σ undef (show (2 : Nat) ≠ 8 by decide)).trans e1), ((upd_ne σ undef (show (5 : Nat) ≠ 8 by decide)).trans e2), ((upd_ne σ undef (show (6 : Nat) ≠ 8 by decide)).trans eg1), ((upd_ne σ undef (show (7 : Nat) ≠ 8 by decide)).trans eg2), hg1, hg2, hne, x9, b2.other o9 (Ne.symm hne), ((spL_ok 2 6 (.mk 11 0 [tp, tq]))).keep _ _ _ _ (Keep.of_only o9 (fun h => h.1 rfl)) hpp, ((spL_ok 5 7 (.mk 12 0 [tp, tq]))).keep _ _ _ _ (Keep.of_only o9 (fun h => h.1 rfl)) p2⟩⟩
    · intro o ho
      injection ho with ho; subst ho
      intro listed σ w a hall hin hout hG hF
      refine Guarded.none rfl ?_
      obtain ⟨hb, g1b, g2b, cs1, cs2, e1, e2, eg1, eg2, hg1, hg2, hne, b1, b2, p1, p2⟩ := (hG.resolve_left (fun h => by have h7 := hall 8 (by decide); rw [h.1] at h7; cases h7)).2
      replace eg1 : σ 6 = .pointer (some ⟨g1b, 0, none⟩) := eg1
      replace eg2 : σ 7 = .pointer (some ⟨g2b, 0, none⟩) := eg2
      have P91 := p1
      have hqq := p2
      obtain ⟨k9, p9, A9, n9, c9, rfl, hd9⟩ := p2
      have e12 := (hin 7 12 rfl (by decide)).trans eg2
      have e56 := (hin 5 56 rfl (by decide)).trans e2
      refine Does.store_box (T := 24) (cells := #[.int .i64 k9, .int .i64 p9, .slice A9 n9 c9]) rfl e12 e56 b2 (by kernel_rfl) rfl (by simp [Value.oneCell']) (fun Wb x92 o9 => ?_)
      have HB9b := hide (hb.trans (o9.below hb.size hg2))
      have x91 : Box 24 Wb g1b cs1 := b1.other o9 hne
      have P91 := ((spL_ok 2 6 (.mk 11 0 [tp, tq]))).keep _ _ _ _ (Keep.of_only o9 (fun h => h.2 rfl)) P91
      have P92 := ((spL_ok 5 7 (.mk 12 0 [tp, tq]))).keep _ _ _ _ (Keep.of_only o9 (fun h => h.2 rfl)) hqq
      rw [show fin _ σ undef _ = (Act.put (Act.put (Act.put (Act.put (Act.put (Act.put (Act.put (Act.put (Act.put (Act.put _ (some 51) (σ 0)) (some 52) (σ 1)) (some 53) (σ 2)) (some 54) (σ 3)) (some 55) (σ 4)) (some 56) (σ 5)) (some 11) (σ 6)) (some 12) (σ 7)) none (σ 8)) none undef) from (fin_all hall).trans rfl]
      simp only [Act.put, List.setIfInBounds_toArray, List.set_cons_zero, List.set_cons_succ]
      rw [eg1, eg2]
      have X91b := hide x91
      have X92b := hide x92
      have P91b := hide P91
      have P92b := hide P92
      have HNEb := hide hne
      clear hF hG hall hin hout SOF hb e1 e2 eg1 eg2 b1 b2 p1 o9 hqq e12 e56 x91 x92 hne
      generalize σ 0 = tt0 ; generalize σ 1 = tt1 ; generalize σ 2 = tt2 ; generalize σ 3 = tt3 ; generalize σ 4 = tt4 ; generalize σ 5 = tt5 ; generalize σ 6 = tt6 ; generalize σ 7 = tt7 ; generalize σ 8 = tt8 
      clear σ
      obtain ⟨kU, pU, AU, nU, cU, rfl, hdU⟩ := P91b.out
      have hk9 : kU = 11 := hdU.parts.1
      have hp9 : pU = 0 := hdU.parts.2.1
      subst hk9 hp9
      have DU := hide (hdU.sub (S' := Some_) (fun _ _ _ => trivial))
      have XU := hide X91b.out
      clear hdU P91b X91b
      obtain ⟨kF, pF, AF, nF, cF, hcs, hdF⟩ := P92b.out
      simp only [Array.mk.injEq, List.cons.injEq, Value.int.injEq, Value.slice.injEq, and_true, true_and] at hcs
      obtain ⟨q1, q2, q3, q4, q5⟩ := hcs
      subst k9 p9 A9 n9 c9
      have hk9 : kF = 12 := hdF.parts.1
      have hp9 : pF = 0 := hdF.parts.2.1
      subst hk9 hp9
      have DF := hide (hdF.sub (S' := Some_) (fun _ _ _ => trivial))
      have XF := hide X92b.out
      clear hdF P92b X92b
      have HBb := hide (HBa.out.next HB9b.out)
      have X4 := hide (X4.out.next HB9b.out)
      have X5 := hide (X5.out.next HB9b.out)
      have X6 := hide (X6.out.next HB9b.out)
      clear HB9b HNEb
      go_upto_region 10 with fail
      have SOF := hide (fun w (h : Below Wb.heap.size Wb w) => (⟨(X4.out.next h).cell 0 _ rfl, (X4.out.next h).cell 1 _ rfl, (X4.out.next h).cell 2 _ rfl, (X5.out.next h).cell 0 _ rfl, (X5.out.next h).cell 1 _ rfl, (X5.out.next h).cell 2 _ rfl, (X6.out.next h).cell 0 _ rfl, (X6.out.next h).cell 1 _ rfl⟩ : _ ∧ _ ∧ _ ∧ _ ∧ _ ∧ _ ∧ _ ∧ _))
      refine wp_drawnL (by kernel_rfl) (by kernel_rfl) (by kernel_rfl) (by kernel_rfl) (fun _ _ => True) (fun j v w => match j with | 0 => v = .agg #[.int .i64 kp, .int .i64 pp, .slice Ap np cp] | 1 => True | 2 => v = .agg #[.int .i64 kp, .int .i64 pp, .slice Ap np cp] | 3 => True | 4 => True | 5 => True | 6 => True | _ => True) (fun listed σ w => (listed.getD 6 false = false ∧ GQ Wb (spL 1 4 (.mk 9 0 [tp])) (spL 3 5 (.mk 10 0 [tp])) listed σ w) ∨ (listed.getD 6 false = true ∧ GQ2 Wb (spL 1 4 (.mk 9 0 [tp])) (spL 3 5 (.mk 10 0 [tp])) σ id w)) ?_ (fun _ => .inl ⟨rep_false _ _, GQ.start (bl_drewN Wb 1)⟩) ?_ ?_
      · intro j v w w' hT h
        match j, h with
        | 0, h => exact h
        | 1, h => trivial
        | 2, h => exact h
        | 3, h => trivial
        | 4, h => trivial
        | 5, h => trivial
        | 6, h => trivial
        | j + 7, h => trivial
      · refine ⟨?_, ?_, ?_, ?_, ?_, ?_, ?_, trivial⟩
        · intro listed σ w a hin hout hl hla hs hc hp hG hF
          refine Guarded.none rfl ?_
          have h8 : listed.getD 6 false = false := (un_next (k := 6) hc hl (by kernel_rfl))
          have hG := (hG.resolve_right (fun h => by rw [h8] at h; cases h.1)).2
          have e4 : a.tmps.getD 4 undef = .pointer (some ⟨W.heap.size, 0, none⟩) := hout 4 (outB_spec (by kernel_rfl))
          have CC := SOF.out w hG.below; obtain ⟨C0, C1, C2, C3, C4, C5, C6, C7⟩ := CC
          refine Does.val (.agg #[.int .i64 kp, .int .i64 pp, .slice Ap np cp]) (w' := w) ?_ ⟨trivial, rfl, .inl ⟨(by rw [getD_set_ne false (show (0 : Nat) ≠ 6 by decide)]; exact h8), hG.next (spL_ok 1 4 (.mk 9 0 [tp])) (spL_ok 3 5 (.mk 10 0 [tp])) (Below.refl _ _) (show (0 : Nat) ≠ 1 ∧ (0 : Nat) ≠ 3 ∧ (0 : Nat) ≠ 4 ∧ (0 : Nat) ≠ 5 by decide)⟩⟩
          go_simp
        · intro listed σ w a hin hout hl hla hs hc hp hG hF
          refine Guarded.none rfl ?_
          have h8 : listed.getD 6 false = false := (un_next (k := 6) hc hl (by kernel_rfl))
          have hG := (hG.resolve_right (fun h => by rw [h8] at h; cases h.1)).2
          have e57 : a.tmps.getD 57 undef = .agg #[.int .i64 kp, .int .i64 pp, .slice Ap np cp] := (hin 0 57 rfl (hp ⟨0, .data⟩ (by simp) rfl)).trans (hF 0 (hp ⟨0, .data⟩ (by simp) rfl))
          refine Does.call ?_ (lone_any (Lt Wb.heap.size) w.heap.size 9 tp kp pp Ap np cp w ((DP.out.keep (Keep.of_below (HBb.out.next hG.below))).sub (fun b hlt h => .inl (Nat.lt_of_lt_of_le h HBb.out.size))) (Nat.le_refl _)) ?_
          · go_simp
          · rintro e w' ⟨A, n, c, rfl, hd, hb⟩
            exact ⟨_, rfl, trivial, trivial, .inl ⟨(by rw [getD_set_ne false (show (1 : Nat) ≠ 6 by decide)]; exact h8), hG.call (by kernel_rfl) (spL_ok 1 4 (.mk 9 0 [tp])) (spL_ok 3 5 (.mk 10 0 [tp])) (.inl rfl) rfl hb ⟨_, _, _, _, _, rfl, hd.sub (fun b hlt h => by rcases h with h | h; exact .inl h; exact .inr ⟨h, hlt⟩)⟩⟩⟩
        · intro listed σ w a hin hout hl hla hs hc hp hG hF
          refine Guarded.none rfl ?_
          have h8 : listed.getD 6 false = false := (un_next (k := 6) hc (un_next (k := 3) hc hl (by kernel_rfl)) (by kernel_rfl))
          have hG := (hG.resolve_right (fun h => by rw [h8] at h; cases h.1)).2
          have e4 : a.tmps.getD 4 undef = .pointer (some ⟨W.heap.size, 0, none⟩) := hout 4 (outB_spec (by kernel_rfl))
          have CC := SOF.out w hG.below; obtain ⟨C0, C1, C2, C3, C4, C5, C6, C7⟩ := CC
          refine Does.val (.agg #[.int .i64 kp, .int .i64 pp, .slice Ap np cp]) (w' := w) ?_ ⟨trivial, rfl, .inl ⟨(by rw [getD_set_ne false (show (2 : Nat) ≠ 6 by decide)]; exact h8), hG.next (spL_ok 1 4 (.mk 9 0 [tp])) (spL_ok 3 5 (.mk 10 0 [tp])) (Below.refl _ _) (show (2 : Nat) ≠ 1 ∧ (2 : Nat) ≠ 3 ∧ (2 : Nat) ≠ 4 ∧ (2 : Nat) ≠ 5 by decide)⟩⟩
          go_simp
        · intro listed σ w a hin hout hl hla hs hc hp hG hF
          refine Guarded.none rfl ?_
          have h8 : listed.getD 6 false = false := (un_next (k := 6) hc hl (by kernel_rfl))
          have hG := (hG.resolve_right (fun h => by rw [h8] at h; cases h.1)).2
          have e59 : a.tmps.getD 59 undef = .agg #[.int .i64 kp, .int .i64 pp, .slice Ap np cp] := (hin 2 59 rfl (hp ⟨2, .data⟩ (by simp) rfl)).trans (hF 2 (hp ⟨2, .data⟩ (by simp) rfl))
          refine Does.call ?_ (lone_any (Lt Wb.heap.size) w.heap.size 10 tp kp pp Ap np cp w ((DP.out.keep (Keep.of_below (HBb.out.next hG.below))).sub (fun b hlt h => .inl (Nat.lt_of_lt_of_le h HBb.out.size))) (Nat.le_refl _)) ?_
          · go_simp
          · rintro e w' ⟨A, n, c, rfl, hd, hb⟩
            exact ⟨_, rfl, trivial, trivial, .inl ⟨(by rw [getD_set_ne false (show (3 : Nat) ≠ 6 by decide)]; exact h8), hG.call (by kernel_rfl) (spL_ok 1 4 (.mk 9 0 [tp])) (spL_ok 3 5 (.mk 10 0 [tp])) (.inr rfl) rfl hb ⟨_, _, _, _, _, rfl, hd.sub (fun b hlt h => by rcases h with h | h; exact .inl h; exact .inr ⟨h, hlt⟩)⟩⟩⟩
        · intro listed σ w a hin hout hl hla hs hc hp hG hF
          refine Guarded.none rfl ?_
          have h8 : listed.getD 6 false = false := (un_next (k := 6) hc hl (by kernel_rfl))
          have hG := (hG.resolve_right (fun h => by rw [h8] at h; cases h.1)).2
          refine Does.val (.pointer (some ⟨w.heap.size, 0, none⟩)) (w' := w.alloc (.cells #[.int .i64 0, .int .i64 0, .slice none 0 0] 24)) ?_ ⟨trivial, trivial, .inl ⟨(by rw [getD_set_ne false (show (4 : Nat) ≠ 6 by decide)]; exact h8), hG.made (by kernel_rfl) (spL_ok 1 4 (.mk 9 0 [tp])) (spL_ok 3 5 (.mk 10 0 [tp])) (.inl rfl) rfl⟩⟩
          go_simp
        · intro listed σ w a hin hout hl hla hs hc hp hG hF
          refine Guarded.none rfl ?_
          have h8 : listed.getD 6 false = false := (un_next (k := 6) hc hl (by kernel_rfl))
          have hG := (hG.resolve_right (fun h => by rw [h8] at h; cases h.1)).2
          refine Does.val (.pointer (some ⟨w.heap.size, 0, none⟩)) (w' := w.alloc (.cells #[.int .i64 0, .int .i64 0, .slice none 0 0] 24)) ?_ ⟨trivial, trivial, .inl ⟨(by rw [getD_set_ne false (show (5 : Nat) ≠ 6 by decide)]; exact h8), hG.made (by kernel_rfl) (spL_ok 1 4 (.mk 9 0 [tp])) (spL_ok 3 5 (.mk 10 0 [tp])) (.inr rfl) rfl⟩⟩
          go_simp
        · intro listed σ w a hin hout hl hla hs hc hp hG hF
          refine Guarded.none rfl ?_
          have hG := (hG.resolve_right (fun h => by rw [hl] at h; cases h.1)).2
          obtain ⟨hb, g1, g2, cs1, cs2, e1, e2, eg1, eg2, hg1, hg2, hne, b1, b2, p1, p2⟩ := hG.all (spL_ok 1 4 (.mk 9 0 [tp])) (spL_ok 3 5 (.mk 10 0 [tp])) (hp ⟨1, .data⟩ (by simp) rfl) (hp ⟨3, .chain⟩ (by simp) rfl) (hp ⟨4, .data⟩ (by simp) rfl) (hp ⟨5, .phase⟩ (by simp) rfl)
          have hpp := p1
          obtain ⟨k9, p9, A9, n9, c9, rfl, hd9⟩ := p1
          have e13 := (hin 4 13 rfl (hp ⟨4, .data⟩ (by simp) rfl)).trans eg1
          have e58 := (hin 1 58 rfl (hp ⟨1, .data⟩ (by simp) rfl)).trans e1
          refine Does.store_box (T := 24) (cells := #[.int .i64 k9, .int .i64 p9, .slice A9 n9 c9]) rfl e13 e58 b1 (by kernel_rfl) rfl (by simp [Value.oneCell']) (fun w2 x9 o9 => ?_)
          have h9 : 6 < listed.size := by rw [show listed.size = 8 from hs]; decide
          exact ⟨trivial, trivial, .inr ⟨(by simp [Array.getD, h9]), hb.trans (o9.below hb.size hg1), g1, g2, _, _, ((upd_ne σ undef (show (1 : Nat) ≠ 6 by decide)).trans e1), ((upd_ne σ undef (show (3 : Nat) ≠ 6 by decide)).trans e2), ((upd_ne σ undef (show (4 : Nat) ≠ 6 by decide)).trans eg1), ((upd_ne σ undef (show (5 : Nat) ≠ 6 by decide)).trans eg2), hg1, hg2, hne, x9, b2.other o9 (Ne.symm hne), ((spL_ok 1 4 (.mk 9 0 [tp]))).keep _ _ _ _ (Keep.of_only o9 (fun h => h.1 rfl)) hpp, ((spL_ok 3 5 (.mk 10 0 [tp]))).keep _ _ _ _ (Keep.of_only o9 (fun h => h.1 rfl)) p2⟩⟩
      · intro o ho
        injection ho with ho; subst ho
        intro listed σ w a hall hin hout hG hF
        refine Guarded.none rfl ?_
        obtain ⟨hb, g1c, g2c, cs1, cs2, e1, e2, eg1, eg2, hg1, hg2, hne, b1, b2, p1, p2⟩ := (hG.resolve_left (fun h => by have h7 := hall 6 (by decide); rw [h.1] at h7; cases h7)).2
        replace eg1 : σ 4 = .pointer (some ⟨g1c, 0, none⟩) := eg1
        replace eg2 : σ 5 = .pointer (some ⟨g2c, 0, none⟩) := eg2
        have P91 := p1
        have hqq := p2
        obtain ⟨k9, p9, A9, n9, c9, rfl, hd9⟩ := p2
        have e14 := (hin 5 14 rfl (by decide)).trans eg2
        have e60 := (hin 3 60 rfl (by decide)).trans e2
        refine Does.store_box (T := 24) (cells := #[.int .i64 k9, .int .i64 p9, .slice A9 n9 c9]) rfl e14 e60 b2 (by kernel_rfl) rfl (by simp [Value.oneCell']) (fun Wc x92 o9 => ?_)
        have HB9c := hide (hb.trans (o9.below hb.size hg2))
        have x91 : Box 24 Wc g1c cs1 := b1.other o9 hne
        have P91 := ((spL_ok 1 4 (.mk 9 0 [tp]))).keep _ _ _ _ (Keep.of_only o9 (fun h => h.2 rfl)) P91
        have P92 := ((spL_ok 3 5 (.mk 10 0 [tp]))).keep _ _ _ _ (Keep.of_only o9 (fun h => h.2 rfl)) hqq
        rw [show fin _ σ undef _ = (Act.put (Act.put (Act.put (Act.put (Act.put (Act.put (Act.put (Act.put _ (some 57) (σ 0)) (some 58) (σ 1)) (some 59) (σ 2)) (some 60) (σ 3)) (some 13) (σ 4)) (some 14) (σ 5)) none (σ 6)) none undef) from (fin_all hall).trans rfl]
        simp only [Act.put, List.setIfInBounds_toArray, List.set_cons_zero, List.set_cons_succ]
        rw [eg1, eg2]
        have X91c := hide x91
        have X92c := hide x92
        have P91c := hide P91
        have P92c := hide P92
        have HNEc := hide hne
        clear hF hG hall hin hout SOF hb e1 e2 eg1 eg2 b1 b2 p1 o9 hqq e14 e60 x91 x92 hne
        generalize σ 0 = tt0 ; generalize σ 1 = tt1 ; generalize σ 2 = tt2 ; generalize σ 3 = tt3 ; generalize σ 4 = tt4 ; generalize σ 5 = tt5 ; generalize σ 6 = tt6 
        clear σ
        obtain ⟨kG, pG, AG, nG, cG, rfl, hdG⟩ := P91c.out
        have hk9 : kG = 9 := hdG.parts.1
        have hp9 : pG = 0 := hdG.parts.2.1
        subst hk9 hp9
        have DG := hide (hdG.sub (S' := Some_) (fun _ _ _ => trivial))
        have XG := hide X91c.out
        clear hdG P91c X91c
        obtain ⟨kS, pS, AS, nS, cS, hcs, hdS⟩ := P92c.out
        simp only [Array.mk.injEq, List.cons.injEq, Value.int.injEq, Value.slice.injEq, and_true, true_and] at hcs
        obtain ⟨q1, q2, q3, q4, q5⟩ := hcs
        subst k9 p9 A9 n9 c9
        have hk9 : kS = 10 := hdS.parts.1
        have hp9 : pS = 0 := hdS.parts.2.1
        subst hk9 hp9
        have DS := hide (hdS.sub (S' := Some_) (fun _ _ _ => trivial))
        have XS := hide X92c.out
        clear hdS P92c X92c
        have HBc := hide (HBb.out.next HB9c.out)
        have X4 := hide (X4.out.next HB9c.out)
        have X5 := hide (X5.out.next HB9c.out)
        have X6 := hide (X6.out.next HB9c.out)
        have XU := hide (XU.out.next HB9c.out)
        have XF := hide (XF.out.next HB9c.out)
        have DU := hide (DU.out.keep (Keep.of_below HB9c.out))
        have DF := hide (DF.out.keep (Keep.of_below HB9c.out))
        clear HB9c HNEc
        have CU := hide (fun w (h : Below Wc.heap.size Wc w) => hv_call Some_ (.mk 11 0 [tp, tq]) 11 0 AU nU cU A1 c1 A2 c2 L1 L2 (y : Int) (y) ru w (DU.out.keep (Keep.of_below h)) (DW1.out.keep (Keep.of_below (HBc.out.next h))) (DW2.out.keep (Keep.of_below (HBc.out.next h))) HN0.out HN9.out (by omega) (by omega) VU.out)
        have CU1 := hide (fun w (h : Below Wc.heap.size Wc w) => hv_call Some_ (.mk 11 0 [tp, tq]) 11 0 AU nU cU A1 c1 A2 c2 L1 L2 ((y : Int) + 1) (y + 1) ru1 w (DU.out.keep (Keep.of_below h)) (DW1.out.keep (Keep.of_below (HBc.out.next h))) (DW2.out.keep (Keep.of_below (HBc.out.next h))) HN0.out HN9.out (by omega) (by omega) VU1.out)
        have CF := hide (fun w (h : Below Wc.heap.size Wc w) => hv_call Some_ (.mk 12 0 [tp, tq]) 12 0 AF nF cF A1 c1 A2 c2 L1 L2 (y : Int) (y) rf w (DF.out.keep (Keep.of_below h)) (DW1.out.keep (Keep.of_below (HBc.out.next h))) (DW2.out.keep (Keep.of_below (HBc.out.next h))) HN0.out HN9.out (by omega) (by omega) VF.out)
        have CF1 := hide (fun w (h : Below Wc.heap.size Wc w) => hv_call Some_ (.mk 12 0 [tp, tq]) 12 0 AF nF cF A1 c1 A2 c2 L1 L2 ((y : Int) + 1) (y + 1) rf1 w (DF.out.keep (Keep.of_below h)) (DW1.out.keep (Keep.of_below (HBc.out.next h))) (DW2.out.keep (Keep.of_below (HBc.out.next h))) HN0.out HN9.out (by omega) (by omega) VF1.out)
        have CG := hide (fun w (h : Below Wc.heap.size Wc w) => hv_call Some_ (.mk 9 0 [tp]) 9 0 AG nG cG A1 c1 A2 c2 L1 L2 (y : Int) (y) rg w (DG.out.keep (Keep.of_below h)) (DW1.out.keep (Keep.of_below (HBc.out.next h))) (DW2.out.keep (Keep.of_below (HBc.out.next h))) HN0.out HN9.out (by omega) (by omega) VG.out)
        have CG1 := hide (fun w (h : Below Wc.heap.size Wc w) => hv_call Some_ (.mk 9 0 [tp]) 9 0 AG nG cG A1 c1 A2 c2 L1 L2 ((y : Int) + 1) (y + 1) rg1 w (DG.out.keep (Keep.of_below h)) (DW1.out.keep (Keep.of_below (HBc.out.next h))) (DW2.out.keep (Keep.of_below (HBc.out.next h))) HN0.out HN9.out (by omega) (by omega) VG1.out)
        have CS := hide (fun w (h : Below Wc.heap.size Wc w) => hv_call Some_ (.mk 10 0 [tp]) 10 0 AS nS cS A1 c1 A2 c2 L1 L2 (y : Int) (y) rs w (DS.out.keep (Keep.of_below h)) (DW1.out.keep (Keep.of_below (HBc.out.next h))) (DW2.out.keep (Keep.of_below (HBc.out.next h))) HN0.out HN9.out (by omega) (by omega) VS.out)
        have CS1 := hide (fun w (h : Below Wc.heap.size Wc w) => hv_call Some_ (.mk 10 0 [tp]) 10 0 AS nS cS A1 c1 A2 c2 L1 L2 ((y : Int) + 1) (y + 1) rs1 w (DS.out.keep (Keep.of_below h)) (DW1.out.keep (Keep.of_below (HBc.out.next h))) (DW2.out.keep (Keep.of_below (HBc.out.next h))) HN0.out HN9.out (by omega) (by omega) VS1.out)
        cases rb <;> cases ra
        · have eu : ru = false := by have := EU.out; simpa using this
          have ef : rf = false := by have := EF.out; simpa using this
          have eg : rg = false := by have := EG.out; simpa using this
          have es : rs = rs1 := by have := ES.out; simpa using this
          subst eu ef eg es
          clear EU EF EG ES
          have w0 := (X6.out.next (Below.refl _ _)).cell 0 _ rfl
          have w1 := (X6.out.next (Below.refl _ _)).cell 1 _ rfl
          have u0 := (XU.out.next (Below.refl _ _)).cell 0 _ rfl
          have u1 := (XU.out.next (Below.refl _ _)).cell 1 _ rfl
          have u2 := (XU.out.next (Below.refl _ _)).cell 2 _ rfl
          go_wp2_with fail
          refine (CU.out _ (Below.refl _ _)).mono ?_
          rintro e wk1 ⟨rfl, bk⟩
          have HK1 := hide (Below.next (Below.refl _ _) bk)
          clear bk w0 w1 u0 u1 u2
          have w0 := (X6.out.next HK1.out).cell 0 _ rfl
          have w1 := (X6.out.next HK1.out).cell 1 _ rfl
          have f0 := (XF.out.next HK1.out).cell 0 _ rfl
          have f1 := (XF.out.next HK1.out).cell 1 _ rfl
          have f2 := (XF.out.next HK1.out).cell 2 _ rfl
          go_wp2_with fail
          refine (CF.out _ HK1.out).mono ?_
          rintro e wk2 ⟨rfl, bk⟩
          have HK2 := hide (Below.next HK1.out bk)
          clear bk w0 w1 f0 f1 f2
          have w0 := (X6.out.next HK2.out).cell 0 _ rfl
          have w1 := (X6.out.next HK2.out).cell 1 _ rfl
          have g0 := (XG.out.next HK2.out).cell 0 _ rfl
          have g1 := (XG.out.next HK2.out).cell 1 _ rfl
          have g2 := (XG.out.next HK2.out).cell 2 _ rfl
          go_wp2_with fail
          refine (CG.out _ HK2.out).mono ?_
          rintro e wk3 ⟨rfl, bk⟩
          have HK3 := hide (Below.next HK2.out bk)
          clear bk w0 w1 g0 g1 g2
          have w0 := (X6.out.next HK3.out).cell 0 _ rfl
          have w1 := (X6.out.next HK3.out).cell 1 _ rfl
          have s0 := (XS.out.next HK3.out).cell 0 _ rfl
          have s1 := (XS.out.next HK3.out).cell 1 _ rfl
          have s2 := (XS.out.next HK3.out).cell 2 _ rfl
          go_wp2_with fail
          refine (CS.out _ HK3.out).mono ?_
          rintro e wk4 ⟨rfl, bk⟩
          have HK4 := hide (Below.next HK3.out bk)
          clear bk w0 w1 s0 s1 s2
          have w0 := (X6.out.next HK4.out).cell 0 _ rfl
          have w1 := (X6.out.next HK4.out).cell 1 _ rfl
          have s0 := (XS.out.next HK4.out).cell 0 _ rfl
          have s1 := (XS.out.next HK4.out).cell 1 _ rfl
          have s2 := (XS.out.next HK4.out).cell 2 _ rfl
          go_wp2_with fail
          refine (CS1.out _ HK4.out).mono ?_
          rintro e wk5 ⟨rfl, bk⟩
          have HK5 := hide (Below.next HK4.out bk)
          clear bk w0 w1 s0 s1 s2
          go_upto_region 15 with fail
          have HBd := hide (Below.next HBc.out HK5.out)
          have X4 := hide (X4.out.next HK5.out)
          have X5 := hide (X5.out.next HK5.out)
          have X6 := hide (X6.out.next HK5.out)
          have SOF := hide (fun w (h : Below wk5.heap.size wk5 w) => (⟨(X4.out.next h).cell 0 _ rfl, (X4.out.next h).cell 1 _ rfl, (X4.out.next h).cell 2 _ rfl, (X5.out.next h).cell 0 _ rfl, (X5.out.next h).cell 1 _ rfl, (X5.out.next h).cell 2 _ rfl, (X6.out.next h).cell 0 _ rfl, (X6.out.next h).cell 1 _ rfl⟩ : _ ∧ _ ∧ _ ∧ _ ∧ _ ∧ _ ∧ _ ∧ _))
          refine wp_drawnL (by kernel_rfl) (by kernel_rfl) (by kernel_rfl) (by kernel_rfl) (fun w w' => Below w.heap.size w w') (fun j v w => match j with | 0 => v = .agg #[.int .i64 kp, .int .i64 pp, .slice Ap np cp] | 1 => ∃ A n c, v = .agg #[.int .i64 8, .int .i64 0, .slice A n c] ∧ DIn Some_ w (.mk 8 0 [tp]) (c3 8 0 A n c) | 2 => v = .agg #[.slice A1 L1.length c1, .slice A2 L2.length c2] | 3 => v = .int .i64 (y : Int) | 4 => v = .bool ra1 | 5 => v = .agg #[.int .i64 kp, .int .i64 pp, .slice Ap np cp] | 6 => v = .agg #[.slice A1 L1.length c1, .slice A2 L2.length c2] | 7 => v = .int .i64 (y : Int) | 8 => v = .int .i64 ((y : Int) + 1) | 9 => v = .bool ra1 | 10 => v = .bool true | 11 => v = .bool true | 12 => v = .agg #[.int .i64 kp, .int .i64 pp, .slice Ap np cp] | 13 => ∃ A n c, v = .agg #[.int .i64 3, .int .i64 0, .slice A n c] ∧ DIn Some_ w (.mk 3 0 [tp]) (c3 3 0 A n c) | 14 => v = .agg #[.slice A1 L1.length c1, .slice A2 L2.length c2] | 15 => v = .int .i64 (y : Int) | 16 => v = .bool true | 17 => v = .bool false | 18 => v = .bool true | 19 => v = .bool true | 20 => v = .bool true | 21 => v = .agg #[.int .i64 kp, .int .i64 pp, .slice Ap np cp] | 22 => v = .agg #[.int .i64 kq, .int .i64 pq, .slice Aq nq cq] | 23 => ∃ A n c, v = .agg #[.int .i64 4, .int .i64 0, .slice A n c] ∧ DIn Some_ w (.mk 4 0 [tp, tq]) (c3 4 0 A n c) | 24 => v = .agg #[.slice A1 L1.length c1, .slice A2 L2.length c2] | 25 => v = .int .i64 (y : Int) | 26 => v = .bool false | 27 => v = .bool false | 28 => v = .bool false | 29 => v = undef | 30 => v = .bool false | 31 => v = .bool true | 32 => v = .bool true | 33 => v = .bool true | 34 => v = .agg #[.int .i64 kp, .int .i64 pp, .slice Ap np cp] | 35 => v = .agg #[.int .i64 kq, .int .i64 pq, .slice Aq nq cq] | 36 => ∃ A n c, v = .agg #[.int .i64 5, .int .i64 0, .slice A n c] ∧ DIn Some_ w (.mk 5 0 [tp, tq]) (c3 5 0 A n c) | 37 => v = .agg #[.slice A1 L1.length c1, .slice A2 L2.length c2] | 38 => v = .int .i64 (y : Int) | 39 => v = .bool false | 40 => v = .bool false | 41 => v = .bool false | 42 => v = .bool false | 43 => v = .bool false | 44 => v = .bool true | 45 => v = .bool true | 46 => v = .bool true | 47 => v = .agg #[.int .i64 kp, .int .i64 pp, .slice Ap np cp] | 48 => v = .agg #[.int .i64 kq, .int .i64 pq, .slice Aq nq cq] | 49 => ∃ A n c, v = .agg #[.int .i64 7, .int .i64 0, .slice A n c] ∧ DIn Some_ w (.mk 7 0 [tp, tq]) (c3 7 0 A n c) | 50 => v = .agg #[.slice A1 L1.length c1, .slice A2 L2.length c2] | 51 => v = .int .i64 (y : Int) | 52 => v = .bool true | 53 => v = .bool false | 54 => v = .bool true | 55 => v = .bool true | 56 => v = undef | 57 => v = .bool true | 58 => v = .bool true | 59 => v = .bool true | _ => True) (fun _ _ w => Below wk5.heap.size wk5 w) ?_ (fun _ => bl_drewN wk5 1) ?_ ?_
          · intro j v w w' hT h
            match j, h with
            | 0, h => exact h
            | 1, h => exact (by obtain ⟨A, n, c, e, h1⟩ := h; exact ⟨A, n, c, e, h1.keep (Keep.of_below hT)⟩)
            | 2, h => exact h
            | 3, h => exact h
            | 4, h => exact h
            | 5, h => exact h
            | 6, h => exact h
            | 7, h => exact h
            | 8, h => exact h
            | 9, h => exact h
            | 10, h => exact h
            | 11, h => exact h
            | 12, h => exact h
            | 13, h => exact (by obtain ⟨A, n, c, e, h1⟩ := h; exact ⟨A, n, c, e, h1.keep (Keep.of_below hT)⟩)
            | 14, h => exact h
            | 15, h => exact h
            | 16, h => exact h
            | 17, h => exact h
            | 18, h => exact h
            | 19, h => exact h
            | 20, h => exact h
            | 21, h => exact h
            | 22, h => exact h
            | 23, h => exact (by obtain ⟨A, n, c, e, h1⟩ := h; exact ⟨A, n, c, e, h1.keep (Keep.of_below hT)⟩)
            | 24, h => exact h
            | 25, h => exact h
            | 26, h => exact h
            | 27, h => exact h
            | 28, h => exact h
            | 29, h => exact h
            | 30, h => exact h
            | 31, h => exact h
            | 32, h => exact h
            | 33, h => exact h
            | 34, h => exact h
            | 35, h => exact h
            | 36, h => exact (by obtain ⟨A, n, c, e, h1⟩ := h; exact ⟨A, n, c, e, h1.keep (Keep.of_below hT)⟩)
            | 37, h => exact h
            | 38, h => exact h
            | 39, h => exact h
            | 40, h => exact h
            | 41, h => exact h
            | 42, h => exact h
            | 43, h => exact h
            | 44, h => exact h
            | 45, h => exact h
            | 46, h => exact h
            | 47, h => exact h
            | 48, h => exact h
            | 49, h => exact (by obtain ⟨A, n, c, e, h1⟩ := h; exact ⟨A, n, c, e, h1.keep (Keep.of_below hT)⟩)
            | 50, h => exact h
            | 51, h => exact h
            | 52, h => exact h
            | 53, h => exact h
            | 54, h => exact h
            | 55, h => exact h
            | 56, h => exact h
            | 57, h => exact h
            | 58, h => exact h
            | 59, h => exact h
            | j + 60, h => trivial
          · refine ⟨?_, ?_, ?_, ?_, ?_, ?_, ?_, ?_, ?_, ?_, ?_, ?_, ?_, ?_, ?_, ?_, ?_, ?_, ?_, ?_, ?_, ?_, ?_, ?_, ?_, ?_, ?_, ?_, ?_, ?_, ?_, ?_, ?_, ?_, ?_, ?_, ?_, ?_, ?_, ?_, ?_, ?_, ?_, ?_, ?_, ?_, ?_, ?_, ?_, ?_, ?_, ?_, ?_, ?_, ?_, ?_, ?_, ?_, ?_, ?_, trivial⟩
            · intro listed σ w a hin hout hl hla hs hc hp hG hF
              refine Guarded.none rfl ?_
              have e4 : a.tmps.getD 4 undef = .pointer (some ⟨W.heap.size, 0, none⟩) := hout 4 (outB_spec (by kernel_rfl))
              have CC := SOF.out w hG; obtain ⟨C0, C1, C2, C3, C4, C5, C6, C7⟩ := CC
              refine Does.val (.agg #[.int .i64 kp, .int .i64 pp, .slice Ap np cp]) (w' := w) ?_ ⟨Below.refl _ _, rfl, hG⟩
              go_simp
            · intro listed σ w a hin hout hl hla hs hc hp hG hF
              refine Guarded.none rfl ?_
              have e123 : a.tmps.getD 123 undef = .agg #[.int .i64 kp, .int .i64 pp, .slice Ap np cp] := (hin 0 123 rfl (hp ⟨0, .data⟩ (by simp) rfl)).trans (hF 0 (hp ⟨0, .data⟩ (by simp) rfl))
              refine Does.call ?_ (lone_any Some_ 0 8 tp kp pp Ap np cp w ((DP.out.keep (Keep.of_below (HBd.out.next hG))).sub (fun _ _ _ => .inl trivial)) (Nat.zero_le _)) ?_
              · go_simp
              · rintro e w' ⟨A, n, c, rfl, hd, hb⟩
                exact ⟨_, rfl, hb, ⟨A, n, c, rfl, hd.sub (fun b _ _ => trivial)⟩, hG.next hb⟩
            · intro listed σ w a hin hout hl hla hs hc hp hG hF
              refine Guarded.none rfl ?_
              have e6 : a.tmps.getD 6 undef = .pointer (some ⟨W.heap.size + 1 + 1, 0, none⟩) := hout 6 (outB_spec (by kernel_rfl))
              have CC := SOF.out w hG; obtain ⟨C0, C1, C2, C3, C4, C5, C6, C7⟩ := CC
              refine Does.val (.agg #[.slice A1 L1.length c1, .slice A2 L2.length c2]) (w' := w) ?_ ⟨Below.refl _ _, rfl, hG⟩
              go_simp
            · intro listed σ w a hin hout hl hla hs hc hp hG hF
              refine Guarded.none rfl ?_
              have e3 : a.tmps.getD 3 undef = .int .i64 (y : Int) := hout 3 (outB_spec (by kernel_rfl))
              refine Does.val (.int .i64 (y : Int)) (w' := w) ?_ ⟨Below.refl _ _, rfl, hG⟩
              simp only [Array.getD_eq_getD_getElem?] at e3
              go_simp
            · intro listed σ w a hin hout hl hla hs hc hp hG hF
              refine Guarded.none rfl ?_
              have e124 := hin 1 124 rfl (hp ⟨1, .data⟩ (by simp) rfl)
              obtain ⟨Am1, nm1, cm1, ev1, hd1⟩ := hF 1 (hp ⟨1, .data⟩ (by simp) rfl)
              rw [ev1] at e124
              have e125 : a.tmps.getD 125 undef = .agg #[.slice A1 L1.length c1, .slice A2 L2.length c2] := (hin 2 125 rfl (hp ⟨2, .data⟩ (by simp) rfl)).trans (hF 2 (hp ⟨2, .data⟩ (by simp) rfl))
              have e126 : a.tmps.getD 126 undef = .int .i64 (y : Int) := (hin 3 126 rfl (hp ⟨3, .data⟩ (by simp) rfl)).trans (hF 3 (hp ⟨3, .data⟩ (by simp) rfl))
              refine Does.call ?_ (hv_call Some_ (.mk 8 0 [tp]) 8 0 Am1 nm1 cm1 A1 c1 A2 c2 L1 L2 (y : Int) y ra1 w hd1 (DW1.out.keep (Keep.of_below (HBd.out.next hG))) (DW2.out.keep (Keep.of_below (HBd.out.next hG))) HN0.out HN9.out (by omega) rfl (by rw [HV_next]; first | (rw [VA.out, VB.out]; rfl) | (rw [VA.out]; rfl) | exact VA1.out)) ?_
              · go_simp
              · rintro e w' ⟨rfl, hb⟩
                exact ⟨_, rfl, hb, rfl, hG.next hb⟩
            · intro listed σ w a hin hout hl hla hs hc hp hG hF
              refine Guarded.none rfl ?_
              have e4 : a.tmps.getD 4 undef = .pointer (some ⟨W.heap.size, 0, none⟩) := hout 4 (outB_spec (by kernel_rfl))
              have CC := SOF.out w hG; obtain ⟨C0, C1, C2, C3, C4, C5, C6, C7⟩ := CC
              refine Does.val (.agg #[.int .i64 kp, .int .i64 pp, .slice Ap np cp]) (w' := w) ?_ ⟨Below.refl _ _, rfl, hG⟩
              go_simp
            · intro listed σ w a hin hout hl hla hs hc hp hG hF
              refine Guarded.none rfl ?_
              have e6 : a.tmps.getD 6 undef = .pointer (some ⟨W.heap.size + 1 + 1, 0, none⟩) := hout 6 (outB_spec (by kernel_rfl))
              have CC := SOF.out w hG; obtain ⟨C0, C1, C2, C3, C4, C5, C6, C7⟩ := CC
              refine Does.val (.agg #[.slice A1 L1.length c1, .slice A2 L2.length c2]) (w' := w) ?_ ⟨Below.refl _ _, rfl, hG⟩
              go_simp
            · intro listed σ w a hin hout hl hla hs hc hp hG hF
              refine Guarded.none rfl ?_
              have e3 : a.tmps.getD 3 undef = .int .i64 (y : Int) := hout 3 (outB_spec (by kernel_rfl))
              refine Does.val (.int .i64 (y : Int)) (w' := w) ?_ ⟨Below.refl _ _, rfl, hG⟩
              simp only [Array.getD_eq_getD_getElem?] at e3
              go_simp
            · intro listed σ w a hin hout hl hla hs hc hp hG hF
              refine Guarded.none rfl ?_
              have e130 : a.tmps.getD 130 undef = .int .i64 (y : Int) := (hin 7 130 rfl (hp ⟨7, .data⟩ (by simp) rfl)).trans (hF 7 (hp ⟨7, .data⟩ (by simp) rfl))
              refine Does.val (.int .i64 ((y : Int) + 1)) (w' := w) ?_ ⟨Below.refl _ _, rfl, hG⟩
              simp only [Array.getD_eq_getD_getElem?] at e130
              go_simp
              first | done | (exact congrArg (Value.int .i64) (i64w (by omega) (by omega))) | (exact i64w (by omega) (by omega))
            · intro listed σ w a hin hout hl hla hs hc hp hG hF
              refine Guarded.none rfl ?_
              have e128 : a.tmps.getD 128 undef = .agg #[.int .i64 kp, .int .i64 pp, .slice Ap np cp] := (hin 5 128 rfl (hp ⟨5, .data⟩ (by simp) rfl)).trans (hF 5 (hp ⟨5, .data⟩ (by simp) rfl))
              have e129 : a.tmps.getD 129 undef = .agg #[.slice A1 L1.length c1, .slice A2 L2.length c2] := (hin 6 129 rfl (hp ⟨6, .data⟩ (by simp) rfl)).trans (hF 6 (hp ⟨6, .data⟩ (by simp) rfl))
              have e131 : a.tmps.getD 131 undef = .int .i64 ((y : Int) + 1) := (hin 8 131 rfl (hp ⟨8, .data⟩ (by simp) rfl)).trans (hF 8 (hp ⟨8, .data⟩ (by simp) rfl))
              refine Does.call ?_ (CA1.out w (HBd.out.next hG)) ?_
              · go_simp
              · rintro e w' ⟨rfl, hb⟩
                exact ⟨_, rfl, hb, rfl, hG.next hb⟩
            · intro listed σ w a hin hout hl hla hs hc hp hG hF
              refine Guarded.none rfl ?_
              have e127 : a.tmps.getD 127 undef = .bool ra1 := (hin 4 127 rfl (hp ⟨4, .data⟩ (by simp) rfl)).trans (hF 4 (hp ⟨4, .data⟩ (by simp) rfl))
              have e132 : a.tmps.getD 132 undef = .bool ra1 := (hin 9 132 rfl (hp ⟨9, .data⟩ (by simp) rfl)).trans (hF 9 (hp ⟨9, .data⟩ (by simp) rfl))
              refine Does.val (.bool true) (w' := w) ?_ ⟨Below.refl _ _, rfl, hG⟩
              simp only [Array.getD_eq_getD_getElem?] at e127 e132
              go_simp
            · intro listed σ w a hin hout hl hla hs hc hp hG hF
              refine Guarded.none rfl ?_
              have e133 : a.tmps.getD 133 undef = .bool true := (hin 10 133 rfl (hp ⟨10, .data⟩ (by simp) rfl)).trans (hF 10 (hp ⟨10, .data⟩ (by simp) rfl))
              refine Does.val (.bool true) (w' := w) ?_ ⟨Below.refl _ _, rfl, hG⟩
              simp only [Array.getD_eq_getD_getElem?] at e133
              go_simp
            · intro listed σ w a hin hout hl hla hs hc hp hG hF
              refine Guarded.some (d := 134) (b := true) rfl rfl ((hin 11 134 rfl (hp ⟨11, .guard⟩ (by simp) rfl)).trans (hF 11 (hp ⟨11, .guard⟩ (by simp) rfl))) ?_
              refine Or.inl ⟨rfl, ?_⟩
              have e4 : a.tmps.getD 4 undef = .pointer (some ⟨W.heap.size, 0, none⟩) := hout 4 (outB_spec (by kernel_rfl))
              have CC := SOF.out w hG; obtain ⟨C0, C1, C2, C3, C4, C5, C6, C7⟩ := CC
              refine Does.val (.agg #[.int .i64 kp, .int .i64 pp, .slice Ap np cp]) (w' := w) ?_ ⟨Below.refl _ _, rfl, hG⟩
              go_simp
            · intro listed σ w a hin hout hl hla hs hc hp hG hF
              refine Guarded.some (d := 134) (b := true) rfl rfl ((hin 11 134 rfl (hp ⟨11, .guard⟩ (by simp) rfl)).trans (hF 11 (hp ⟨11, .guard⟩ (by simp) rfl))) ?_
              refine Or.inl ⟨rfl, ?_⟩
              have e135 : a.tmps.getD 135 undef = .agg #[.int .i64 kp, .int .i64 pp, .slice Ap np cp] := (hin 12 135 rfl (hp ⟨12, .data⟩ (by simp) rfl)).trans (hF 12 (hp ⟨12, .data⟩ (by simp) rfl))
              refine Does.call ?_ (lone_any Some_ 0 3 tp kp pp Ap np cp w ((DP.out.keep (Keep.of_below (HBd.out.next hG))).sub (fun _ _ _ => .inl trivial)) (Nat.zero_le _)) ?_
              · go_simp
              · rintro e w' ⟨A, n, c, rfl, hd, hb⟩
                exact ⟨_, rfl, hb, ⟨A, n, c, rfl, hd.sub (fun b _ _ => trivial)⟩, hG.next hb⟩
            · intro listed σ w a hin hout hl hla hs hc hp hG hF
              refine Guarded.some (d := 134) (b := true) rfl rfl ((hin 11 134 rfl (hp ⟨11, .guard⟩ (by simp) rfl)).trans (hF 11 (hp ⟨11, .guard⟩ (by simp) rfl))) ?_
              refine Or.inl ⟨rfl, ?_⟩
              have e6 : a.tmps.getD 6 undef = .pointer (some ⟨W.heap.size + 1 + 1, 0, none⟩) := hout 6 (outB_spec (by kernel_rfl))
              have CC := SOF.out w hG; obtain ⟨C0, C1, C2, C3, C4, C5, C6, C7⟩ := CC
              refine Does.val (.agg #[.slice A1 L1.length c1, .slice A2 L2.length c2]) (w' := w) ?_ ⟨Below.refl _ _, rfl, hG⟩
              go_simp
            · intro listed σ w a hin hout hl hla hs hc hp hG hF
              refine Guarded.some (d := 134) (b := true) rfl rfl ((hin 11 134 rfl (hp ⟨11, .guard⟩ (by simp) rfl)).trans (hF 11 (hp ⟨11, .guard⟩ (by simp) rfl))) ?_
              refine Or.inl ⟨rfl, ?_⟩
              have e3 : a.tmps.getD 3 undef = .int .i64 (y : Int) := hout 3 (outB_spec (by kernel_rfl))
              refine Does.val (.int .i64 (y : Int)) (w' := w) ?_ ⟨Below.refl _ _, rfl, hG⟩
              simp only [Array.getD_eq_getD_getElem?] at e3
              go_simp
            · intro listed σ w a hin hout hl hla hs hc hp hG hF
              refine Guarded.some (d := 134) (b := true) rfl rfl ((hin 11 134 rfl (hp ⟨11, .guard⟩ (by simp) rfl)).trans (hF 11 (hp ⟨11, .guard⟩ (by simp) rfl))) ?_
              refine Or.inl ⟨rfl, ?_⟩
              have e136 := hin 13 136 rfl (hp ⟨13, .data⟩ (by simp) rfl)
              obtain ⟨Am13, nm13, cm13, ev13, hd13⟩ := hF 13 (hp ⟨13, .data⟩ (by simp) rfl)
              rw [ev13] at e136
              have e137 : a.tmps.getD 137 undef = .agg #[.slice A1 L1.length c1, .slice A2 L2.length c2] := (hin 14 137 rfl (hp ⟨14, .data⟩ (by simp) rfl)).trans (hF 14 (hp ⟨14, .data⟩ (by simp) rfl))
              have e138 : a.tmps.getD 138 undef = .int .i64 (y : Int) := (hin 15 138 rfl (hp ⟨15, .data⟩ (by simp) rfl)).trans (hF 15 (hp ⟨15, .data⟩ (by simp) rfl))
              refine Does.call ?_ (hv_call Some_ (.mk 3 0 [tp]) 3 0 Am13 nm13 cm13 A1 c1 A2 c2 L1 L2 (y : Int) y true w hd13 (DW1.out.keep (Keep.of_below (HBd.out.next hG))) (DW2.out.keep (Keep.of_below (HBd.out.next hG))) HN0.out HN9.out (by omega) rfl (by rw [HV_not]; first | (rw [VA.out, VB.out]; rfl) | (rw [VA.out]; rfl) | exact VA1.out)) ?_
              · go_simp
              · rintro e w' ⟨rfl, hb⟩
                exact ⟨_, rfl, hb, rfl, hG.next hb⟩
            · intro listed σ w a hin hout hl hla hs hc hp hG hF
              refine Guarded.some (d := 134) (b := true) rfl rfl ((hin 11 134 rfl (hp ⟨11, .guard⟩ (by simp) rfl)).trans (hF 11 (hp ⟨11, .guard⟩ (by simp) rfl))) ?_
              refine Or.inl ⟨rfl, ?_⟩
              have e9 : a.tmps.getD 9 undef = .bool false := hout 9 (outB_spec (by kernel_rfl))
              refine Does.val (.bool false) (w' := w) ?_ ⟨Below.refl _ _, rfl, hG⟩
              simp only [Array.getD_eq_getD_getElem?] at e9
              go_simp
            · intro listed σ w a hin hout hl hla hs hc hp hG hF
              refine Guarded.some (d := 134) (b := true) rfl rfl ((hin 11 134 rfl (hp ⟨11, .guard⟩ (by simp) rfl)).trans (hF 11 (hp ⟨11, .guard⟩ (by simp) rfl))) ?_
              refine Or.inl ⟨rfl, ?_⟩
              have e139 : a.tmps.getD 139 undef = .bool true := (hin 16 139 rfl (hp ⟨16, .data⟩ (by simp) rfl)).trans (hF 16 (hp ⟨16, .data⟩ (by simp) rfl))
              have e140 : a.tmps.getD 140 undef = .bool false := (hin 17 140 rfl (hp ⟨17, .data⟩ (by simp) rfl)).trans (hF 17 (hp ⟨17, .data⟩ (by simp) rfl))
              refine Does.val (.bool true) (w' := w) ?_ ⟨Below.refl _ _, rfl, hG⟩
              simp only [Array.getD_eq_getD_getElem?] at e139 e140
              go_simp
            · intro listed σ w a hin hout hl hla hs hc hp hG hF
              refine Guarded.none rfl ?_
              have e134 : a.tmps.getD 134 undef = .bool true := (hin 11 134 rfl (hp ⟨11, .data⟩ (by simp) rfl)).trans (hF 11 (hp ⟨11, .data⟩ (by simp) rfl))
              have e141 : a.tmps.getD 141 undef = .bool true := (hin 18 141 rfl (hp ⟨18, .data⟩ (by simp) rfl)).trans (hF 18 (hp ⟨18, .data⟩ (by simp) rfl))
              refine Does.val (.bool true) (w' := w) ?_ ⟨Below.refl _ _, rfl, hG⟩
              simp only [Array.getD_eq_getD_getElem?] at e134 e141
              go_simp
            · intro listed σ w a hin hout hl hla hs hc hp hG hF
              refine Guarded.none rfl ?_
              have e142 : a.tmps.getD 142 undef = .bool true := (hin 19 142 rfl (hp ⟨19, .data⟩ (by simp) rfl)).trans (hF 19 (hp ⟨19, .data⟩ (by simp) rfl))
              refine Does.val (.bool true) (w' := w) ?_ ⟨Below.refl _ _, rfl, hG⟩
              simp only [Array.getD_eq_getD_getElem?] at e142
              go_simp
            · intro listed σ w a hin hout hl hla hs hc hp hG hF
              refine Guarded.some (d := 143) (b := true) rfl rfl ((hin 20 143 rfl (hp ⟨20, .guard⟩ (by simp) rfl)).trans (hF 20 (hp ⟨20, .guard⟩ (by simp) rfl))) ?_
              refine Or.inl ⟨rfl, ?_⟩
              have e4 : a.tmps.getD 4 undef = .pointer (some ⟨W.heap.size, 0, none⟩) := hout 4 (outB_spec (by kernel_rfl))
              have CC := SOF.out w hG; obtain ⟨C0, C1, C2, C3, C4, C5, C6, C7⟩ := CC
              refine Does.val (.agg #[.int .i64 kp, .int .i64 pp, .slice Ap np cp]) (w' := w) ?_ ⟨Below.refl _ _, rfl, hG⟩
              go_simp
            · intro listed σ w a hin hout hl hla hs hc hp hG hF
              refine Guarded.some (d := 143) (b := true) rfl rfl ((hin 20 143 rfl (hp ⟨20, .guard⟩ (by simp) rfl)).trans (hF 20 (hp ⟨20, .guard⟩ (by simp) rfl))) ?_
              refine Or.inl ⟨rfl, ?_⟩
              have e5 : a.tmps.getD 5 undef = .pointer (some ⟨W.heap.size + 1, 0, none⟩) := hout 5 (outB_spec (by kernel_rfl))
              have CC := SOF.out w hG; obtain ⟨C0, C1, C2, C3, C4, C5, C6, C7⟩ := CC
              refine Does.val (.agg #[.int .i64 kq, .int .i64 pq, .slice Aq nq cq]) (w' := w) ?_ ⟨Below.refl _ _, rfl, hG⟩
              go_simp
            · intro listed σ w a hin hout hl hla hs hc hp hG hF
              refine Guarded.some (d := 143) (b := true) rfl rfl ((hin 20 143 rfl (hp ⟨20, .guard⟩ (by simp) rfl)).trans (hF 20 (hp ⟨20, .guard⟩ (by simp) rfl))) ?_
              refine Or.inl ⟨rfl, ?_⟩
              have e144 : a.tmps.getD 144 undef = .agg #[.int .i64 kp, .int .i64 pp, .slice Ap np cp] := (hin 21 144 rfl (hp ⟨21, .data⟩ (by simp) rfl)).trans (hF 21 (hp ⟨21, .data⟩ (by simp) rfl))
              have e145 : a.tmps.getD 145 undef = .agg #[.int .i64 kq, .int .i64 pq, .slice Aq nq cq] := (hin 22 145 rfl (hp ⟨22, .data⟩ (by simp) rfl)).trans (hF 22 (hp ⟨22, .data⟩ (by simp) rfl))
              refine Does.call ?_ (ltwo_any Some_ 0 4 tp tq kp pp Ap np cp kq pq Aq nq cq w ((DP.out.keep (Keep.of_below (HBd.out.next hG))).sub (fun _ _ _ => .inl trivial)) ((DQ.out.keep (Keep.of_below (HBd.out.next hG))).sub (fun _ _ _ => .inl trivial)) (Nat.zero_le _)) ?_
              · go_simp
              · rintro e w' ⟨A, n, c, rfl, hd, hb⟩
                exact ⟨_, rfl, hb, ⟨A, n, c, rfl, hd.sub (fun b _ _ => trivial)⟩, hG.next hb⟩
            · intro listed σ w a hin hout hl hla hs hc hp hG hF
              refine Guarded.some (d := 143) (b := true) rfl rfl ((hin 20 143 rfl (hp ⟨20, .guard⟩ (by simp) rfl)).trans (hF 20 (hp ⟨20, .guard⟩ (by simp) rfl))) ?_
              refine Or.inl ⟨rfl, ?_⟩
              have e6 : a.tmps.getD 6 undef = .pointer (some ⟨W.heap.size + 1 + 1, 0, none⟩) := hout 6 (outB_spec (by kernel_rfl))
              have CC := SOF.out w hG; obtain ⟨C0, C1, C2, C3, C4, C5, C6, C7⟩ := CC
              refine Does.val (.agg #[.slice A1 L1.length c1, .slice A2 L2.length c2]) (w' := w) ?_ ⟨Below.refl _ _, rfl, hG⟩
              go_simp
            · intro listed σ w a hin hout hl hla hs hc hp hG hF
              refine Guarded.some (d := 143) (b := true) rfl rfl ((hin 20 143 rfl (hp ⟨20, .guard⟩ (by simp) rfl)).trans (hF 20 (hp ⟨20, .guard⟩ (by simp) rfl))) ?_
              refine Or.inl ⟨rfl, ?_⟩
              have e3 : a.tmps.getD 3 undef = .int .i64 (y : Int) := hout 3 (outB_spec (by kernel_rfl))
              refine Does.val (.int .i64 (y : Int)) (w' := w) ?_ ⟨Below.refl _ _, rfl, hG⟩
              simp only [Array.getD_eq_getD_getElem?] at e3
              go_simp
            · intro listed σ w a hin hout hl hla hs hc hp hG hF
              refine Guarded.some (d := 143) (b := true) rfl rfl ((hin 20 143 rfl (hp ⟨20, .guard⟩ (by simp) rfl)).trans (hF 20 (hp ⟨20, .guard⟩ (by simp) rfl))) ?_
              refine Or.inl ⟨rfl, ?_⟩
              have e146 := hin 23 146 rfl (hp ⟨23, .data⟩ (by simp) rfl)
              obtain ⟨Am23, nm23, cm23, ev23, hd23⟩ := hF 23 (hp ⟨23, .data⟩ (by simp) rfl)
              rw [ev23] at e146
              have e147 : a.tmps.getD 147 undef = .agg #[.slice A1 L1.length c1, .slice A2 L2.length c2] := (hin 24 147 rfl (hp ⟨24, .data⟩ (by simp) rfl)).trans (hF 24 (hp ⟨24, .data⟩ (by simp) rfl))
              have e148 : a.tmps.getD 148 undef = .int .i64 (y : Int) := (hin 25 148 rfl (hp ⟨25, .data⟩ (by simp) rfl)).trans (hF 25 (hp ⟨25, .data⟩ (by simp) rfl))
              refine Does.call ?_ (hv_call Some_ (.mk 4 0 [tp, tq]) 4 0 Am23 nm23 cm23 A1 c1 A2 c2 L1 L2 (y : Int) y false w hd23 (DW1.out.keep (Keep.of_below (HBd.out.next hG))) (DW2.out.keep (Keep.of_below (HBd.out.next hG))) HN0.out HN9.out (by omega) rfl (by rw [HV_and]; first | (rw [VA.out, VB.out]; rfl) | (rw [VA.out]; rfl) | exact VA1.out)) ?_
              · go_simp
              · rintro e w' ⟨rfl, hb⟩
                exact ⟨_, rfl, hb, rfl, hG.next hb⟩
            · intro listed σ w a hin hout hl hla hs hc hp hG hF
              refine Guarded.some (d := 143) (b := true) rfl rfl ((hin 20 143 rfl (hp ⟨20, .guard⟩ (by simp) rfl)).trans (hF 20 (hp ⟨20, .guard⟩ (by simp) rfl))) ?_
              refine Or.inl ⟨rfl, ?_⟩
              have e9 : a.tmps.getD 9 undef = .bool false := hout 9 (outB_spec (by kernel_rfl))
              refine Does.val (.bool false) (w' := w) ?_ ⟨Below.refl _ _, rfl, hG⟩
              simp only [Array.getD_eq_getD_getElem?] at e9
              go_simp
            · intro listed σ w a hin hout hl hla hs hc hp hG hF
              refine Guarded.some (d := 143) (b := true) rfl rfl ((hin 20 143 rfl (hp ⟨20, .guard⟩ (by simp) rfl)).trans (hF 20 (hp ⟨20, .guard⟩ (by simp) rfl))) ?_
              refine Or.inl ⟨rfl, ?_⟩
              have e150 : a.tmps.getD 150 undef = .bool false := (hin 27 150 rfl (hp ⟨27, .data⟩ (by simp) rfl)).trans (hF 27 (hp ⟨27, .data⟩ (by simp) rfl))
              refine Does.val (.bool false) (w' := w) ?_ ⟨Below.refl _ _, rfl, hG⟩
              simp only [Array.getD_eq_getD_getElem?] at e150
              go_simp
            · intro listed σ w a hin hout hl hla hs hc hp hG hF
              refine Guarded.some (d := 151) (b := false) rfl rfl ((hin 28 151 rfl (hp ⟨28, .guard⟩ (by simp) rfl)).trans (hF 28 (hp ⟨28, .guard⟩ (by simp) rfl))) ?_
              exact Or.inr ⟨(fun h => by cases h), Below.refl _ _, rfl, hG⟩
            · intro listed σ w a hin hout hl hla hs hc hp hG hF
              refine Guarded.some (d := 143) (b := true) rfl rfl ((hin 20 143 rfl (hp ⟨20, .guard⟩ (by simp) rfl)).trans (hF 20 (hp ⟨20, .guard⟩ (by simp) rfl))) ?_
              refine Or.inl ⟨rfl, ?_⟩
              have e151 : a.tmps.getD 151 undef = .bool false := (hin 28 151 rfl (hp ⟨28, .data⟩ (by simp) rfl)).trans (hF 28 (hp ⟨28, .data⟩ (by simp) rfl))
              have e152 : a.tmps.getD 152 undef = undef := (hin 29 152 rfl (hp ⟨29, .data⟩ (by simp) rfl)).trans (hF 29 (hp ⟨29, .data⟩ (by simp) rfl))
              refine Does.val (.bool false) (w' := w) ?_ ⟨Below.refl _ _, rfl, hG⟩
              simp only [Array.getD_eq_getD_getElem?] at e151 e152
              go_simp
            · intro listed σ w a hin hout hl hla hs hc hp hG hF
              refine Guarded.some (d := 143) (b := true) rfl rfl ((hin 20 143 rfl (hp ⟨20, .guard⟩ (by simp) rfl)).trans (hF 20 (hp ⟨20, .guard⟩ (by simp) rfl))) ?_
              refine Or.inl ⟨rfl, ?_⟩
              have e149 : a.tmps.getD 149 undef = .bool false := (hin 26 149 rfl (hp ⟨26, .data⟩ (by simp) rfl)).trans (hF 26 (hp ⟨26, .data⟩ (by simp) rfl))
              have e153 : a.tmps.getD 153 undef = .bool false := (hin 30 153 rfl (hp ⟨30, .data⟩ (by simp) rfl)).trans (hF 30 (hp ⟨30, .data⟩ (by simp) rfl))
              refine Does.val (.bool true) (w' := w) ?_ ⟨Below.refl _ _, rfl, hG⟩
              simp only [Array.getD_eq_getD_getElem?] at e149 e153
              go_simp
            · intro listed σ w a hin hout hl hla hs hc hp hG hF
              refine Guarded.none rfl ?_
              have e143 : a.tmps.getD 143 undef = .bool true := (hin 20 143 rfl (hp ⟨20, .data⟩ (by simp) rfl)).trans (hF 20 (hp ⟨20, .data⟩ (by simp) rfl))
              have e154 : a.tmps.getD 154 undef = .bool true := (hin 31 154 rfl (hp ⟨31, .data⟩ (by simp) rfl)).trans (hF 31 (hp ⟨31, .data⟩ (by simp) rfl))
              refine Does.val (.bool true) (w' := w) ?_ ⟨Below.refl _ _, rfl, hG⟩
              simp only [Array.getD_eq_getD_getElem?] at e143 e154
              go_simp
            · intro listed σ w a hin hout hl hla hs hc hp hG hF
              refine Guarded.none rfl ?_
              have e155 : a.tmps.getD 155 undef = .bool true := (hin 32 155 rfl (hp ⟨32, .data⟩ (by simp) rfl)).trans (hF 32 (hp ⟨32, .data⟩ (by simp) rfl))
              refine Does.val (.bool true) (w' := w) ?_ ⟨Below.refl _ _, rfl, hG⟩
              simp only [Array.getD_eq_getD_getElem?] at e155
              go_simp
            · intro listed σ w a hin hout hl hla hs hc hp hG hF
              refine Guarded.some (d := 156) (b := true) rfl rfl ((hin 33 156 rfl (hp ⟨33, .guard⟩ (by simp) rfl)).trans (hF 33 (hp ⟨33, .guard⟩ (by simp) rfl))) ?_
              refine Or.inl ⟨rfl, ?_⟩
              have e4 : a.tmps.getD 4 undef = .pointer (some ⟨W.heap.size, 0, none⟩) := hout 4 (outB_spec (by kernel_rfl))
              have CC := SOF.out w hG; obtain ⟨C0, C1, C2, C3, C4, C5, C6, C7⟩ := CC
              refine Does.val (.agg #[.int .i64 kp, .int .i64 pp, .slice Ap np cp]) (w' := w) ?_ ⟨Below.refl _ _, rfl, hG⟩
              go_simp
            · intro listed σ w a hin hout hl hla hs hc hp hG hF
              refine Guarded.some (d := 156) (b := true) rfl rfl ((hin 33 156 rfl (hp ⟨33, .guard⟩ (by simp) rfl)).trans (hF 33 (hp ⟨33, .guard⟩ (by simp) rfl))) ?_
              refine Or.inl ⟨rfl, ?_⟩
              have e5 : a.tmps.getD 5 undef = .pointer (some ⟨W.heap.size + 1, 0, none⟩) := hout 5 (outB_spec (by kernel_rfl))
              have CC := SOF.out w hG; obtain ⟨C0, C1, C2, C3, C4, C5, C6, C7⟩ := CC
              refine Does.val (.agg #[.int .i64 kq, .int .i64 pq, .slice Aq nq cq]) (w' := w) ?_ ⟨Below.refl _ _, rfl, hG⟩
              go_simp
            · intro listed σ w a hin hout hl hla hs hc hp hG hF
              refine Guarded.some (d := 156) (b := true) rfl rfl ((hin 33 156 rfl (hp ⟨33, .guard⟩ (by simp) rfl)).trans (hF 33 (hp ⟨33, .guard⟩ (by simp) rfl))) ?_
              refine Or.inl ⟨rfl, ?_⟩
              have e157 : a.tmps.getD 157 undef = .agg #[.int .i64 kp, .int .i64 pp, .slice Ap np cp] := (hin 34 157 rfl (hp ⟨34, .data⟩ (by simp) rfl)).trans (hF 34 (hp ⟨34, .data⟩ (by simp) rfl))
              have e158 : a.tmps.getD 158 undef = .agg #[.int .i64 kq, .int .i64 pq, .slice Aq nq cq] := (hin 35 158 rfl (hp ⟨35, .data⟩ (by simp) rfl)).trans (hF 35 (hp ⟨35, .data⟩ (by simp) rfl))
              refine Does.call ?_ (ltwo_any Some_ 0 5 tp tq kp pp Ap np cp kq pq Aq nq cq w ((DP.out.keep (Keep.of_below (HBd.out.next hG))).sub (fun _ _ _ => .inl trivial)) ((DQ.out.keep (Keep.of_below (HBd.out.next hG))).sub (fun _ _ _ => .inl trivial)) (Nat.zero_le _)) ?_
              · go_simp
              · rintro e w' ⟨A, n, c, rfl, hd, hb⟩
                exact ⟨_, rfl, hb, ⟨A, n, c, rfl, hd.sub (fun b _ _ => trivial)⟩, hG.next hb⟩
            · intro listed σ w a hin hout hl hla hs hc hp hG hF
              refine Guarded.some (d := 156) (b := true) rfl rfl ((hin 33 156 rfl (hp ⟨33, .guard⟩ (by simp) rfl)).trans (hF 33 (hp ⟨33, .guard⟩ (by simp) rfl))) ?_
              refine Or.inl ⟨rfl, ?_⟩
              have e6 : a.tmps.getD 6 undef = .pointer (some ⟨W.heap.size + 1 + 1, 0, none⟩) := hout 6 (outB_spec (by kernel_rfl))
              have CC := SOF.out w hG; obtain ⟨C0, C1, C2, C3, C4, C5, C6, C7⟩ := CC
              refine Does.val (.agg #[.slice A1 L1.length c1, .slice A2 L2.length c2]) (w' := w) ?_ ⟨Below.refl _ _, rfl, hG⟩
              go_simp
            · intro listed σ w a hin hout hl hla hs hc hp hG hF
              refine Guarded.some (d := 156) (b := true) rfl rfl ((hin 33 156 rfl (hp ⟨33, .guard⟩ (by simp) rfl)).trans (hF 33 (hp ⟨33, .guard⟩ (by simp) rfl))) ?_
              refine Or.inl ⟨rfl, ?_⟩
              have e3 : a.tmps.getD 3 undef = .int .i64 (y : Int) := hout 3 (outB_spec (by kernel_rfl))
              refine Does.val (.int .i64 (y : Int)) (w' := w) ?_ ⟨Below.refl _ _, rfl, hG⟩
              simp only [Array.getD_eq_getD_getElem?] at e3
              go_simp
            · intro listed σ w a hin hout hl hla hs hc hp hG hF
              refine Guarded.some (d := 156) (b := true) rfl rfl ((hin 33 156 rfl (hp ⟨33, .guard⟩ (by simp) rfl)).trans (hF 33 (hp ⟨33, .guard⟩ (by simp) rfl))) ?_
              refine Or.inl ⟨rfl, ?_⟩
              have e159 := hin 36 159 rfl (hp ⟨36, .data⟩ (by simp) rfl)
              obtain ⟨Am36, nm36, cm36, ev36, hd36⟩ := hF 36 (hp ⟨36, .data⟩ (by simp) rfl)
              rw [ev36] at e159
              have e160 : a.tmps.getD 160 undef = .agg #[.slice A1 L1.length c1, .slice A2 L2.length c2] := (hin 37 160 rfl (hp ⟨37, .data⟩ (by simp) rfl)).trans (hF 37 (hp ⟨37, .data⟩ (by simp) rfl))
              have e161 : a.tmps.getD 161 undef = .int .i64 (y : Int) := (hin 38 161 rfl (hp ⟨38, .data⟩ (by simp) rfl)).trans (hF 38 (hp ⟨38, .data⟩ (by simp) rfl))
              refine Does.call ?_ (hv_call Some_ (.mk 5 0 [tp, tq]) 5 0 Am36 nm36 cm36 A1 c1 A2 c2 L1 L2 (y : Int) y false w hd36 (DW1.out.keep (Keep.of_below (HBd.out.next hG))) (DW2.out.keep (Keep.of_below (HBd.out.next hG))) HN0.out HN9.out (by omega) rfl (by rw [HV_or]; first | (rw [VA.out, VB.out]; rfl) | (rw [VA.out]; rfl) | exact VA1.out)) ?_
              · go_simp
              · rintro e w' ⟨rfl, hb⟩
                exact ⟨_, rfl, hb, rfl, hG.next hb⟩
            · intro listed σ w a hin hout hl hla hs hc hp hG hF
              refine Guarded.some (d := 156) (b := true) rfl rfl ((hin 33 156 rfl (hp ⟨33, .guard⟩ (by simp) rfl)).trans (hF 33 (hp ⟨33, .guard⟩ (by simp) rfl))) ?_
              refine Or.inl ⟨rfl, ?_⟩
              have e9 : a.tmps.getD 9 undef = .bool false := hout 9 (outB_spec (by kernel_rfl))
              refine Does.val (.bool false) (w' := w) ?_ ⟨Below.refl _ _, rfl, hG⟩
              simp only [Array.getD_eq_getD_getElem?] at e9
              go_simp
            · intro listed σ w a hin hout hl hla hs hc hp hG hF
              refine Guarded.some (d := 156) (b := true) rfl rfl ((hin 33 156 rfl (hp ⟨33, .guard⟩ (by simp) rfl)).trans (hF 33 (hp ⟨33, .guard⟩ (by simp) rfl))) ?_
              refine Or.inl ⟨rfl, ?_⟩
              have e163 : a.tmps.getD 163 undef = .bool false := (hin 40 163 rfl (hp ⟨40, .data⟩ (by simp) rfl)).trans (hF 40 (hp ⟨40, .data⟩ (by simp) rfl))
              refine Does.val (.bool false) (w' := w) ?_ ⟨Below.refl _ _, rfl, hG⟩
              simp only [Array.getD_eq_getD_getElem?] at e163
              go_simp
            · intro listed σ w a hin hout hl hla hs hc hp hG hF
              refine Guarded.some (d := 164) (b := false) rfl rfl ((hin 41 164 rfl (hp ⟨41, .guard⟩ (by simp) rfl)).trans (hF 41 (hp ⟨41, .guard⟩ (by simp) rfl))) ?_
              refine Or.inl ⟨rfl, ?_⟩
              have e10 : a.tmps.getD 10 undef = .bool false := hout 10 (outB_spec (by kernel_rfl))
              refine Does.val (.bool false) (w' := w) ?_ ⟨Below.refl _ _, rfl, hG⟩
              simp only [Array.getD_eq_getD_getElem?] at e10
              go_simp
            · intro listed σ w a hin hout hl hla hs hc hp hG hF
              refine Guarded.some (d := 156) (b := true) rfl rfl ((hin 33 156 rfl (hp ⟨33, .guard⟩ (by simp) rfl)).trans (hF 33 (hp ⟨33, .guard⟩ (by simp) rfl))) ?_
              refine Or.inl ⟨rfl, ?_⟩
              have e164 : a.tmps.getD 164 undef = .bool false := (hin 41 164 rfl (hp ⟨41, .data⟩ (by simp) rfl)).trans (hF 41 (hp ⟨41, .data⟩ (by simp) rfl))
              have e165 : a.tmps.getD 165 undef = .bool false := (hin 42 165 rfl (hp ⟨42, .data⟩ (by simp) rfl)).trans (hF 42 (hp ⟨42, .data⟩ (by simp) rfl))
              refine Does.val (.bool false) (w' := w) ?_ ⟨Below.refl _ _, rfl, hG⟩
              simp only [Array.getD_eq_getD_getElem?] at e164 e165
              go_simp
            · intro listed σ w a hin hout hl hla hs hc hp hG hF
              refine Guarded.some (d := 156) (b := true) rfl rfl ((hin 33 156 rfl (hp ⟨33, .guard⟩ (by simp) rfl)).trans (hF 33 (hp ⟨33, .guard⟩ (by simp) rfl))) ?_
              refine Or.inl ⟨rfl, ?_⟩
              have e162 : a.tmps.getD 162 undef = .bool false := (hin 39 162 rfl (hp ⟨39, .data⟩ (by simp) rfl)).trans (hF 39 (hp ⟨39, .data⟩ (by simp) rfl))
              have e166 : a.tmps.getD 166 undef = .bool false := (hin 43 166 rfl (hp ⟨43, .data⟩ (by simp) rfl)).trans (hF 43 (hp ⟨43, .data⟩ (by simp) rfl))
              refine Does.val (.bool true) (w' := w) ?_ ⟨Below.refl _ _, rfl, hG⟩
              simp only [Array.getD_eq_getD_getElem?] at e162 e166
              go_simp
            · intro listed σ w a hin hout hl hla hs hc hp hG hF
              refine Guarded.none rfl ?_
              have e156 : a.tmps.getD 156 undef = .bool true := (hin 33 156 rfl (hp ⟨33, .data⟩ (by simp) rfl)).trans (hF 33 (hp ⟨33, .data⟩ (by simp) rfl))
              have e167 : a.tmps.getD 167 undef = .bool true := (hin 44 167 rfl (hp ⟨44, .data⟩ (by simp) rfl)).trans (hF 44 (hp ⟨44, .data⟩ (by simp) rfl))
              refine Does.val (.bool true) (w' := w) ?_ ⟨Below.refl _ _, rfl, hG⟩
              simp only [Array.getD_eq_getD_getElem?] at e156 e167
              go_simp
            · intro listed σ w a hin hout hl hla hs hc hp hG hF
              refine Guarded.none rfl ?_
              have e168 : a.tmps.getD 168 undef = .bool true := (hin 45 168 rfl (hp ⟨45, .data⟩ (by simp) rfl)).trans (hF 45 (hp ⟨45, .data⟩ (by simp) rfl))
              refine Does.val (.bool true) (w' := w) ?_ ⟨Below.refl _ _, rfl, hG⟩
              simp only [Array.getD_eq_getD_getElem?] at e168
              go_simp
            · intro listed σ w a hin hout hl hla hs hc hp hG hF
              refine Guarded.some (d := 169) (b := true) rfl rfl ((hin 46 169 rfl (hp ⟨46, .guard⟩ (by simp) rfl)).trans (hF 46 (hp ⟨46, .guard⟩ (by simp) rfl))) ?_
              refine Or.inl ⟨rfl, ?_⟩
              have e4 : a.tmps.getD 4 undef = .pointer (some ⟨W.heap.size, 0, none⟩) := hout 4 (outB_spec (by kernel_rfl))
              have CC := SOF.out w hG; obtain ⟨C0, C1, C2, C3, C4, C5, C6, C7⟩ := CC
              refine Does.val (.agg #[.int .i64 kp, .int .i64 pp, .slice Ap np cp]) (w' := w) ?_ ⟨Below.refl _ _, rfl, hG⟩
              go_simp
            · intro listed σ w a hin hout hl hla hs hc hp hG hF
              refine Guarded.some (d := 169) (b := true) rfl rfl ((hin 46 169 rfl (hp ⟨46, .guard⟩ (by simp) rfl)).trans (hF 46 (hp ⟨46, .guard⟩ (by simp) rfl))) ?_
              refine Or.inl ⟨rfl, ?_⟩
              have e5 : a.tmps.getD 5 undef = .pointer (some ⟨W.heap.size + 1, 0, none⟩) := hout 5 (outB_spec (by kernel_rfl))
              have CC := SOF.out w hG; obtain ⟨C0, C1, C2, C3, C4, C5, C6, C7⟩ := CC
              refine Does.val (.agg #[.int .i64 kq, .int .i64 pq, .slice Aq nq cq]) (w' := w) ?_ ⟨Below.refl _ _, rfl, hG⟩
              go_simp
            · intro listed σ w a hin hout hl hla hs hc hp hG hF
              refine Guarded.some (d := 169) (b := true) rfl rfl ((hin 46 169 rfl (hp ⟨46, .guard⟩ (by simp) rfl)).trans (hF 46 (hp ⟨46, .guard⟩ (by simp) rfl))) ?_
              refine Or.inl ⟨rfl, ?_⟩
              have e170 : a.tmps.getD 170 undef = .agg #[.int .i64 kp, .int .i64 pp, .slice Ap np cp] := (hin 47 170 rfl (hp ⟨47, .data⟩ (by simp) rfl)).trans (hF 47 (hp ⟨47, .data⟩ (by simp) rfl))
              have e171 : a.tmps.getD 171 undef = .agg #[.int .i64 kq, .int .i64 pq, .slice Aq nq cq] := (hin 48 171 rfl (hp ⟨48, .data⟩ (by simp) rfl)).trans (hF 48 (hp ⟨48, .data⟩ (by simp) rfl))
              refine Does.call ?_ (ltwo_any Some_ 0 7 tp tq kp pp Ap np cp kq pq Aq nq cq w ((DP.out.keep (Keep.of_below (HBd.out.next hG))).sub (fun _ _ _ => .inl trivial)) ((DQ.out.keep (Keep.of_below (HBd.out.next hG))).sub (fun _ _ _ => .inl trivial)) (Nat.zero_le _)) ?_
              · go_simp
              · rintro e w' ⟨A, n, c, rfl, hd, hb⟩
                exact ⟨_, rfl, hb, ⟨A, n, c, rfl, hd.sub (fun b _ _ => trivial)⟩, hG.next hb⟩
            · intro listed σ w a hin hout hl hla hs hc hp hG hF
              refine Guarded.some (d := 169) (b := true) rfl rfl ((hin 46 169 rfl (hp ⟨46, .guard⟩ (by simp) rfl)).trans (hF 46 (hp ⟨46, .guard⟩ (by simp) rfl))) ?_
              refine Or.inl ⟨rfl, ?_⟩
              have e6 : a.tmps.getD 6 undef = .pointer (some ⟨W.heap.size + 1 + 1, 0, none⟩) := hout 6 (outB_spec (by kernel_rfl))
              have CC := SOF.out w hG; obtain ⟨C0, C1, C2, C3, C4, C5, C6, C7⟩ := CC
              refine Does.val (.agg #[.slice A1 L1.length c1, .slice A2 L2.length c2]) (w' := w) ?_ ⟨Below.refl _ _, rfl, hG⟩
              go_simp
            · intro listed σ w a hin hout hl hla hs hc hp hG hF
              refine Guarded.some (d := 169) (b := true) rfl rfl ((hin 46 169 rfl (hp ⟨46, .guard⟩ (by simp) rfl)).trans (hF 46 (hp ⟨46, .guard⟩ (by simp) rfl))) ?_
              refine Or.inl ⟨rfl, ?_⟩
              have e3 : a.tmps.getD 3 undef = .int .i64 (y : Int) := hout 3 (outB_spec (by kernel_rfl))
              refine Does.val (.int .i64 (y : Int)) (w' := w) ?_ ⟨Below.refl _ _, rfl, hG⟩
              simp only [Array.getD_eq_getD_getElem?] at e3
              go_simp
            · intro listed σ w a hin hout hl hla hs hc hp hG hF
              refine Guarded.some (d := 169) (b := true) rfl rfl ((hin 46 169 rfl (hp ⟨46, .guard⟩ (by simp) rfl)).trans (hF 46 (hp ⟨46, .guard⟩ (by simp) rfl))) ?_
              refine Or.inl ⟨rfl, ?_⟩
              have e172 := hin 49 172 rfl (hp ⟨49, .data⟩ (by simp) rfl)
              obtain ⟨Am49, nm49, cm49, ev49, hd49⟩ := hF 49 (hp ⟨49, .data⟩ (by simp) rfl)
              rw [ev49] at e172
              have e173 : a.tmps.getD 173 undef = .agg #[.slice A1 L1.length c1, .slice A2 L2.length c2] := (hin 50 173 rfl (hp ⟨50, .data⟩ (by simp) rfl)).trans (hF 50 (hp ⟨50, .data⟩ (by simp) rfl))
              have e174 : a.tmps.getD 174 undef = .int .i64 (y : Int) := (hin 51 174 rfl (hp ⟨51, .data⟩ (by simp) rfl)).trans (hF 51 (hp ⟨51, .data⟩ (by simp) rfl))
              refine Does.call ?_ (hv_call Some_ (.mk 7 0 [tp, tq]) 7 0 Am49 nm49 cm49 A1 c1 A2 c2 L1 L2 (y : Int) y true w hd49 (DW1.out.keep (Keep.of_below (HBd.out.next hG))) (DW2.out.keep (Keep.of_below (HBd.out.next hG))) HN0.out HN9.out (by omega) rfl (by rw [HV_imp]; first | (rw [VA.out, VB.out]; rfl) | (rw [VA.out]; rfl) | exact VA1.out)) ?_
              · go_simp
              · rintro e w' ⟨rfl, hb⟩
                exact ⟨_, rfl, hb, rfl, hG.next hb⟩
            · intro listed σ w a hin hout hl hla hs hc hp hG hF
              refine Guarded.some (d := 169) (b := true) rfl rfl ((hin 46 169 rfl (hp ⟨46, .guard⟩ (by simp) rfl)).trans (hF 46 (hp ⟨46, .guard⟩ (by simp) rfl))) ?_
              refine Or.inl ⟨rfl, ?_⟩
              have e9 : a.tmps.getD 9 undef = .bool false := hout 9 (outB_spec (by kernel_rfl))
              refine Does.val (.bool false) (w' := w) ?_ ⟨Below.refl _ _, rfl, hG⟩
              simp only [Array.getD_eq_getD_getElem?] at e9
              go_simp
            · intro listed σ w a hin hout hl hla hs hc hp hG hF
              refine Guarded.some (d := 169) (b := true) rfl rfl ((hin 46 169 rfl (hp ⟨46, .guard⟩ (by simp) rfl)).trans (hF 46 (hp ⟨46, .guard⟩ (by simp) rfl))) ?_
              refine Or.inl ⟨rfl, ?_⟩
              have e176 : a.tmps.getD 176 undef = .bool false := (hin 53 176 rfl (hp ⟨53, .data⟩ (by simp) rfl)).trans (hF 53 (hp ⟨53, .data⟩ (by simp) rfl))
              refine Does.val (.bool true) (w' := w) ?_ ⟨Below.refl _ _, rfl, hG⟩
              simp only [Array.getD_eq_getD_getElem?] at e176
              go_simp
            · intro listed σ w a hin hout hl hla hs hc hp hG hF
              refine Guarded.some (d := 169) (b := true) rfl rfl ((hin 46 169 rfl (hp ⟨46, .guard⟩ (by simp) rfl)).trans (hF 46 (hp ⟨46, .guard⟩ (by simp) rfl))) ?_
              refine Or.inl ⟨rfl, ?_⟩
              have e177 : a.tmps.getD 177 undef = .bool true := (hin 54 177 rfl (hp ⟨54, .data⟩ (by simp) rfl)).trans (hF 54 (hp ⟨54, .data⟩ (by simp) rfl))
              refine Does.val (.bool true) (w' := w) ?_ ⟨Below.refl _ _, rfl, hG⟩
              simp only [Array.getD_eq_getD_getElem?] at e177
              go_simp
            · intro listed σ w a hin hout hl hla hs hc hp hG hF
              refine Guarded.some (d := 178) (b := true) rfl rfl ((hin 55 178 rfl (hp ⟨55, .guard⟩ (by simp) rfl)).trans (hF 55 (hp ⟨55, .guard⟩ (by simp) rfl))) ?_
              exact Or.inr ⟨(fun h => by cases h), Below.refl _ _, rfl, hG⟩
            · intro listed σ w a hin hout hl hla hs hc hp hG hF
              refine Guarded.some (d := 169) (b := true) rfl rfl ((hin 46 169 rfl (hp ⟨46, .guard⟩ (by simp) rfl)).trans (hF 46 (hp ⟨46, .guard⟩ (by simp) rfl))) ?_
              refine Or.inl ⟨rfl, ?_⟩
              have e178 : a.tmps.getD 178 undef = .bool true := (hin 55 178 rfl (hp ⟨55, .data⟩ (by simp) rfl)).trans (hF 55 (hp ⟨55, .data⟩ (by simp) rfl))
              have e179 : a.tmps.getD 179 undef = undef := (hin 56 179 rfl (hp ⟨56, .data⟩ (by simp) rfl)).trans (hF 56 (hp ⟨56, .data⟩ (by simp) rfl))
              refine Does.val (.bool true) (w' := w) ?_ ⟨Below.refl _ _, rfl, hG⟩
              simp only [Array.getD_eq_getD_getElem?] at e178 e179
              go_simp
            · intro listed σ w a hin hout hl hla hs hc hp hG hF
              refine Guarded.some (d := 169) (b := true) rfl rfl ((hin 46 169 rfl (hp ⟨46, .guard⟩ (by simp) rfl)).trans (hF 46 (hp ⟨46, .guard⟩ (by simp) rfl))) ?_
              refine Or.inl ⟨rfl, ?_⟩
              have e175 : a.tmps.getD 175 undef = .bool true := (hin 52 175 rfl (hp ⟨52, .data⟩ (by simp) rfl)).trans (hF 52 (hp ⟨52, .data⟩ (by simp) rfl))
              have e180 : a.tmps.getD 180 undef = .bool true := (hin 57 180 rfl (hp ⟨57, .data⟩ (by simp) rfl)).trans (hF 57 (hp ⟨57, .data⟩ (by simp) rfl))
              refine Does.val (.bool true) (w' := w) ?_ ⟨Below.refl _ _, rfl, hG⟩
              simp only [Array.getD_eq_getD_getElem?] at e175 e180
              go_simp
            · intro listed σ w a hin hout hl hla hs hc hp hG hF
              refine Guarded.none rfl ?_
              have e169 : a.tmps.getD 169 undef = .bool true := (hin 46 169 rfl (hp ⟨46, .data⟩ (by simp) rfl)).trans (hF 46 (hp ⟨46, .data⟩ (by simp) rfl))
              have e181 : a.tmps.getD 181 undef = .bool true := (hin 58 181 rfl (hp ⟨58, .data⟩ (by simp) rfl)).trans (hF 58 (hp ⟨58, .data⟩ (by simp) rfl))
              refine Does.val (.bool true) (w' := w) ?_ ⟨Below.refl _ _, rfl, hG⟩
              simp only [Array.getD_eq_getD_getElem?] at e169 e181
              go_simp
          · intro o ho
            injection ho with ho; subst ho
            intro listed σ w a hall hin hout hG hF
            refine Guarded.none rfl ?_
            have e182 : a.tmps.getD 182 undef = .bool true := (hin 59 182 rfl (by decide)).trans (hF 59 (by decide))
            refine Does.val (.bool true) (w' := w) (by simp only [Array.getD_eq_getD_getElem?] at *; go_simp) ?_
            rw [show fin _ σ (.bool true) _ = (Act.put (Act.put (Act.put (Act.put (Act.put (Act.put (Act.put (Act.put (Act.put (Act.put (Act.put (Act.put (Act.put (Act.put (Act.put (Act.put (Act.put (Act.put (Act.put (Act.put (Act.put (Act.put (Act.put (Act.put (Act.put (Act.put (Act.put (Act.put (Act.put (Act.put (Act.put (Act.put (Act.put (Act.put (Act.put (Act.put (Act.put (Act.put (Act.put (Act.put (Act.put (Act.put (Act.put (Act.put (Act.put (Act.put (Act.put (Act.put (Act.put (Act.put (Act.put (Act.put (Act.put (Act.put (Act.put (Act.put (Act.put (Act.put (Act.put (Act.put (Act.put _ (some 123) (σ 0)) (some 124) (σ 1)) (some 125) (σ 2)) (some 126) (σ 3)) (some 127) (σ 4)) (some 128) (σ 5)) (some 129) (σ 6)) (some 130) (σ 7)) (some 131) (σ 8)) (some 132) (σ 9)) (some 133) (σ 10)) (some 134) (σ 11)) (some 135) (σ 12)) (some 136) (σ 13)) (some 137) (σ 14)) (some 138) (σ 15)) (some 139) (σ 16)) (some 140) (σ 17)) (some 141) (σ 18)) (some 142) (σ 19)) (some 143) (σ 20)) (some 144) (σ 21)) (some 145) (σ 22)) (some 146) (σ 23)) (some 147) (σ 24)) (some 148) (σ 25)) (some 149) (σ 26)) (some 150) (σ 27)) (some 151) (σ 28)) (some 152) (σ 29)) (some 153) (σ 30)) (some 154) (σ 31)) (some 155) (σ 32)) (some 156) (σ 33)) (some 157) (σ 34)) (some 158) (σ 35)) (some 159) (σ 36)) (some 160) (σ 37)) (some 161) (σ 38)) (some 162) (σ 39)) (some 163) (σ 40)) (some 164) (σ 41)) (some 165) (σ 42)) (some 166) (σ 43)) (some 167) (σ 44)) (some 168) (σ 45)) (some 169) (σ 46)) (some 170) (σ 47)) (some 171) (σ 48)) (some 172) (σ 49)) (some 173) (σ 50)) (some 174) (σ 51)) (some 175) (σ 52)) (some 176) (σ 53)) (some 177) (σ 54)) (some 178) (σ 55)) (some 179) (σ 56)) (some 180) (σ 57)) (some 181) (σ 58)) (some 182) (σ 59)) (some 8) (.bool true)) from (fin_all hall).trans rfl]
            simp only [Act.put, List.setIfInBounds_toArray, List.set_cons_zero, List.set_cons_succ]
            have HB9 := hide (HBd.out.next hG)
            generalize σ 0 = tt0 at *; generalize σ 1 = tt1 at *; generalize σ 2 = tt2 at *; generalize σ 3 = tt3 at *; generalize σ 4 = tt4 at *; generalize σ 5 = tt5 at *; generalize σ 6 = tt6 at *; generalize σ 7 = tt7 at *; generalize σ 8 = tt8 at *; generalize σ 9 = tt9 at *; generalize σ 10 = tt10 at *; generalize σ 11 = tt11 at *; generalize σ 12 = tt12 at *; generalize σ 13 = tt13 at *; generalize σ 14 = tt14 at *; generalize σ 15 = tt15 at *; generalize σ 16 = tt16 at *; generalize σ 17 = tt17 at *; generalize σ 18 = tt18 at *; generalize σ 19 = tt19 at *; generalize σ 20 = tt20 at *; generalize σ 21 = tt21 at *; generalize σ 22 = tt22 at *; generalize σ 23 = tt23 at *; generalize σ 24 = tt24 at *; generalize σ 25 = tt25 at *; generalize σ 26 = tt26 at *; generalize σ 27 = tt27 at *; generalize σ 28 = tt28 at *; generalize σ 29 = tt29 at *; generalize σ 30 = tt30 at *; generalize σ 31 = tt31 at *; generalize σ 32 = tt32 at *; generalize σ 33 = tt33 at *; generalize σ 34 = tt34 at *; generalize σ 35 = tt35 at *; generalize σ 36 = tt36 at *; generalize σ 37 = tt37 at *; generalize σ 38 = tt38 at *; generalize σ 39 = tt39 at *; generalize σ 40 = tt40 at *; generalize σ 41 = tt41 at *; generalize σ 42 = tt42 at *; generalize σ 43 = tt43 at *; generalize σ 44 = tt44 at *; generalize σ 45 = tt45 at *; generalize σ 46 = tt46 at *; generalize σ 47 = tt47 at *; generalize σ 48 = tt48 at *; generalize σ 49 = tt49 at *; generalize σ 50 = tt50 at *; generalize σ 51 = tt51 at *; generalize σ 52 = tt52 at *; generalize σ 53 = tt53 at *; generalize σ 54 = tt54 at *; generalize σ 55 = tt55 at *; generalize σ 56 = tt56 at *; generalize σ 57 = tt57 at *; generalize σ 58 = tt58 at *; generalize σ 59 = tt59 at *
            clear hF hG hall hin hout SOF
            go_wp2_with fail
            go_ret
            exact HY.out _ HB9.out
        · have eu : ru = ru1 := by have := EU.out; simpa using this
          have ef : rf = false := by have := EF.out; simpa using this
          have eg : rg = rg1 := by have := EG.out; simpa using this
          have es : rs = true := by have := ES.out; simpa using this
          subst eu ef eg es
          clear EU EF EG ES
          have w0 := (X6.out.next (Below.refl _ _)).cell 0 _ rfl
          have w1 := (X6.out.next (Below.refl _ _)).cell 1 _ rfl
          have u0 := (XU.out.next (Below.refl _ _)).cell 0 _ rfl
          have u1 := (XU.out.next (Below.refl _ _)).cell 1 _ rfl
          have u2 := (XU.out.next (Below.refl _ _)).cell 2 _ rfl
          go_wp2_with fail
          refine (CU.out _ (Below.refl _ _)).mono ?_
          rintro e wk1 ⟨rfl, bk⟩
          have HK1 := hide (Below.next (Below.refl _ _) bk)
          clear bk w0 w1 u0 u1 u2
          have w0 := (X6.out.next HK1.out).cell 0 _ rfl
          have w1 := (X6.out.next HK1.out).cell 1 _ rfl
          have u0 := (XU.out.next HK1.out).cell 0 _ rfl
          have u1 := (XU.out.next HK1.out).cell 1 _ rfl
          have u2 := (XU.out.next HK1.out).cell 2 _ rfl
          go_wp2_with fail
          refine (CU1.out _ HK1.out).mono ?_
          rintro e wk2 ⟨rfl, bk⟩
          have HK2 := hide (Below.next HK1.out bk)
          clear bk w0 w1 u0 u1 u2
          have w0 := (X6.out.next HK2.out).cell 0 _ rfl
          have w1 := (X6.out.next HK2.out).cell 1 _ rfl
          have f0 := (XF.out.next HK2.out).cell 0 _ rfl
          have f1 := (XF.out.next HK2.out).cell 1 _ rfl
          have f2 := (XF.out.next HK2.out).cell 2 _ rfl
          go_wp2_with fail
          refine (CF.out _ HK2.out).mono ?_
          rintro e wk3 ⟨rfl, bk⟩
          have HK3 := hide (Below.next HK2.out bk)
          clear bk w0 w1 f0 f1 f2
          have w0 := (X6.out.next HK3.out).cell 0 _ rfl
          have w1 := (X6.out.next HK3.out).cell 1 _ rfl
          have g0 := (XG.out.next HK3.out).cell 0 _ rfl
          have g1 := (XG.out.next HK3.out).cell 1 _ rfl
          have g2 := (XG.out.next HK3.out).cell 2 _ rfl
          go_wp2_with fail
          refine (CG.out _ HK3.out).mono ?_
          rintro e wk4 ⟨rfl, bk⟩
          have HK4 := hide (Below.next HK3.out bk)
          clear bk w0 w1 g0 g1 g2
          have w0 := (X6.out.next HK4.out).cell 0 _ rfl
          have w1 := (X6.out.next HK4.out).cell 1 _ rfl
          have g0 := (XG.out.next HK4.out).cell 0 _ rfl
          have g1 := (XG.out.next HK4.out).cell 1 _ rfl
          have g2 := (XG.out.next HK4.out).cell 2 _ rfl
          go_wp2_with fail
          refine (CG1.out _ HK4.out).mono ?_
          rintro e wk5 ⟨rfl, bk⟩
          have HK5 := hide (Below.next HK4.out bk)
          clear bk w0 w1 g0 g1 g2
          have w0 := (X6.out.next HK5.out).cell 0 _ rfl
          have w1 := (X6.out.next HK5.out).cell 1 _ rfl
          have s0 := (XS.out.next HK5.out).cell 0 _ rfl
          have s1 := (XS.out.next HK5.out).cell 1 _ rfl
          have s2 := (XS.out.next HK5.out).cell 2 _ rfl
          go_wp2_with fail
          refine (CS.out _ HK5.out).mono ?_
          rintro e wk6 ⟨rfl, bk⟩
          have HK6 := hide (Below.next HK5.out bk)
          clear bk w0 w1 s0 s1 s2
          go_upto_region 15 with fail
          have HBd := hide (Below.next HBc.out HK6.out)
          have X4 := hide (X4.out.next HK6.out)
          have X5 := hide (X5.out.next HK6.out)
          have X6 := hide (X6.out.next HK6.out)
          have SOF := hide (fun w (h : Below wk6.heap.size wk6 w) => (⟨(X4.out.next h).cell 0 _ rfl, (X4.out.next h).cell 1 _ rfl, (X4.out.next h).cell 2 _ rfl, (X5.out.next h).cell 0 _ rfl, (X5.out.next h).cell 1 _ rfl, (X5.out.next h).cell 2 _ rfl, (X6.out.next h).cell 0 _ rfl, (X6.out.next h).cell 1 _ rfl⟩ : _ ∧ _ ∧ _ ∧ _ ∧ _ ∧ _ ∧ _ ∧ _))
          refine wp_drawnL (by kernel_rfl) (by kernel_rfl) (by kernel_rfl) (by kernel_rfl) (fun w w' => Below w.heap.size w w') (fun j v w => match j with | 0 => v = .agg #[.int .i64 kp, .int .i64 pp, .slice Ap np cp] | 1 => ∃ A n c, v = .agg #[.int .i64 8, .int .i64 0, .slice A n c] ∧ DIn Some_ w (.mk 8 0 [tp]) (c3 8 0 A n c) | 2 => v = .agg #[.slice A1 L1.length c1, .slice A2 L2.length c2] | 3 => v = .int .i64 (y : Int) | 4 => v = .bool ra1 | 5 => v = .agg #[.int .i64 kp, .int .i64 pp, .slice Ap np cp] | 6 => v = .agg #[.slice A1 L1.length c1, .slice A2 L2.length c2] | 7 => v = .int .i64 (y : Int) | 8 => v = .int .i64 ((y : Int) + 1) | 9 => v = .bool ra1 | 10 => v = .bool true | 11 => v = .bool true | 12 => v = .agg #[.int .i64 kp, .int .i64 pp, .slice Ap np cp] | 13 => ∃ A n c, v = .agg #[.int .i64 3, .int .i64 0, .slice A n c] ∧ DIn Some_ w (.mk 3 0 [tp]) (c3 3 0 A n c) | 14 => v = .agg #[.slice A1 L1.length c1, .slice A2 L2.length c2] | 15 => v = .int .i64 (y : Int) | 16 => v = .bool false | 17 => v = .bool true | 18 => v = .bool true | 19 => v = .bool true | 20 => v = .bool true | 21 => v = .agg #[.int .i64 kp, .int .i64 pp, .slice Ap np cp] | 22 => v = .agg #[.int .i64 kq, .int .i64 pq, .slice Aq nq cq] | 23 => ∃ A n c, v = .agg #[.int .i64 4, .int .i64 0, .slice A n c] ∧ DIn Some_ w (.mk 4 0 [tp, tq]) (c3 4 0 A n c) | 24 => v = .agg #[.slice A1 L1.length c1, .slice A2 L2.length c2] | 25 => v = .int .i64 (y : Int) | 26 => v = .bool false | 27 => v = .bool true | 28 => v = .bool true | 29 => v = .bool false | 30 => v = .bool false | 31 => v = .bool true | 32 => v = .bool true | 33 => v = .bool true | 34 => v = .agg #[.int .i64 kp, .int .i64 pp, .slice Ap np cp] | 35 => v = .agg #[.int .i64 kq, .int .i64 pq, .slice Aq nq cq] | 36 => ∃ A n c, v = .agg #[.int .i64 5, .int .i64 0, .slice A n c] ∧ DIn Some_ w (.mk 5 0 [tp, tq]) (c3 5 0 A n c) | 37 => v = .agg #[.slice A1 L1.length c1, .slice A2 L2.length c2] | 38 => v = .int .i64 (y : Int) | 39 => v = .bool true | 40 => v = .bool true | 41 => v = .bool true | 42 => v = undef | 43 => v = .bool true | 44 => v = .bool true | 45 => v = .bool true | 46 => v = .bool true | 47 => v = .agg #[.int .i64 kp, .int .i64 pp, .slice Ap np cp] | 48 => v = .agg #[.int .i64 kq, .int .i64 pq, .slice Aq nq cq] | 49 => ∃ A n c, v = .agg #[.int .i64 7, .int .i64 0, .slice A n c] ∧ DIn Some_ w (.mk 7 0 [tp, tq]) (c3 7 0 A n c) | 50 => v = .agg #[.slice A1 L1.length c1, .slice A2 L2.length c2] | 51 => v = .int .i64 (y : Int) | 52 => v = .bool false | 53 => v = .bool true | 54 => v = .bool false | 55 => v = .bool false | 56 => v = .bool false | 57 => v = .bool false | 58 => v = .bool true | 59 => v = .bool true | _ => True) (fun _ _ w => Below wk6.heap.size wk6 w) ?_ (fun _ => bl_drewN wk6 1) ?_ ?_
          · intro j v w w' hT h
            match j, h with
            | 0, h => exact h
            | 1, h => exact (by obtain ⟨A, n, c, e, h1⟩ := h; exact ⟨A, n, c, e, h1.keep (Keep.of_below hT)⟩)
            | 2, h => exact h
            | 3, h => exact h
            | 4, h => exact h
            | 5, h => exact h
            | 6, h => exact h
            | 7, h => exact h
            | 8, h => exact h
            | 9, h => exact h
            | 10, h => exact h
            | 11, h => exact h
            | 12, h => exact h
            | 13, h => exact (by obtain ⟨A, n, c, e, h1⟩ := h; exact ⟨A, n, c, e, h1.keep (Keep.of_below hT)⟩)
            | 14, h => exact h
            | 15, h => exact h
            | 16, h => exact h
            | 17, h => exact h
            | 18, h => exact h
            | 19, h => exact h
            | 20, h => exact h
            | 21, h => exact h
            | 22, h => exact h
            | 23, h => exact (by obtain ⟨A, n, c, e, h1⟩ := h; exact ⟨A, n, c, e, h1.keep (Keep.of_below hT)⟩)
            | 24, h => exact h
            | 25, h => exact h
            | 26, h => exact h
            | 27, h => exact h
            | 28, h => exact h
            | 29, h => exact h
            | 30, h => exact h
            | 31, h => exact h
            | 32, h => exact h
            | 33, h => exact h
            | 34, h => exact h
            | 35, h => exact h
            | 36, h => exact (by obtain ⟨A, n, c, e, h1⟩ := h; exact ⟨A, n, c, e, h1.keep (Keep.of_below hT)⟩)
            | 37, h => exact h
            | 38, h => exact h
            | 39, h => exact h
            | 40, h => exact h
            | 41, h => exact h
            | 42, h => exact h
            | 43, h => exact h
            | 44, h => exact h
            | 45, h => exact h
            | 46, h => exact h
            | 47, h => exact h
            | 48, h => exact h
            | 49, h => exact (by obtain ⟨A, n, c, e, h1⟩ := h; exact ⟨A, n, c, e, h1.keep (Keep.of_below hT)⟩)
            | 50, h => exact h
            | 51, h => exact h
            | 52, h => exact h
            | 53, h => exact h
            | 54, h => exact h
            | 55, h => exact h
            | 56, h => exact h
            | 57, h => exact h
            | 58, h => exact h
            | 59, h => exact h
            | j + 60, h => trivial
          · refine ⟨?_, ?_, ?_, ?_, ?_, ?_, ?_, ?_, ?_, ?_, ?_, ?_, ?_, ?_, ?_, ?_, ?_, ?_, ?_, ?_, ?_, ?_, ?_, ?_, ?_, ?_, ?_, ?_, ?_, ?_, ?_, ?_, ?_, ?_, ?_, ?_, ?_, ?_, ?_, ?_, ?_, ?_, ?_, ?_, ?_, ?_, ?_, ?_, ?_, ?_, ?_, ?_, ?_, ?_, ?_, ?_, ?_, ?_, ?_, ?_, trivial⟩
            · intro listed σ w a hin hout hl hla hs hc hp hG hF
              refine Guarded.none rfl ?_
              have e4 : a.tmps.getD 4 undef = .pointer (some ⟨W.heap.size, 0, none⟩) := hout 4 (outB_spec (by kernel_rfl))
              have CC := SOF.out w hG; obtain ⟨C0, C1, C2, C3, C4, C5, C6, C7⟩ := CC
              refine Does.val (.agg #[.int .i64 kp, .int .i64 pp, .slice Ap np cp]) (w' := w) ?_ ⟨Below.refl _ _, rfl, hG⟩
              go_simp
            · intro listed σ w a hin hout hl hla hs hc hp hG hF
              refine Guarded.none rfl ?_
              have e123 : a.tmps.getD 123 undef = .agg #[.int .i64 kp, .int .i64 pp, .slice Ap np cp] := (hin 0 123 rfl (hp ⟨0, .data⟩ (by simp) rfl)).trans (hF 0 (hp ⟨0, .data⟩ (by simp) rfl))
              refine Does.call ?_ (lone_any Some_ 0 8 tp kp pp Ap np cp w ((DP.out.keep (Keep.of_below (HBd.out.next hG))).sub (fun _ _ _ => .inl trivial)) (Nat.zero_le _)) ?_
              · go_simp
              · rintro e w' ⟨A, n, c, rfl, hd, hb⟩
                exact ⟨_, rfl, hb, ⟨A, n, c, rfl, hd.sub (fun b _ _ => trivial)⟩, hG.next hb⟩
            · intro listed σ w a hin hout hl hla hs hc hp hG hF
              refine Guarded.none rfl ?_
              have e6 : a.tmps.getD 6 undef = .pointer (some ⟨W.heap.size + 1 + 1, 0, none⟩) := hout 6 (outB_spec (by kernel_rfl))
              have CC := SOF.out w hG; obtain ⟨C0, C1, C2, C3, C4, C5, C6, C7⟩ := CC
              refine Does.val (.agg #[.slice A1 L1.length c1, .slice A2 L2.length c2]) (w' := w) ?_ ⟨Below.refl _ _, rfl, hG⟩
              go_simp
            · intro listed σ w a hin hout hl hla hs hc hp hG hF
              refine Guarded.none rfl ?_
              have e3 : a.tmps.getD 3 undef = .int .i64 (y : Int) := hout 3 (outB_spec (by kernel_rfl))
              refine Does.val (.int .i64 (y : Int)) (w' := w) ?_ ⟨Below.refl _ _, rfl, hG⟩
              simp only [Array.getD_eq_getD_getElem?] at e3
              go_simp
            · intro listed σ w a hin hout hl hla hs hc hp hG hF
              refine Guarded.none rfl ?_
              have e124 := hin 1 124 rfl (hp ⟨1, .data⟩ (by simp) rfl)
              obtain ⟨Am1, nm1, cm1, ev1, hd1⟩ := hF 1 (hp ⟨1, .data⟩ (by simp) rfl)
              rw [ev1] at e124
              have e125 : a.tmps.getD 125 undef = .agg #[.slice A1 L1.length c1, .slice A2 L2.length c2] := (hin 2 125 rfl (hp ⟨2, .data⟩ (by simp) rfl)).trans (hF 2 (hp ⟨2, .data⟩ (by simp) rfl))
              have e126 : a.tmps.getD 126 undef = .int .i64 (y : Int) := (hin 3 126 rfl (hp ⟨3, .data⟩ (by simp) rfl)).trans (hF 3 (hp ⟨3, .data⟩ (by simp) rfl))
              refine Does.call ?_ (hv_call Some_ (.mk 8 0 [tp]) 8 0 Am1 nm1 cm1 A1 c1 A2 c2 L1 L2 (y : Int) y ra1 w hd1 (DW1.out.keep (Keep.of_below (HBd.out.next hG))) (DW2.out.keep (Keep.of_below (HBd.out.next hG))) HN0.out HN9.out (by omega) rfl (by rw [HV_next]; first | (rw [VA.out, VB.out]; rfl) | (rw [VA.out]; rfl) | exact VA1.out)) ?_
              · go_simp
              · rintro e w' ⟨rfl, hb⟩
                exact ⟨_, rfl, hb, rfl, hG.next hb⟩
            · intro listed σ w a hin hout hl hla hs hc hp hG hF
              refine Guarded.none rfl ?_
              have e4 : a.tmps.getD 4 undef = .pointer (some ⟨W.heap.size, 0, none⟩) := hout 4 (outB_spec (by kernel_rfl))
              have CC := SOF.out w hG; obtain ⟨C0, C1, C2, C3, C4, C5, C6, C7⟩ := CC
              refine Does.val (.agg #[.int .i64 kp, .int .i64 pp, .slice Ap np cp]) (w' := w) ?_ ⟨Below.refl _ _, rfl, hG⟩
              go_simp
            · intro listed σ w a hin hout hl hla hs hc hp hG hF
              refine Guarded.none rfl ?_
              have e6 : a.tmps.getD 6 undef = .pointer (some ⟨W.heap.size + 1 + 1, 0, none⟩) := hout 6 (outB_spec (by kernel_rfl))
              have CC := SOF.out w hG; obtain ⟨C0, C1, C2, C3, C4, C5, C6, C7⟩ := CC
              refine Does.val (.agg #[.slice A1 L1.length c1, .slice A2 L2.length c2]) (w' := w) ?_ ⟨Below.refl _ _, rfl, hG⟩
              go_simp
            · intro listed σ w a hin hout hl hla hs hc hp hG hF
              refine Guarded.none rfl ?_
              have e3 : a.tmps.getD 3 undef = .int .i64 (y : Int) := hout 3 (outB_spec (by kernel_rfl))
              refine Does.val (.int .i64 (y : Int)) (w' := w) ?_ ⟨Below.refl _ _, rfl, hG⟩
              simp only [Array.getD_eq_getD_getElem?] at e3
              go_simp
            · intro listed σ w a hin hout hl hla hs hc hp hG hF
              refine Guarded.none rfl ?_
              have e130 : a.tmps.getD 130 undef = .int .i64 (y : Int) := (hin 7 130 rfl (hp ⟨7, .data⟩ (by simp) rfl)).trans (hF 7 (hp ⟨7, .data⟩ (by simp) rfl))
              refine Does.val (.int .i64 ((y : Int) + 1)) (w' := w) ?_ ⟨Below.refl _ _, rfl, hG⟩
              simp only [Array.getD_eq_getD_getElem?] at e130
              go_simp
              first | done | (exact congrArg (Value.int .i64) (i64w (by omega) (by omega))) | (exact i64w (by omega) (by omega))
            · intro listed σ w a hin hout hl hla hs hc hp hG hF
              refine Guarded.none rfl ?_
              have e128 : a.tmps.getD 128 undef = .agg #[.int .i64 kp, .int .i64 pp, .slice Ap np cp] := (hin 5 128 rfl (hp ⟨5, .data⟩ (by simp) rfl)).trans (hF 5 (hp ⟨5, .data⟩ (by simp) rfl))
              have e129 : a.tmps.getD 129 undef = .agg #[.slice A1 L1.length c1, .slice A2 L2.length c2] := (hin 6 129 rfl (hp ⟨6, .data⟩ (by simp) rfl)).trans (hF 6 (hp ⟨6, .data⟩ (by simp) rfl))
              have e131 : a.tmps.getD 131 undef = .int .i64 ((y : Int) + 1) := (hin 8 131 rfl (hp ⟨8, .data⟩ (by simp) rfl)).trans (hF 8 (hp ⟨8, .data⟩ (by simp) rfl))
              refine Does.call ?_ (CA1.out w (HBd.out.next hG)) ?_
              · go_simp
              · rintro e w' ⟨rfl, hb⟩
                exact ⟨_, rfl, hb, rfl, hG.next hb⟩
            · intro listed σ w a hin hout hl hla hs hc hp hG hF
              refine Guarded.none rfl ?_
              have e127 : a.tmps.getD 127 undef = .bool ra1 := (hin 4 127 rfl (hp ⟨4, .data⟩ (by simp) rfl)).trans (hF 4 (hp ⟨4, .data⟩ (by simp) rfl))
              have e132 : a.tmps.getD 132 undef = .bool ra1 := (hin 9 132 rfl (hp ⟨9, .data⟩ (by simp) rfl)).trans (hF 9 (hp ⟨9, .data⟩ (by simp) rfl))
              refine Does.val (.bool true) (w' := w) ?_ ⟨Below.refl _ _, rfl, hG⟩
              simp only [Array.getD_eq_getD_getElem?] at e127 e132
              go_simp
            · intro listed σ w a hin hout hl hla hs hc hp hG hF
              refine Guarded.none rfl ?_
              have e133 : a.tmps.getD 133 undef = .bool true := (hin 10 133 rfl (hp ⟨10, .data⟩ (by simp) rfl)).trans (hF 10 (hp ⟨10, .data⟩ (by simp) rfl))
              refine Does.val (.bool true) (w' := w) ?_ ⟨Below.refl _ _, rfl, hG⟩
              simp only [Array.getD_eq_getD_getElem?] at e133
              go_simp
            · intro listed σ w a hin hout hl hla hs hc hp hG hF
              refine Guarded.some (d := 134) (b := true) rfl rfl ((hin 11 134 rfl (hp ⟨11, .guard⟩ (by simp) rfl)).trans (hF 11 (hp ⟨11, .guard⟩ (by simp) rfl))) ?_
              refine Or.inl ⟨rfl, ?_⟩
              have e4 : a.tmps.getD 4 undef = .pointer (some ⟨W.heap.size, 0, none⟩) := hout 4 (outB_spec (by kernel_rfl))
              have CC := SOF.out w hG; obtain ⟨C0, C1, C2, C3, C4, C5, C6, C7⟩ := CC
              refine Does.val (.agg #[.int .i64 kp, .int .i64 pp, .slice Ap np cp]) (w' := w) ?_ ⟨Below.refl _ _, rfl, hG⟩
              go_simp
            · intro listed σ w a hin hout hl hla hs hc hp hG hF
              refine Guarded.some (d := 134) (b := true) rfl rfl ((hin 11 134 rfl (hp ⟨11, .guard⟩ (by simp) rfl)).trans (hF 11 (hp ⟨11, .guard⟩ (by simp) rfl))) ?_
              refine Or.inl ⟨rfl, ?_⟩
              have e135 : a.tmps.getD 135 undef = .agg #[.int .i64 kp, .int .i64 pp, .slice Ap np cp] := (hin 12 135 rfl (hp ⟨12, .data⟩ (by simp) rfl)).trans (hF 12 (hp ⟨12, .data⟩ (by simp) rfl))
              refine Does.call ?_ (lone_any Some_ 0 3 tp kp pp Ap np cp w ((DP.out.keep (Keep.of_below (HBd.out.next hG))).sub (fun _ _ _ => .inl trivial)) (Nat.zero_le _)) ?_
              · go_simp
              · rintro e w' ⟨A, n, c, rfl, hd, hb⟩
                exact ⟨_, rfl, hb, ⟨A, n, c, rfl, hd.sub (fun b _ _ => trivial)⟩, hG.next hb⟩
            · intro listed σ w a hin hout hl hla hs hc hp hG hF
              refine Guarded.some (d := 134) (b := true) rfl rfl ((hin 11 134 rfl (hp ⟨11, .guard⟩ (by simp) rfl)).trans (hF 11 (hp ⟨11, .guard⟩ (by simp) rfl))) ?_
              refine Or.inl ⟨rfl, ?_⟩
              have e6 : a.tmps.getD 6 undef = .pointer (some ⟨W.heap.size + 1 + 1, 0, none⟩) := hout 6 (outB_spec (by kernel_rfl))
              have CC := SOF.out w hG; obtain ⟨C0, C1, C2, C3, C4, C5, C6, C7⟩ := CC
              refine Does.val (.agg #[.slice A1 L1.length c1, .slice A2 L2.length c2]) (w' := w) ?_ ⟨Below.refl _ _, rfl, hG⟩
              go_simp
            · intro listed σ w a hin hout hl hla hs hc hp hG hF
              refine Guarded.some (d := 134) (b := true) rfl rfl ((hin 11 134 rfl (hp ⟨11, .guard⟩ (by simp) rfl)).trans (hF 11 (hp ⟨11, .guard⟩ (by simp) rfl))) ?_
              refine Or.inl ⟨rfl, ?_⟩
              have e3 : a.tmps.getD 3 undef = .int .i64 (y : Int) := hout 3 (outB_spec (by kernel_rfl))
              refine Does.val (.int .i64 (y : Int)) (w' := w) ?_ ⟨Below.refl _ _, rfl, hG⟩
              simp only [Array.getD_eq_getD_getElem?] at e3
              go_simp
            · intro listed σ w a hin hout hl hla hs hc hp hG hF
              refine Guarded.some (d := 134) (b := true) rfl rfl ((hin 11 134 rfl (hp ⟨11, .guard⟩ (by simp) rfl)).trans (hF 11 (hp ⟨11, .guard⟩ (by simp) rfl))) ?_
              refine Or.inl ⟨rfl, ?_⟩
              have e136 := hin 13 136 rfl (hp ⟨13, .data⟩ (by simp) rfl)
              obtain ⟨Am13, nm13, cm13, ev13, hd13⟩ := hF 13 (hp ⟨13, .data⟩ (by simp) rfl)
              rw [ev13] at e136
              have e137 : a.tmps.getD 137 undef = .agg #[.slice A1 L1.length c1, .slice A2 L2.length c2] := (hin 14 137 rfl (hp ⟨14, .data⟩ (by simp) rfl)).trans (hF 14 (hp ⟨14, .data⟩ (by simp) rfl))
              have e138 : a.tmps.getD 138 undef = .int .i64 (y : Int) := (hin 15 138 rfl (hp ⟨15, .data⟩ (by simp) rfl)).trans (hF 15 (hp ⟨15, .data⟩ (by simp) rfl))
              refine Does.call ?_ (hv_call Some_ (.mk 3 0 [tp]) 3 0 Am13 nm13 cm13 A1 c1 A2 c2 L1 L2 (y : Int) y false w hd13 (DW1.out.keep (Keep.of_below (HBd.out.next hG))) (DW2.out.keep (Keep.of_below (HBd.out.next hG))) HN0.out HN9.out (by omega) rfl (by rw [HV_not]; first | (rw [VA.out, VB.out]; rfl) | (rw [VA.out]; rfl) | exact VA1.out)) ?_
              · go_simp
              · rintro e w' ⟨rfl, hb⟩
                exact ⟨_, rfl, hb, rfl, hG.next hb⟩
            · intro listed σ w a hin hout hl hla hs hc hp hG hF
              refine Guarded.some (d := 134) (b := true) rfl rfl ((hin 11 134 rfl (hp ⟨11, .guard⟩ (by simp) rfl)).trans (hF 11 (hp ⟨11, .guard⟩ (by simp) rfl))) ?_
              refine Or.inl ⟨rfl, ?_⟩
              have e9 : a.tmps.getD 9 undef = .bool true := hout 9 (outB_spec (by kernel_rfl))
              refine Does.val (.bool true) (w' := w) ?_ ⟨Below.refl _ _, rfl, hG⟩
              simp only [Array.getD_eq_getD_getElem?] at e9
              go_simp
            · intro listed σ w a hin hout hl hla hs hc hp hG hF
              refine Guarded.some (d := 134) (b := true) rfl rfl ((hin 11 134 rfl (hp ⟨11, .guard⟩ (by simp) rfl)).trans (hF 11 (hp ⟨11, .guard⟩ (by simp) rfl))) ?_
              refine Or.inl ⟨rfl, ?_⟩
              have e139 : a.tmps.getD 139 undef = .bool false := (hin 16 139 rfl (hp ⟨16, .data⟩ (by simp) rfl)).trans (hF 16 (hp ⟨16, .data⟩ (by simp) rfl))
              have e140 : a.tmps.getD 140 undef = .bool true := (hin 17 140 rfl (hp ⟨17, .data⟩ (by simp) rfl)).trans (hF 17 (hp ⟨17, .data⟩ (by simp) rfl))
              refine Does.val (.bool true) (w' := w) ?_ ⟨Below.refl _ _, rfl, hG⟩
              simp only [Array.getD_eq_getD_getElem?] at e139 e140
              go_simp
            · intro listed σ w a hin hout hl hla hs hc hp hG hF
              refine Guarded.none rfl ?_
              have e134 : a.tmps.getD 134 undef = .bool true := (hin 11 134 rfl (hp ⟨11, .data⟩ (by simp) rfl)).trans (hF 11 (hp ⟨11, .data⟩ (by simp) rfl))
              have e141 : a.tmps.getD 141 undef = .bool true := (hin 18 141 rfl (hp ⟨18, .data⟩ (by simp) rfl)).trans (hF 18 (hp ⟨18, .data⟩ (by simp) rfl))
              refine Does.val (.bool true) (w' := w) ?_ ⟨Below.refl _ _, rfl, hG⟩
              simp only [Array.getD_eq_getD_getElem?] at e134 e141
              go_simp
            · intro listed σ w a hin hout hl hla hs hc hp hG hF
              refine Guarded.none rfl ?_
              have e142 : a.tmps.getD 142 undef = .bool true := (hin 19 142 rfl (hp ⟨19, .data⟩ (by simp) rfl)).trans (hF 19 (hp ⟨19, .data⟩ (by simp) rfl))
              refine Does.val (.bool true) (w' := w) ?_ ⟨Below.refl _ _, rfl, hG⟩
              simp only [Array.getD_eq_getD_getElem?] at e142
              go_simp
            · intro listed σ w a hin hout hl hla hs hc hp hG hF
              refine Guarded.some (d := 143) (b := true) rfl rfl ((hin 20 143 rfl (hp ⟨20, .guard⟩ (by simp) rfl)).trans (hF 20 (hp ⟨20, .guard⟩ (by simp) rfl))) ?_
              refine Or.inl ⟨rfl, ?_⟩
              have e4 : a.tmps.getD 4 undef = .pointer (some ⟨W.heap.size, 0, none⟩) := hout 4 (outB_spec (by kernel_rfl))
              have CC := SOF.out w hG; obtain ⟨C0, C1, C2, C3, C4, C5, C6, C7⟩ := CC
              refine Does.val (.agg #[.int .i64 kp, .int .i64 pp, .slice Ap np cp]) (w' := w) ?_ ⟨Below.refl _ _, rfl, hG⟩
              go_simp
            · intro listed σ w a hin hout hl hla hs hc hp hG hF
              refine Guarded.some (d := 143) (b := true) rfl rfl ((hin 20 143 rfl (hp ⟨20, .guard⟩ (by simp) rfl)).trans (hF 20 (hp ⟨20, .guard⟩ (by simp) rfl))) ?_
              refine Or.inl ⟨rfl, ?_⟩
              have e5 : a.tmps.getD 5 undef = .pointer (some ⟨W.heap.size + 1, 0, none⟩) := hout 5 (outB_spec (by kernel_rfl))
              have CC := SOF.out w hG; obtain ⟨C0, C1, C2, C3, C4, C5, C6, C7⟩ := CC
              refine Does.val (.agg #[.int .i64 kq, .int .i64 pq, .slice Aq nq cq]) (w' := w) ?_ ⟨Below.refl _ _, rfl, hG⟩
              go_simp
            · intro listed σ w a hin hout hl hla hs hc hp hG hF
              refine Guarded.some (d := 143) (b := true) rfl rfl ((hin 20 143 rfl (hp ⟨20, .guard⟩ (by simp) rfl)).trans (hF 20 (hp ⟨20, .guard⟩ (by simp) rfl))) ?_
              refine Or.inl ⟨rfl, ?_⟩
              have e144 : a.tmps.getD 144 undef = .agg #[.int .i64 kp, .int .i64 pp, .slice Ap np cp] := (hin 21 144 rfl (hp ⟨21, .data⟩ (by simp) rfl)).trans (hF 21 (hp ⟨21, .data⟩ (by simp) rfl))
              have e145 : a.tmps.getD 145 undef = .agg #[.int .i64 kq, .int .i64 pq, .slice Aq nq cq] := (hin 22 145 rfl (hp ⟨22, .data⟩ (by simp) rfl)).trans (hF 22 (hp ⟨22, .data⟩ (by simp) rfl))
              refine Does.call ?_ (ltwo_any Some_ 0 4 tp tq kp pp Ap np cp kq pq Aq nq cq w ((DP.out.keep (Keep.of_below (HBd.out.next hG))).sub (fun _ _ _ => .inl trivial)) ((DQ.out.keep (Keep.of_below (HBd.out.next hG))).sub (fun _ _ _ => .inl trivial)) (Nat.zero_le _)) ?_
              · go_simp
              · rintro e w' ⟨A, n, c, rfl, hd, hb⟩
                exact ⟨_, rfl, hb, ⟨A, n, c, rfl, hd.sub (fun b _ _ => trivial)⟩, hG.next hb⟩
            · intro listed σ w a hin hout hl hla hs hc hp hG hF
              refine Guarded.some (d := 143) (b := true) rfl rfl ((hin 20 143 rfl (hp ⟨20, .guard⟩ (by simp) rfl)).trans (hF 20 (hp ⟨20, .guard⟩ (by simp) rfl))) ?_
              refine Or.inl ⟨rfl, ?_⟩
              have e6 : a.tmps.getD 6 undef = .pointer (some ⟨W.heap.size + 1 + 1, 0, none⟩) := hout 6 (outB_spec (by kernel_rfl))
              have CC := SOF.out w hG; obtain ⟨C0, C1, C2, C3, C4, C5, C6, C7⟩ := CC
              refine Does.val (.agg #[.slice A1 L1.length c1, .slice A2 L2.length c2]) (w' := w) ?_ ⟨Below.refl _ _, rfl, hG⟩
              go_simp
            · intro listed σ w a hin hout hl hla hs hc hp hG hF
              refine Guarded.some (d := 143) (b := true) rfl rfl ((hin 20 143 rfl (hp ⟨20, .guard⟩ (by simp) rfl)).trans (hF 20 (hp ⟨20, .guard⟩ (by simp) rfl))) ?_
              refine Or.inl ⟨rfl, ?_⟩
              have e3 : a.tmps.getD 3 undef = .int .i64 (y : Int) := hout 3 (outB_spec (by kernel_rfl))
              refine Does.val (.int .i64 (y : Int)) (w' := w) ?_ ⟨Below.refl _ _, rfl, hG⟩
              simp only [Array.getD_eq_getD_getElem?] at e3
              go_simp
            · intro listed σ w a hin hout hl hla hs hc hp hG hF
              refine Guarded.some (d := 143) (b := true) rfl rfl ((hin 20 143 rfl (hp ⟨20, .guard⟩ (by simp) rfl)).trans (hF 20 (hp ⟨20, .guard⟩ (by simp) rfl))) ?_
              refine Or.inl ⟨rfl, ?_⟩
              have e146 := hin 23 146 rfl (hp ⟨23, .data⟩ (by simp) rfl)
              obtain ⟨Am23, nm23, cm23, ev23, hd23⟩ := hF 23 (hp ⟨23, .data⟩ (by simp) rfl)
              rw [ev23] at e146
              have e147 : a.tmps.getD 147 undef = .agg #[.slice A1 L1.length c1, .slice A2 L2.length c2] := (hin 24 147 rfl (hp ⟨24, .data⟩ (by simp) rfl)).trans (hF 24 (hp ⟨24, .data⟩ (by simp) rfl))
              have e148 : a.tmps.getD 148 undef = .int .i64 (y : Int) := (hin 25 148 rfl (hp ⟨25, .data⟩ (by simp) rfl)).trans (hF 25 (hp ⟨25, .data⟩ (by simp) rfl))
              refine Does.call ?_ (hv_call Some_ (.mk 4 0 [tp, tq]) 4 0 Am23 nm23 cm23 A1 c1 A2 c2 L1 L2 (y : Int) y false w hd23 (DW1.out.keep (Keep.of_below (HBd.out.next hG))) (DW2.out.keep (Keep.of_below (HBd.out.next hG))) HN0.out HN9.out (by omega) rfl (by rw [HV_and]; first | (rw [VA.out, VB.out]; rfl) | (rw [VA.out]; rfl) | exact VA1.out)) ?_
              · go_simp
              · rintro e w' ⟨rfl, hb⟩
                exact ⟨_, rfl, hb, rfl, hG.next hb⟩
            · intro listed σ w a hin hout hl hla hs hc hp hG hF
              refine Guarded.some (d := 143) (b := true) rfl rfl ((hin 20 143 rfl (hp ⟨20, .guard⟩ (by simp) rfl)).trans (hF 20 (hp ⟨20, .guard⟩ (by simp) rfl))) ?_
              refine Or.inl ⟨rfl, ?_⟩
              have e9 : a.tmps.getD 9 undef = .bool true := hout 9 (outB_spec (by kernel_rfl))
              refine Does.val (.bool true) (w' := w) ?_ ⟨Below.refl _ _, rfl, hG⟩
              simp only [Array.getD_eq_getD_getElem?] at e9
              go_simp
            · intro listed σ w a hin hout hl hla hs hc hp hG hF
              refine Guarded.some (d := 143) (b := true) rfl rfl ((hin 20 143 rfl (hp ⟨20, .guard⟩ (by simp) rfl)).trans (hF 20 (hp ⟨20, .guard⟩ (by simp) rfl))) ?_
              refine Or.inl ⟨rfl, ?_⟩
              have e150 : a.tmps.getD 150 undef = .bool true := (hin 27 150 rfl (hp ⟨27, .data⟩ (by simp) rfl)).trans (hF 27 (hp ⟨27, .data⟩ (by simp) rfl))
              refine Does.val (.bool true) (w' := w) ?_ ⟨Below.refl _ _, rfl, hG⟩
              simp only [Array.getD_eq_getD_getElem?] at e150
              go_simp
            · intro listed σ w a hin hout hl hla hs hc hp hG hF
              refine Guarded.some (d := 151) (b := true) rfl rfl ((hin 28 151 rfl (hp ⟨28, .guard⟩ (by simp) rfl)).trans (hF 28 (hp ⟨28, .guard⟩ (by simp) rfl))) ?_
              refine Or.inl ⟨rfl, ?_⟩
              have e10 : a.tmps.getD 10 undef = .bool false := hout 10 (outB_spec (by kernel_rfl))
              refine Does.val (.bool false) (w' := w) ?_ ⟨Below.refl _ _, rfl, hG⟩
              simp only [Array.getD_eq_getD_getElem?] at e10
              go_simp
            · intro listed σ w a hin hout hl hla hs hc hp hG hF
              refine Guarded.some (d := 143) (b := true) rfl rfl ((hin 20 143 rfl (hp ⟨20, .guard⟩ (by simp) rfl)).trans (hF 20 (hp ⟨20, .guard⟩ (by simp) rfl))) ?_
              refine Or.inl ⟨rfl, ?_⟩
              have e151 : a.tmps.getD 151 undef = .bool true := (hin 28 151 rfl (hp ⟨28, .data⟩ (by simp) rfl)).trans (hF 28 (hp ⟨28, .data⟩ (by simp) rfl))
              have e152 : a.tmps.getD 152 undef = .bool false := (hin 29 152 rfl (hp ⟨29, .data⟩ (by simp) rfl)).trans (hF 29 (hp ⟨29, .data⟩ (by simp) rfl))
              refine Does.val (.bool false) (w' := w) ?_ ⟨Below.refl _ _, rfl, hG⟩
              simp only [Array.getD_eq_getD_getElem?] at e151 e152
              go_simp
            · intro listed σ w a hin hout hl hla hs hc hp hG hF
              refine Guarded.some (d := 143) (b := true) rfl rfl ((hin 20 143 rfl (hp ⟨20, .guard⟩ (by simp) rfl)).trans (hF 20 (hp ⟨20, .guard⟩ (by simp) rfl))) ?_
              refine Or.inl ⟨rfl, ?_⟩
              have e149 : a.tmps.getD 149 undef = .bool false := (hin 26 149 rfl (hp ⟨26, .data⟩ (by simp) rfl)).trans (hF 26 (hp ⟨26, .data⟩ (by simp) rfl))
              have e153 : a.tmps.getD 153 undef = .bool false := (hin 30 153 rfl (hp ⟨30, .data⟩ (by simp) rfl)).trans (hF 30 (hp ⟨30, .data⟩ (by simp) rfl))
              refine Does.val (.bool true) (w' := w) ?_ ⟨Below.refl _ _, rfl, hG⟩
              simp only [Array.getD_eq_getD_getElem?] at e149 e153
              go_simp
            · intro listed σ w a hin hout hl hla hs hc hp hG hF
              refine Guarded.none rfl ?_
              have e143 : a.tmps.getD 143 undef = .bool true := (hin 20 143 rfl (hp ⟨20, .data⟩ (by simp) rfl)).trans (hF 20 (hp ⟨20, .data⟩ (by simp) rfl))
              have e154 : a.tmps.getD 154 undef = .bool true := (hin 31 154 rfl (hp ⟨31, .data⟩ (by simp) rfl)).trans (hF 31 (hp ⟨31, .data⟩ (by simp) rfl))
              refine Does.val (.bool true) (w' := w) ?_ ⟨Below.refl _ _, rfl, hG⟩
              simp only [Array.getD_eq_getD_getElem?] at e143 e154
              go_simp
            · intro listed σ w a hin hout hl hla hs hc hp hG hF
              refine Guarded.none rfl ?_
              have e155 : a.tmps.getD 155 undef = .bool true := (hin 32 155 rfl (hp ⟨32, .data⟩ (by simp) rfl)).trans (hF 32 (hp ⟨32, .data⟩ (by simp) rfl))
              refine Does.val (.bool true) (w' := w) ?_ ⟨Below.refl _ _, rfl, hG⟩
              simp only [Array.getD_eq_getD_getElem?] at e155
              go_simp
            · intro listed σ w a hin hout hl hla hs hc hp hG hF
              refine Guarded.some (d := 156) (b := true) rfl rfl ((hin 33 156 rfl (hp ⟨33, .guard⟩ (by simp) rfl)).trans (hF 33 (hp ⟨33, .guard⟩ (by simp) rfl))) ?_
              refine Or.inl ⟨rfl, ?_⟩
              have e4 : a.tmps.getD 4 undef = .pointer (some ⟨W.heap.size, 0, none⟩) := hout 4 (outB_spec (by kernel_rfl))
              have CC := SOF.out w hG; obtain ⟨C0, C1, C2, C3, C4, C5, C6, C7⟩ := CC
              refine Does.val (.agg #[.int .i64 kp, .int .i64 pp, .slice Ap np cp]) (w' := w) ?_ ⟨Below.refl _ _, rfl, hG⟩
              go_simp
            · intro listed σ w a hin hout hl hla hs hc hp hG hF
              refine Guarded.some (d := 156) (b := true) rfl rfl ((hin 33 156 rfl (hp ⟨33, .guard⟩ (by simp) rfl)).trans (hF 33 (hp ⟨33, .guard⟩ (by simp) rfl))) ?_
              refine Or.inl ⟨rfl, ?_⟩
              have e5 : a.tmps.getD 5 undef = .pointer (some ⟨W.heap.size + 1, 0, none⟩) := hout 5 (outB_spec (by kernel_rfl))
              have CC := SOF.out w hG; obtain ⟨C0, C1, C2, C3, C4, C5, C6, C7⟩ := CC
              refine Does.val (.agg #[.int .i64 kq, .int .i64 pq, .slice Aq nq cq]) (w' := w) ?_ ⟨Below.refl _ _, rfl, hG⟩
              go_simp
            · intro listed σ w a hin hout hl hla hs hc hp hG hF
              refine Guarded.some (d := 156) (b := true) rfl rfl ((hin 33 156 rfl (hp ⟨33, .guard⟩ (by simp) rfl)).trans (hF 33 (hp ⟨33, .guard⟩ (by simp) rfl))) ?_
              refine Or.inl ⟨rfl, ?_⟩
              have e157 : a.tmps.getD 157 undef = .agg #[.int .i64 kp, .int .i64 pp, .slice Ap np cp] := (hin 34 157 rfl (hp ⟨34, .data⟩ (by simp) rfl)).trans (hF 34 (hp ⟨34, .data⟩ (by simp) rfl))
              have e158 : a.tmps.getD 158 undef = .agg #[.int .i64 kq, .int .i64 pq, .slice Aq nq cq] := (hin 35 158 rfl (hp ⟨35, .data⟩ (by simp) rfl)).trans (hF 35 (hp ⟨35, .data⟩ (by simp) rfl))
              refine Does.call ?_ (ltwo_any Some_ 0 5 tp tq kp pp Ap np cp kq pq Aq nq cq w ((DP.out.keep (Keep.of_below (HBd.out.next hG))).sub (fun _ _ _ => .inl trivial)) ((DQ.out.keep (Keep.of_below (HBd.out.next hG))).sub (fun _ _ _ => .inl trivial)) (Nat.zero_le _)) ?_
              · go_simp
              · rintro e w' ⟨A, n, c, rfl, hd, hb⟩
                exact ⟨_, rfl, hb, ⟨A, n, c, rfl, hd.sub (fun b _ _ => trivial)⟩, hG.next hb⟩
            · intro listed σ w a hin hout hl hla hs hc hp hG hF
              refine Guarded.some (d := 156) (b := true) rfl rfl ((hin 33 156 rfl (hp ⟨33, .guard⟩ (by simp) rfl)).trans (hF 33 (hp ⟨33, .guard⟩ (by simp) rfl))) ?_
              refine Or.inl ⟨rfl, ?_⟩
              have e6 : a.tmps.getD 6 undef = .pointer (some ⟨W.heap.size + 1 + 1, 0, none⟩) := hout 6 (outB_spec (by kernel_rfl))
              have CC := SOF.out w hG; obtain ⟨C0, C1, C2, C3, C4, C5, C6, C7⟩ := CC
              refine Does.val (.agg #[.slice A1 L1.length c1, .slice A2 L2.length c2]) (w' := w) ?_ ⟨Below.refl _ _, rfl, hG⟩
              go_simp
            · intro listed σ w a hin hout hl hla hs hc hp hG hF
              refine Guarded.some (d := 156) (b := true) rfl rfl ((hin 33 156 rfl (hp ⟨33, .guard⟩ (by simp) rfl)).trans (hF 33 (hp ⟨33, .guard⟩ (by simp) rfl))) ?_
              refine Or.inl ⟨rfl, ?_⟩
              have e3 : a.tmps.getD 3 undef = .int .i64 (y : Int) := hout 3 (outB_spec (by kernel_rfl))
              refine Does.val (.int .i64 (y : Int)) (w' := w) ?_ ⟨Below.refl _ _, rfl, hG⟩
              simp only [Array.getD_eq_getD_getElem?] at e3
              go_simp
            · intro listed σ w a hin hout hl hla hs hc hp hG hF
              refine Guarded.some (d := 156) (b := true) rfl rfl ((hin 33 156 rfl (hp ⟨33, .guard⟩ (by simp) rfl)).trans (hF 33 (hp ⟨33, .guard⟩ (by simp) rfl))) ?_
              refine Or.inl ⟨rfl, ?_⟩
              have e159 := hin 36 159 rfl (hp ⟨36, .data⟩ (by simp) rfl)
              obtain ⟨Am36, nm36, cm36, ev36, hd36⟩ := hF 36 (hp ⟨36, .data⟩ (by simp) rfl)
              rw [ev36] at e159
              have e160 : a.tmps.getD 160 undef = .agg #[.slice A1 L1.length c1, .slice A2 L2.length c2] := (hin 37 160 rfl (hp ⟨37, .data⟩ (by simp) rfl)).trans (hF 37 (hp ⟨37, .data⟩ (by simp) rfl))
              have e161 : a.tmps.getD 161 undef = .int .i64 (y : Int) := (hin 38 161 rfl (hp ⟨38, .data⟩ (by simp) rfl)).trans (hF 38 (hp ⟨38, .data⟩ (by simp) rfl))
              refine Does.call ?_ (hv_call Some_ (.mk 5 0 [tp, tq]) 5 0 Am36 nm36 cm36 A1 c1 A2 c2 L1 L2 (y : Int) y true w hd36 (DW1.out.keep (Keep.of_below (HBd.out.next hG))) (DW2.out.keep (Keep.of_below (HBd.out.next hG))) HN0.out HN9.out (by omega) rfl (by rw [HV_or]; first | (rw [VA.out, VB.out]; rfl) | (rw [VA.out]; rfl) | exact VA1.out)) ?_
              · go_simp
              · rintro e w' ⟨rfl, hb⟩
                exact ⟨_, rfl, hb, rfl, hG.next hb⟩
            · intro listed σ w a hin hout hl hla hs hc hp hG hF
              refine Guarded.some (d := 156) (b := true) rfl rfl ((hin 33 156 rfl (hp ⟨33, .guard⟩ (by simp) rfl)).trans (hF 33 (hp ⟨33, .guard⟩ (by simp) rfl))) ?_
              refine Or.inl ⟨rfl, ?_⟩
              have e9 : a.tmps.getD 9 undef = .bool true := hout 9 (outB_spec (by kernel_rfl))
              refine Does.val (.bool true) (w' := w) ?_ ⟨Below.refl _ _, rfl, hG⟩
              simp only [Array.getD_eq_getD_getElem?] at e9
              go_simp
            · intro listed σ w a hin hout hl hla hs hc hp hG hF
              refine Guarded.some (d := 156) (b := true) rfl rfl ((hin 33 156 rfl (hp ⟨33, .guard⟩ (by simp) rfl)).trans (hF 33 (hp ⟨33, .guard⟩ (by simp) rfl))) ?_
              refine Or.inl ⟨rfl, ?_⟩
              have e163 : a.tmps.getD 163 undef = .bool true := (hin 40 163 rfl (hp ⟨40, .data⟩ (by simp) rfl)).trans (hF 40 (hp ⟨40, .data⟩ (by simp) rfl))
              refine Does.val (.bool true) (w' := w) ?_ ⟨Below.refl _ _, rfl, hG⟩
              simp only [Array.getD_eq_getD_getElem?] at e163
              go_simp
            · intro listed σ w a hin hout hl hla hs hc hp hG hF
              refine Guarded.some (d := 164) (b := true) rfl rfl ((hin 41 164 rfl (hp ⟨41, .guard⟩ (by simp) rfl)).trans (hF 41 (hp ⟨41, .guard⟩ (by simp) rfl))) ?_
              exact Or.inr ⟨(fun h => by cases h), Below.refl _ _, rfl, hG⟩
            · intro listed σ w a hin hout hl hla hs hc hp hG hF
              refine Guarded.some (d := 156) (b := true) rfl rfl ((hin 33 156 rfl (hp ⟨33, .guard⟩ (by simp) rfl)).trans (hF 33 (hp ⟨33, .guard⟩ (by simp) rfl))) ?_
              refine Or.inl ⟨rfl, ?_⟩
              have e164 : a.tmps.getD 164 undef = .bool true := (hin 41 164 rfl (hp ⟨41, .data⟩ (by simp) rfl)).trans (hF 41 (hp ⟨41, .data⟩ (by simp) rfl))
              have e165 : a.tmps.getD 165 undef = undef := (hin 42 165 rfl (hp ⟨42, .data⟩ (by simp) rfl)).trans (hF 42 (hp ⟨42, .data⟩ (by simp) rfl))
              refine Does.val (.bool true) (w' := w) ?_ ⟨Below.refl _ _, rfl, hG⟩
              simp only [Array.getD_eq_getD_getElem?] at e164 e165
              go_simp
            · intro listed σ w a hin hout hl hla hs hc hp hG hF
              refine Guarded.some (d := 156) (b := true) rfl rfl ((hin 33 156 rfl (hp ⟨33, .guard⟩ (by simp) rfl)).trans (hF 33 (hp ⟨33, .guard⟩ (by simp) rfl))) ?_
              refine Or.inl ⟨rfl, ?_⟩
              have e162 : a.tmps.getD 162 undef = .bool true := (hin 39 162 rfl (hp ⟨39, .data⟩ (by simp) rfl)).trans (hF 39 (hp ⟨39, .data⟩ (by simp) rfl))
              have e166 : a.tmps.getD 166 undef = .bool true := (hin 43 166 rfl (hp ⟨43, .data⟩ (by simp) rfl)).trans (hF 43 (hp ⟨43, .data⟩ (by simp) rfl))
              refine Does.val (.bool true) (w' := w) ?_ ⟨Below.refl _ _, rfl, hG⟩
              simp only [Array.getD_eq_getD_getElem?] at e162 e166
              go_simp
            · intro listed σ w a hin hout hl hla hs hc hp hG hF
              refine Guarded.none rfl ?_
              have e156 : a.tmps.getD 156 undef = .bool true := (hin 33 156 rfl (hp ⟨33, .data⟩ (by simp) rfl)).trans (hF 33 (hp ⟨33, .data⟩ (by simp) rfl))
              have e167 : a.tmps.getD 167 undef = .bool true := (hin 44 167 rfl (hp ⟨44, .data⟩ (by simp) rfl)).trans (hF 44 (hp ⟨44, .data⟩ (by simp) rfl))
              refine Does.val (.bool true) (w' := w) ?_ ⟨Below.refl _ _, rfl, hG⟩
              simp only [Array.getD_eq_getD_getElem?] at e156 e167
              go_simp
            · intro listed σ w a hin hout hl hla hs hc hp hG hF
              refine Guarded.none rfl ?_
              have e168 : a.tmps.getD 168 undef = .bool true := (hin 45 168 rfl (hp ⟨45, .data⟩ (by simp) rfl)).trans (hF 45 (hp ⟨45, .data⟩ (by simp) rfl))
              refine Does.val (.bool true) (w' := w) ?_ ⟨Below.refl _ _, rfl, hG⟩
              simp only [Array.getD_eq_getD_getElem?] at e168
              go_simp
            · intro listed σ w a hin hout hl hla hs hc hp hG hF
              refine Guarded.some (d := 169) (b := true) rfl rfl ((hin 46 169 rfl (hp ⟨46, .guard⟩ (by simp) rfl)).trans (hF 46 (hp ⟨46, .guard⟩ (by simp) rfl))) ?_
              refine Or.inl ⟨rfl, ?_⟩
              have e4 : a.tmps.getD 4 undef = .pointer (some ⟨W.heap.size, 0, none⟩) := hout 4 (outB_spec (by kernel_rfl))
              have CC := SOF.out w hG; obtain ⟨C0, C1, C2, C3, C4, C5, C6, C7⟩ := CC
              refine Does.val (.agg #[.int .i64 kp, .int .i64 pp, .slice Ap np cp]) (w' := w) ?_ ⟨Below.refl _ _, rfl, hG⟩
              go_simp
            · intro listed σ w a hin hout hl hla hs hc hp hG hF
              refine Guarded.some (d := 169) (b := true) rfl rfl ((hin 46 169 rfl (hp ⟨46, .guard⟩ (by simp) rfl)).trans (hF 46 (hp ⟨46, .guard⟩ (by simp) rfl))) ?_
              refine Or.inl ⟨rfl, ?_⟩
              have e5 : a.tmps.getD 5 undef = .pointer (some ⟨W.heap.size + 1, 0, none⟩) := hout 5 (outB_spec (by kernel_rfl))
              have CC := SOF.out w hG; obtain ⟨C0, C1, C2, C3, C4, C5, C6, C7⟩ := CC
              refine Does.val (.agg #[.int .i64 kq, .int .i64 pq, .slice Aq nq cq]) (w' := w) ?_ ⟨Below.refl _ _, rfl, hG⟩
              go_simp
            · intro listed σ w a hin hout hl hla hs hc hp hG hF
              refine Guarded.some (d := 169) (b := true) rfl rfl ((hin 46 169 rfl (hp ⟨46, .guard⟩ (by simp) rfl)).trans (hF 46 (hp ⟨46, .guard⟩ (by simp) rfl))) ?_
              refine Or.inl ⟨rfl, ?_⟩
              have e170 : a.tmps.getD 170 undef = .agg #[.int .i64 kp, .int .i64 pp, .slice Ap np cp] := (hin 47 170 rfl (hp ⟨47, .data⟩ (by simp) rfl)).trans (hF 47 (hp ⟨47, .data⟩ (by simp) rfl))
              have e171 : a.tmps.getD 171 undef = .agg #[.int .i64 kq, .int .i64 pq, .slice Aq nq cq] := (hin 48 171 rfl (hp ⟨48, .data⟩ (by simp) rfl)).trans (hF 48 (hp ⟨48, .data⟩ (by simp) rfl))
              refine Does.call ?_ (ltwo_any Some_ 0 7 tp tq kp pp Ap np cp kq pq Aq nq cq w ((DP.out.keep (Keep.of_below (HBd.out.next hG))).sub (fun _ _ _ => .inl trivial)) ((DQ.out.keep (Keep.of_below (HBd.out.next hG))).sub (fun _ _ _ => .inl trivial)) (Nat.zero_le _)) ?_
              · go_simp
              · rintro e w' ⟨A, n, c, rfl, hd, hb⟩
                exact ⟨_, rfl, hb, ⟨A, n, c, rfl, hd.sub (fun b _ _ => trivial)⟩, hG.next hb⟩
            · intro listed σ w a hin hout hl hla hs hc hp hG hF
              refine Guarded.some (d := 169) (b := true) rfl rfl ((hin 46 169 rfl (hp ⟨46, .guard⟩ (by simp) rfl)).trans (hF 46 (hp ⟨46, .guard⟩ (by simp) rfl))) ?_
              refine Or.inl ⟨rfl, ?_⟩
              have e6 : a.tmps.getD 6 undef = .pointer (some ⟨W.heap.size + 1 + 1, 0, none⟩) := hout 6 (outB_spec (by kernel_rfl))
              have CC := SOF.out w hG; obtain ⟨C0, C1, C2, C3, C4, C5, C6, C7⟩ := CC
              refine Does.val (.agg #[.slice A1 L1.length c1, .slice A2 L2.length c2]) (w' := w) ?_ ⟨Below.refl _ _, rfl, hG⟩
              go_simp
            · intro listed σ w a hin hout hl hla hs hc hp hG hF
              refine Guarded.some (d := 169) (b := true) rfl rfl ((hin 46 169 rfl (hp ⟨46, .guard⟩ (by simp) rfl)).trans (hF 46 (hp ⟨46, .guard⟩ (by simp) rfl))) ?_
              refine Or.inl ⟨rfl, ?_⟩
              have e3 : a.tmps.getD 3 undef = .int .i64 (y : Int) := hout 3 (outB_spec (by kernel_rfl))
              refine Does.val (.int .i64 (y : Int)) (w' := w) ?_ ⟨Below.refl _ _, rfl, hG⟩
              simp only [Array.getD_eq_getD_getElem?] at e3
              go_simp
            · intro listed σ w a hin hout hl hla hs hc hp hG hF
              refine Guarded.some (d := 169) (b := true) rfl rfl ((hin 46 169 rfl (hp ⟨46, .guard⟩ (by simp) rfl)).trans (hF 46 (hp ⟨46, .guard⟩ (by simp) rfl))) ?_
              refine Or.inl ⟨rfl, ?_⟩
              have e172 := hin 49 172 rfl (hp ⟨49, .data⟩ (by simp) rfl)
              obtain ⟨Am49, nm49, cm49, ev49, hd49⟩ := hF 49 (hp ⟨49, .data⟩ (by simp) rfl)
              rw [ev49] at e172
              have e173 : a.tmps.getD 173 undef = .agg #[.slice A1 L1.length c1, .slice A2 L2.length c2] := (hin 50 173 rfl (hp ⟨50, .data⟩ (by simp) rfl)).trans (hF 50 (hp ⟨50, .data⟩ (by simp) rfl))
              have e174 : a.tmps.getD 174 undef = .int .i64 (y : Int) := (hin 51 174 rfl (hp ⟨51, .data⟩ (by simp) rfl)).trans (hF 51 (hp ⟨51, .data⟩ (by simp) rfl))
              refine Does.call ?_ (hv_call Some_ (.mk 7 0 [tp, tq]) 7 0 Am49 nm49 cm49 A1 c1 A2 c2 L1 L2 (y : Int) y false w hd49 (DW1.out.keep (Keep.of_below (HBd.out.next hG))) (DW2.out.keep (Keep.of_below (HBd.out.next hG))) HN0.out HN9.out (by omega) rfl (by rw [HV_imp]; first | (rw [VA.out, VB.out]; rfl) | (rw [VA.out]; rfl) | exact VA1.out)) ?_
              · go_simp
              · rintro e w' ⟨rfl, hb⟩
                exact ⟨_, rfl, hb, rfl, hG.next hb⟩
            · intro listed σ w a hin hout hl hla hs hc hp hG hF
              refine Guarded.some (d := 169) (b := true) rfl rfl ((hin 46 169 rfl (hp ⟨46, .guard⟩ (by simp) rfl)).trans (hF 46 (hp ⟨46, .guard⟩ (by simp) rfl))) ?_
              refine Or.inl ⟨rfl, ?_⟩
              have e9 : a.tmps.getD 9 undef = .bool true := hout 9 (outB_spec (by kernel_rfl))
              refine Does.val (.bool true) (w' := w) ?_ ⟨Below.refl _ _, rfl, hG⟩
              simp only [Array.getD_eq_getD_getElem?] at e9
              go_simp
            · intro listed σ w a hin hout hl hla hs hc hp hG hF
              refine Guarded.some (d := 169) (b := true) rfl rfl ((hin 46 169 rfl (hp ⟨46, .guard⟩ (by simp) rfl)).trans (hF 46 (hp ⟨46, .guard⟩ (by simp) rfl))) ?_
              refine Or.inl ⟨rfl, ?_⟩
              have e176 : a.tmps.getD 176 undef = .bool true := (hin 53 176 rfl (hp ⟨53, .data⟩ (by simp) rfl)).trans (hF 53 (hp ⟨53, .data⟩ (by simp) rfl))
              refine Does.val (.bool false) (w' := w) ?_ ⟨Below.refl _ _, rfl, hG⟩
              simp only [Array.getD_eq_getD_getElem?] at e176
              go_simp
            · intro listed σ w a hin hout hl hla hs hc hp hG hF
              refine Guarded.some (d := 169) (b := true) rfl rfl ((hin 46 169 rfl (hp ⟨46, .guard⟩ (by simp) rfl)).trans (hF 46 (hp ⟨46, .guard⟩ (by simp) rfl))) ?_
              refine Or.inl ⟨rfl, ?_⟩
              have e177 : a.tmps.getD 177 undef = .bool false := (hin 54 177 rfl (hp ⟨54, .data⟩ (by simp) rfl)).trans (hF 54 (hp ⟨54, .data⟩ (by simp) rfl))
              refine Does.val (.bool false) (w' := w) ?_ ⟨Below.refl _ _, rfl, hG⟩
              simp only [Array.getD_eq_getD_getElem?] at e177
              go_simp
            · intro listed σ w a hin hout hl hla hs hc hp hG hF
              refine Guarded.some (d := 178) (b := false) rfl rfl ((hin 55 178 rfl (hp ⟨55, .guard⟩ (by simp) rfl)).trans (hF 55 (hp ⟨55, .guard⟩ (by simp) rfl))) ?_
              refine Or.inl ⟨rfl, ?_⟩
              have e10 : a.tmps.getD 10 undef = .bool false := hout 10 (outB_spec (by kernel_rfl))
              refine Does.val (.bool false) (w' := w) ?_ ⟨Below.refl _ _, rfl, hG⟩
              simp only [Array.getD_eq_getD_getElem?] at e10
              go_simp
            · intro listed σ w a hin hout hl hla hs hc hp hG hF
              refine Guarded.some (d := 169) (b := true) rfl rfl ((hin 46 169 rfl (hp ⟨46, .guard⟩ (by simp) rfl)).trans (hF 46 (hp ⟨46, .guard⟩ (by simp) rfl))) ?_
              refine Or.inl ⟨rfl, ?_⟩
              have e178 : a.tmps.getD 178 undef = .bool false := (hin 55 178 rfl (hp ⟨55, .data⟩ (by simp) rfl)).trans (hF 55 (hp ⟨55, .data⟩ (by simp) rfl))
              have e179 : a.tmps.getD 179 undef = .bool false := (hin 56 179 rfl (hp ⟨56, .data⟩ (by simp) rfl)).trans (hF 56 (hp ⟨56, .data⟩ (by simp) rfl))
              refine Does.val (.bool false) (w' := w) ?_ ⟨Below.refl _ _, rfl, hG⟩
              simp only [Array.getD_eq_getD_getElem?] at e178 e179
              go_simp
            · intro listed σ w a hin hout hl hla hs hc hp hG hF
              refine Guarded.some (d := 169) (b := true) rfl rfl ((hin 46 169 rfl (hp ⟨46, .guard⟩ (by simp) rfl)).trans (hF 46 (hp ⟨46, .guard⟩ (by simp) rfl))) ?_
              refine Or.inl ⟨rfl, ?_⟩
              have e175 : a.tmps.getD 175 undef = .bool false := (hin 52 175 rfl (hp ⟨52, .data⟩ (by simp) rfl)).trans (hF 52 (hp ⟨52, .data⟩ (by simp) rfl))
              have e180 : a.tmps.getD 180 undef = .bool false := (hin 57 180 rfl (hp ⟨57, .data⟩ (by simp) rfl)).trans (hF 57 (hp ⟨57, .data⟩ (by simp) rfl))
              refine Does.val (.bool true) (w' := w) ?_ ⟨Below.refl _ _, rfl, hG⟩
              simp only [Array.getD_eq_getD_getElem?] at e175 e180
              go_simp
            · intro listed σ w a hin hout hl hla hs hc hp hG hF
              refine Guarded.none rfl ?_
              have e169 : a.tmps.getD 169 undef = .bool true := (hin 46 169 rfl (hp ⟨46, .data⟩ (by simp) rfl)).trans (hF 46 (hp ⟨46, .data⟩ (by simp) rfl))
              have e181 : a.tmps.getD 181 undef = .bool true := (hin 58 181 rfl (hp ⟨58, .data⟩ (by simp) rfl)).trans (hF 58 (hp ⟨58, .data⟩ (by simp) rfl))
              refine Does.val (.bool true) (w' := w) ?_ ⟨Below.refl _ _, rfl, hG⟩
              simp only [Array.getD_eq_getD_getElem?] at e169 e181
              go_simp
          · intro o ho
            injection ho with ho; subst ho
            intro listed σ w a hall hin hout hG hF
            refine Guarded.none rfl ?_
            have e182 : a.tmps.getD 182 undef = .bool true := (hin 59 182 rfl (by decide)).trans (hF 59 (by decide))
            refine Does.val (.bool true) (w' := w) (by simp only [Array.getD_eq_getD_getElem?] at *; go_simp) ?_
            rw [show fin _ σ (.bool true) _ = (Act.put (Act.put (Act.put (Act.put (Act.put (Act.put (Act.put (Act.put (Act.put (Act.put (Act.put (Act.put (Act.put (Act.put (Act.put (Act.put (Act.put (Act.put (Act.put (Act.put (Act.put (Act.put (Act.put (Act.put (Act.put (Act.put (Act.put (Act.put (Act.put (Act.put (Act.put (Act.put (Act.put (Act.put (Act.put (Act.put (Act.put (Act.put (Act.put (Act.put (Act.put (Act.put (Act.put (Act.put (Act.put (Act.put (Act.put (Act.put (Act.put (Act.put (Act.put (Act.put (Act.put (Act.put (Act.put (Act.put (Act.put (Act.put (Act.put (Act.put (Act.put _ (some 123) (σ 0)) (some 124) (σ 1)) (some 125) (σ 2)) (some 126) (σ 3)) (some 127) (σ 4)) (some 128) (σ 5)) (some 129) (σ 6)) (some 130) (σ 7)) (some 131) (σ 8)) (some 132) (σ 9)) (some 133) (σ 10)) (some 134) (σ 11)) (some 135) (σ 12)) (some 136) (σ 13)) (some 137) (σ 14)) (some 138) (σ 15)) (some 139) (σ 16)) (some 140) (σ 17)) (some 141) (σ 18)) (some 142) (σ 19)) (some 143) (σ 20)) (some 144) (σ 21)) (some 145) (σ 22)) (some 146) (σ 23)) (some 147) (σ 24)) (some 148) (σ 25)) (some 149) (σ 26)) (some 150) (σ 27)) (some 151) (σ 28)) (some 152) (σ 29)) (some 153) (σ 30)) (some 154) (σ 31)) (some 155) (σ 32)) (some 156) (σ 33)) (some 157) (σ 34)) (some 158) (σ 35)) (some 159) (σ 36)) (some 160) (σ 37)) (some 161) (σ 38)) (some 162) (σ 39)) (some 163) (σ 40)) (some 164) (σ 41)) (some 165) (σ 42)) (some 166) (σ 43)) (some 167) (σ 44)) (some 168) (σ 45)) (some 169) (σ 46)) (some 170) (σ 47)) (some 171) (σ 48)) (some 172) (σ 49)) (some 173) (σ 50)) (some 174) (σ 51)) (some 175) (σ 52)) (some 176) (σ 53)) (some 177) (σ 54)) (some 178) (σ 55)) (some 179) (σ 56)) (some 180) (σ 57)) (some 181) (σ 58)) (some 182) (σ 59)) (some 8) (.bool true)) from (fin_all hall).trans rfl]
            simp only [Act.put, List.setIfInBounds_toArray, List.set_cons_zero, List.set_cons_succ]
            have HB9 := hide (HBd.out.next hG)
            generalize σ 0 = tt0 at *; generalize σ 1 = tt1 at *; generalize σ 2 = tt2 at *; generalize σ 3 = tt3 at *; generalize σ 4 = tt4 at *; generalize σ 5 = tt5 at *; generalize σ 6 = tt6 at *; generalize σ 7 = tt7 at *; generalize σ 8 = tt8 at *; generalize σ 9 = tt9 at *; generalize σ 10 = tt10 at *; generalize σ 11 = tt11 at *; generalize σ 12 = tt12 at *; generalize σ 13 = tt13 at *; generalize σ 14 = tt14 at *; generalize σ 15 = tt15 at *; generalize σ 16 = tt16 at *; generalize σ 17 = tt17 at *; generalize σ 18 = tt18 at *; generalize σ 19 = tt19 at *; generalize σ 20 = tt20 at *; generalize σ 21 = tt21 at *; generalize σ 22 = tt22 at *; generalize σ 23 = tt23 at *; generalize σ 24 = tt24 at *; generalize σ 25 = tt25 at *; generalize σ 26 = tt26 at *; generalize σ 27 = tt27 at *; generalize σ 28 = tt28 at *; generalize σ 29 = tt29 at *; generalize σ 30 = tt30 at *; generalize σ 31 = tt31 at *; generalize σ 32 = tt32 at *; generalize σ 33 = tt33 at *; generalize σ 34 = tt34 at *; generalize σ 35 = tt35 at *; generalize σ 36 = tt36 at *; generalize σ 37 = tt37 at *; generalize σ 38 = tt38 at *; generalize σ 39 = tt39 at *; generalize σ 40 = tt40 at *; generalize σ 41 = tt41 at *; generalize σ 42 = tt42 at *; generalize σ 43 = tt43 at *; generalize σ 44 = tt44 at *; generalize σ 45 = tt45 at *; generalize σ 46 = tt46 at *; generalize σ 47 = tt47 at *; generalize σ 48 = tt48 at *; generalize σ 49 = tt49 at *; generalize σ 50 = tt50 at *; generalize σ 51 = tt51 at *; generalize σ 52 = tt52 at *; generalize σ 53 = tt53 at *; generalize σ 54 = tt54 at *; generalize σ 55 = tt55 at *; generalize σ 56 = tt56 at *; generalize σ 57 = tt57 at *; generalize σ 58 = tt58 at *; generalize σ 59 = tt59 at *
            clear hF hG hall hin hout SOF
            go_wp2_with fail
            go_ret
            exact HY.out _ HB9.out
        · have eu : ru = true := by have := EU.out; simpa using this
          have ef : rf = rf1 := by have := EF.out; simpa using this
          have eg : rg = false := by have := EG.out; simpa using this
          have es : rs = rs1 := by have := ES.out; simpa using this
          subst eu ef eg es
          clear EU EF EG ES
          have w0 := (X6.out.next (Below.refl _ _)).cell 0 _ rfl
          have w1 := (X6.out.next (Below.refl _ _)).cell 1 _ rfl
          have u0 := (XU.out.next (Below.refl _ _)).cell 0 _ rfl
          have u1 := (XU.out.next (Below.refl _ _)).cell 1 _ rfl
          have u2 := (XU.out.next (Below.refl _ _)).cell 2 _ rfl
          go_wp2_with fail
          refine (CU.out _ (Below.refl _ _)).mono ?_
          rintro e wk1 ⟨rfl, bk⟩
          have HK1 := hide (Below.next (Below.refl _ _) bk)
          clear bk w0 w1 u0 u1 u2
          have w0 := (X6.out.next HK1.out).cell 0 _ rfl
          have w1 := (X6.out.next HK1.out).cell 1 _ rfl
          have f0 := (XF.out.next HK1.out).cell 0 _ rfl
          have f1 := (XF.out.next HK1.out).cell 1 _ rfl
          have f2 := (XF.out.next HK1.out).cell 2 _ rfl
          go_wp2_with fail
          refine (CF.out _ HK1.out).mono ?_
          rintro e wk2 ⟨rfl, bk⟩
          have HK2 := hide (Below.next HK1.out bk)
          clear bk w0 w1 f0 f1 f2
          have w0 := (X6.out.next HK2.out).cell 0 _ rfl
          have w1 := (X6.out.next HK2.out).cell 1 _ rfl
          have f0 := (XF.out.next HK2.out).cell 0 _ rfl
          have f1 := (XF.out.next HK2.out).cell 1 _ rfl
          have f2 := (XF.out.next HK2.out).cell 2 _ rfl
          go_wp2_with fail
          refine (CF1.out _ HK2.out).mono ?_
          rintro e wk3 ⟨rfl, bk⟩
          have HK3 := hide (Below.next HK2.out bk)
          clear bk w0 w1 f0 f1 f2
          have w0 := (X6.out.next HK3.out).cell 0 _ rfl
          have w1 := (X6.out.next HK3.out).cell 1 _ rfl
          have g0 := (XG.out.next HK3.out).cell 0 _ rfl
          have g1 := (XG.out.next HK3.out).cell 1 _ rfl
          have g2 := (XG.out.next HK3.out).cell 2 _ rfl
          go_wp2_with fail
          refine (CG.out _ HK3.out).mono ?_
          rintro e wk4 ⟨rfl, bk⟩
          have HK4 := hide (Below.next HK3.out bk)
          clear bk w0 w1 g0 g1 g2
          have w0 := (X6.out.next HK4.out).cell 0 _ rfl
          have w1 := (X6.out.next HK4.out).cell 1 _ rfl
          have s0 := (XS.out.next HK4.out).cell 0 _ rfl
          have s1 := (XS.out.next HK4.out).cell 1 _ rfl
          have s2 := (XS.out.next HK4.out).cell 2 _ rfl
          go_wp2_with fail
          refine (CS.out _ HK4.out).mono ?_
          rintro e wk5 ⟨rfl, bk⟩
          have HK5 := hide (Below.next HK4.out bk)
          clear bk w0 w1 s0 s1 s2
          have w0 := (X6.out.next HK5.out).cell 0 _ rfl
          have w1 := (X6.out.next HK5.out).cell 1 _ rfl
          have s0 := (XS.out.next HK5.out).cell 0 _ rfl
          have s1 := (XS.out.next HK5.out).cell 1 _ rfl
          have s2 := (XS.out.next HK5.out).cell 2 _ rfl
          go_wp2_with fail
          refine (CS1.out _ HK5.out).mono ?_
          rintro e wk6 ⟨rfl, bk⟩
          have HK6 := hide (Below.next HK5.out bk)
          clear bk w0 w1 s0 s1 s2
          go_upto_region 15 with fail
          have HBd := hide (Below.next HBc.out HK6.out)
          have X4 := hide (X4.out.next HK6.out)
          have X5 := hide (X5.out.next HK6.out)
          have X6 := hide (X6.out.next HK6.out)
          have SOF := hide (fun w (h : Below wk6.heap.size wk6 w) => (⟨(X4.out.next h).cell 0 _ rfl, (X4.out.next h).cell 1 _ rfl, (X4.out.next h).cell 2 _ rfl, (X5.out.next h).cell 0 _ rfl, (X5.out.next h).cell 1 _ rfl, (X5.out.next h).cell 2 _ rfl, (X6.out.next h).cell 0 _ rfl, (X6.out.next h).cell 1 _ rfl⟩ : _ ∧ _ ∧ _ ∧ _ ∧ _ ∧ _ ∧ _ ∧ _))
          refine wp_drawnL (by kernel_rfl) (by kernel_rfl) (by kernel_rfl) (by kernel_rfl) (fun w w' => Below w.heap.size w w') (fun j v w => match j with | 0 => v = .agg #[.int .i64 kp, .int .i64 pp, .slice Ap np cp] | 1 => ∃ A n c, v = .agg #[.int .i64 8, .int .i64 0, .slice A n c] ∧ DIn Some_ w (.mk 8 0 [tp]) (c3 8 0 A n c) | 2 => v = .agg #[.slice A1 L1.length c1, .slice A2 L2.length c2] | 3 => v = .int .i64 (y : Int) | 4 => v = .bool ra1 | 5 => v = .agg #[.int .i64 kp, .int .i64 pp, .slice Ap np cp] | 6 => v = .agg #[.slice A1 L1.length c1, .slice A2 L2.length c2] | 7 => v = .int .i64 (y : Int) | 8 => v = .int .i64 ((y : Int) + 1) | 9 => v = .bool ra1 | 10 => v = .bool true | 11 => v = .bool true | 12 => v = .agg #[.int .i64 kp, .int .i64 pp, .slice Ap np cp] | 13 => ∃ A n c, v = .agg #[.int .i64 3, .int .i64 0, .slice A n c] ∧ DIn Some_ w (.mk 3 0 [tp]) (c3 3 0 A n c) | 14 => v = .agg #[.slice A1 L1.length c1, .slice A2 L2.length c2] | 15 => v = .int .i64 (y : Int) | 16 => v = .bool true | 17 => v = .bool false | 18 => v = .bool true | 19 => v = .bool true | 20 => v = .bool true | 21 => v = .agg #[.int .i64 kp, .int .i64 pp, .slice Ap np cp] | 22 => v = .agg #[.int .i64 kq, .int .i64 pq, .slice Aq nq cq] | 23 => ∃ A n c, v = .agg #[.int .i64 4, .int .i64 0, .slice A n c] ∧ DIn Some_ w (.mk 4 0 [tp, tq]) (c3 4 0 A n c) | 24 => v = .agg #[.slice A1 L1.length c1, .slice A2 L2.length c2] | 25 => v = .int .i64 (y : Int) | 26 => v = .bool false | 27 => v = .bool false | 28 => v = .bool false | 29 => v = undef | 30 => v = .bool false | 31 => v = .bool true | 32 => v = .bool true | 33 => v = .bool true | 34 => v = .agg #[.int .i64 kp, .int .i64 pp, .slice Ap np cp] | 35 => v = .agg #[.int .i64 kq, .int .i64 pq, .slice Aq nq cq] | 36 => ∃ A n c, v = .agg #[.int .i64 5, .int .i64 0, .slice A n c] ∧ DIn Some_ w (.mk 5 0 [tp, tq]) (c3 5 0 A n c) | 37 => v = .agg #[.slice A1 L1.length c1, .slice A2 L2.length c2] | 38 => v = .int .i64 (y : Int) | 39 => v = .bool true | 40 => v = .bool false | 41 => v = .bool false | 42 => v = .bool true | 43 => v = .bool true | 44 => v = .bool true | 45 => v = .bool true | 46 => v = .bool true | 47 => v = .agg #[.int .i64 kp, .int .i64 pp, .slice Ap np cp] | 48 => v = .agg #[.int .i64 kq, .int .i64 pq, .slice Aq nq cq] | 49 => ∃ A n c, v = .agg #[.int .i64 7, .int .i64 0, .slice A n c] ∧ DIn Some_ w (.mk 7 0 [tp, tq]) (c3 7 0 A n c) | 50 => v = .agg #[.slice A1 L1.length c1, .slice A2 L2.length c2] | 51 => v = .int .i64 (y : Int) | 52 => v = .bool true | 53 => v = .bool false | 54 => v = .bool true | 55 => v = .bool true | 56 => v = undef | 57 => v = .bool true | 58 => v = .bool true | 59 => v = .bool true | _ => True) (fun _ _ w => Below wk6.heap.size wk6 w) ?_ (fun _ => bl_drewN wk6 1) ?_ ?_
          · intro j v w w' hT h
            match j, h with
            | 0, h => exact h
            | 1, h => exact (by obtain ⟨A, n, c, e, h1⟩ := h; exact ⟨A, n, c, e, h1.keep (Keep.of_below hT)⟩)
            | 2, h => exact h
            | 3, h => exact h
            | 4, h => exact h
            | 5, h => exact h
            | 6, h => exact h
            | 7, h => exact h
            | 8, h => exact h
            | 9, h => exact h
            | 10, h => exact h
            | 11, h => exact h
            | 12, h => exact h
            | 13, h => exact (by obtain ⟨A, n, c, e, h1⟩ := h; exact ⟨A, n, c, e, h1.keep (Keep.of_below hT)⟩)
            | 14, h => exact h
            | 15, h => exact h
            | 16, h => exact h
            | 17, h => exact h
            | 18, h => exact h
            | 19, h => exact h
            | 20, h => exact h
            | 21, h => exact h
            | 22, h => exact h
            | 23, h => exact (by obtain ⟨A, n, c, e, h1⟩ := h; exact ⟨A, n, c, e, h1.keep (Keep.of_below hT)⟩)
            | 24, h => exact h
            | 25, h => exact h
            | 26, h => exact h
            | 27, h => exact h
            | 28, h => exact h
            | 29, h => exact h
            | 30, h => exact h
            | 31, h => exact h
            | 32, h => exact h
            | 33, h => exact h
            | 34, h => exact h
            | 35, h => exact h
            | 36, h => exact (by obtain ⟨A, n, c, e, h1⟩ := h; exact ⟨A, n, c, e, h1.keep (Keep.of_below hT)⟩)
            | 37, h => exact h
            | 38, h => exact h
            | 39, h => exact h
            | 40, h => exact h
            | 41, h => exact h
            | 42, h => exact h
            | 43, h => exact h
            | 44, h => exact h
            | 45, h => exact h
            | 46, h => exact h
            | 47, h => exact h
            | 48, h => exact h
            | 49, h => exact (by obtain ⟨A, n, c, e, h1⟩ := h; exact ⟨A, n, c, e, h1.keep (Keep.of_below hT)⟩)
            | 50, h => exact h
            | 51, h => exact h
            | 52, h => exact h
            | 53, h => exact h
            | 54, h => exact h
            | 55, h => exact h
            | 56, h => exact h
            | 57, h => exact h
            | 58, h => exact h
            | 59, h => exact h
            | j + 60, h => trivial
          · refine ⟨?_, ?_, ?_, ?_, ?_, ?_, ?_, ?_, ?_, ?_, ?_, ?_, ?_, ?_, ?_, ?_, ?_, ?_, ?_, ?_, ?_, ?_, ?_, ?_, ?_, ?_, ?_, ?_, ?_, ?_, ?_, ?_, ?_, ?_, ?_, ?_, ?_, ?_, ?_, ?_, ?_, ?_, ?_, ?_, ?_, ?_, ?_, ?_, ?_, ?_, ?_, ?_, ?_, ?_, ?_, ?_, ?_, ?_, ?_, ?_, trivial⟩
            · intro listed σ w a hin hout hl hla hs hc hp hG hF
              refine Guarded.none rfl ?_
              have e4 : a.tmps.getD 4 undef = .pointer (some ⟨W.heap.size, 0, none⟩) := hout 4 (outB_spec (by kernel_rfl))
              have CC := SOF.out w hG; obtain ⟨C0, C1, C2, C3, C4, C5, C6, C7⟩ := CC
              refine Does.val (.agg #[.int .i64 kp, .int .i64 pp, .slice Ap np cp]) (w' := w) ?_ ⟨Below.refl _ _, rfl, hG⟩
              go_simp
            · intro listed σ w a hin hout hl hla hs hc hp hG hF
              refine Guarded.none rfl ?_
              have e123 : a.tmps.getD 123 undef = .agg #[.int .i64 kp, .int .i64 pp, .slice Ap np cp] := (hin 0 123 rfl (hp ⟨0, .data⟩ (by simp) rfl)).trans (hF 0 (hp ⟨0, .data⟩ (by simp) rfl))
              refine Does.call ?_ (lone_any Some_ 0 8 tp kp pp Ap np cp w ((DP.out.keep (Keep.of_below (HBd.out.next hG))).sub (fun _ _ _ => .inl trivial)) (Nat.zero_le _)) ?_
              · go_simp
              · rintro e w' ⟨A, n, c, rfl, hd, hb⟩
                exact ⟨_, rfl, hb, ⟨A, n, c, rfl, hd.sub (fun b _ _ => trivial)⟩, hG.next hb⟩
            · intro listed σ w a hin hout hl hla hs hc hp hG hF
              refine Guarded.none rfl ?_
              have e6 : a.tmps.getD 6 undef = .pointer (some ⟨W.heap.size + 1 + 1, 0, none⟩) := hout 6 (outB_spec (by kernel_rfl))
              have CC := SOF.out w hG; obtain ⟨C0, C1, C2, C3, C4, C5, C6, C7⟩ := CC
              refine Does.val (.agg #[.slice A1 L1.length c1, .slice A2 L2.length c2]) (w' := w) ?_ ⟨Below.refl _ _, rfl, hG⟩
              go_simp
            · intro listed σ w a hin hout hl hla hs hc hp hG hF
              refine Guarded.none rfl ?_
              have e3 : a.tmps.getD 3 undef = .int .i64 (y : Int) := hout 3 (outB_spec (by kernel_rfl))
              refine Does.val (.int .i64 (y : Int)) (w' := w) ?_ ⟨Below.refl _ _, rfl, hG⟩
              simp only [Array.getD_eq_getD_getElem?] at e3
              go_simp
            · intro listed σ w a hin hout hl hla hs hc hp hG hF
              refine Guarded.none rfl ?_
              have e124 := hin 1 124 rfl (hp ⟨1, .data⟩ (by simp) rfl)
              obtain ⟨Am1, nm1, cm1, ev1, hd1⟩ := hF 1 (hp ⟨1, .data⟩ (by simp) rfl)
              rw [ev1] at e124
              have e125 : a.tmps.getD 125 undef = .agg #[.slice A1 L1.length c1, .slice A2 L2.length c2] := (hin 2 125 rfl (hp ⟨2, .data⟩ (by simp) rfl)).trans (hF 2 (hp ⟨2, .data⟩ (by simp) rfl))
              have e126 : a.tmps.getD 126 undef = .int .i64 (y : Int) := (hin 3 126 rfl (hp ⟨3, .data⟩ (by simp) rfl)).trans (hF 3 (hp ⟨3, .data⟩ (by simp) rfl))
              refine Does.call ?_ (hv_call Some_ (.mk 8 0 [tp]) 8 0 Am1 nm1 cm1 A1 c1 A2 c2 L1 L2 (y : Int) y ra1 w hd1 (DW1.out.keep (Keep.of_below (HBd.out.next hG))) (DW2.out.keep (Keep.of_below (HBd.out.next hG))) HN0.out HN9.out (by omega) rfl (by rw [HV_next]; first | (rw [VA.out, VB.out]; rfl) | (rw [VA.out]; rfl) | exact VA1.out)) ?_
              · go_simp
              · rintro e w' ⟨rfl, hb⟩
                exact ⟨_, rfl, hb, rfl, hG.next hb⟩
            · intro listed σ w a hin hout hl hla hs hc hp hG hF
              refine Guarded.none rfl ?_
              have e4 : a.tmps.getD 4 undef = .pointer (some ⟨W.heap.size, 0, none⟩) := hout 4 (outB_spec (by kernel_rfl))
              have CC := SOF.out w hG; obtain ⟨C0, C1, C2, C3, C4, C5, C6, C7⟩ := CC
              refine Does.val (.agg #[.int .i64 kp, .int .i64 pp, .slice Ap np cp]) (w' := w) ?_ ⟨Below.refl _ _, rfl, hG⟩
              go_simp
            · intro listed σ w a hin hout hl hla hs hc hp hG hF
              refine Guarded.none rfl ?_
              have e6 : a.tmps.getD 6 undef = .pointer (some ⟨W.heap.size + 1 + 1, 0, none⟩) := hout 6 (outB_spec (by kernel_rfl))
              have CC := SOF.out w hG; obtain ⟨C0, C1, C2, C3, C4, C5, C6, C7⟩ := CC
              refine Does.val (.agg #[.slice A1 L1.length c1, .slice A2 L2.length c2]) (w' := w) ?_ ⟨Below.refl _ _, rfl, hG⟩
              go_simp
            · intro listed σ w a hin hout hl hla hs hc hp hG hF
              refine Guarded.none rfl ?_
              have e3 : a.tmps.getD 3 undef = .int .i64 (y : Int) := hout 3 (outB_spec (by kernel_rfl))
              refine Does.val (.int .i64 (y : Int)) (w' := w) ?_ ⟨Below.refl _ _, rfl, hG⟩
              simp only [Array.getD_eq_getD_getElem?] at e3
              go_simp
            · intro listed σ w a hin hout hl hla hs hc hp hG hF
              refine Guarded.none rfl ?_
              have e130 : a.tmps.getD 130 undef = .int .i64 (y : Int) := (hin 7 130 rfl (hp ⟨7, .data⟩ (by simp) rfl)).trans (hF 7 (hp ⟨7, .data⟩ (by simp) rfl))
              refine Does.val (.int .i64 ((y : Int) + 1)) (w' := w) ?_ ⟨Below.refl _ _, rfl, hG⟩
              simp only [Array.getD_eq_getD_getElem?] at e130
              go_simp
              first | done | (exact congrArg (Value.int .i64) (i64w (by omega) (by omega))) | (exact i64w (by omega) (by omega))
            · intro listed σ w a hin hout hl hla hs hc hp hG hF
              refine Guarded.none rfl ?_
              have e128 : a.tmps.getD 128 undef = .agg #[.int .i64 kp, .int .i64 pp, .slice Ap np cp] := (hin 5 128 rfl (hp ⟨5, .data⟩ (by simp) rfl)).trans (hF 5 (hp ⟨5, .data⟩ (by simp) rfl))
              have e129 : a.tmps.getD 129 undef = .agg #[.slice A1 L1.length c1, .slice A2 L2.length c2] := (hin 6 129 rfl (hp ⟨6, .data⟩ (by simp) rfl)).trans (hF 6 (hp ⟨6, .data⟩ (by simp) rfl))
              have e131 : a.tmps.getD 131 undef = .int .i64 ((y : Int) + 1) := (hin 8 131 rfl (hp ⟨8, .data⟩ (by simp) rfl)).trans (hF 8 (hp ⟨8, .data⟩ (by simp) rfl))
              refine Does.call ?_ (CA1.out w (HBd.out.next hG)) ?_
              · go_simp
              · rintro e w' ⟨rfl, hb⟩
                exact ⟨_, rfl, hb, rfl, hG.next hb⟩
            · intro listed σ w a hin hout hl hla hs hc hp hG hF
              refine Guarded.none rfl ?_
              have e127 : a.tmps.getD 127 undef = .bool ra1 := (hin 4 127 rfl (hp ⟨4, .data⟩ (by simp) rfl)).trans (hF 4 (hp ⟨4, .data⟩ (by simp) rfl))
              have e132 : a.tmps.getD 132 undef = .bool ra1 := (hin 9 132 rfl (hp ⟨9, .data⟩ (by simp) rfl)).trans (hF 9 (hp ⟨9, .data⟩ (by simp) rfl))
              refine Does.val (.bool true) (w' := w) ?_ ⟨Below.refl _ _, rfl, hG⟩
              simp only [Array.getD_eq_getD_getElem?] at e127 e132
              go_simp
            · intro listed σ w a hin hout hl hla hs hc hp hG hF
              refine Guarded.none rfl ?_
              have e133 : a.tmps.getD 133 undef = .bool true := (hin 10 133 rfl (hp ⟨10, .data⟩ (by simp) rfl)).trans (hF 10 (hp ⟨10, .data⟩ (by simp) rfl))
              refine Does.val (.bool true) (w' := w) ?_ ⟨Below.refl _ _, rfl, hG⟩
              simp only [Array.getD_eq_getD_getElem?] at e133
              go_simp
            · intro listed σ w a hin hout hl hla hs hc hp hG hF
              refine Guarded.some (d := 134) (b := true) rfl rfl ((hin 11 134 rfl (hp ⟨11, .guard⟩ (by simp) rfl)).trans (hF 11 (hp ⟨11, .guard⟩ (by simp) rfl))) ?_
              refine Or.inl ⟨rfl, ?_⟩
              have e4 : a.tmps.getD 4 undef = .pointer (some ⟨W.heap.size, 0, none⟩) := hout 4 (outB_spec (by kernel_rfl))
              have CC := SOF.out w hG; obtain ⟨C0, C1, C2, C3, C4, C5, C6, C7⟩ := CC
              refine Does.val (.agg #[.int .i64 kp, .int .i64 pp, .slice Ap np cp]) (w' := w) ?_ ⟨Below.refl _ _, rfl, hG⟩
              go_simp
            · intro listed σ w a hin hout hl hla hs hc hp hG hF
              refine Guarded.some (d := 134) (b := true) rfl rfl ((hin 11 134 rfl (hp ⟨11, .guard⟩ (by simp) rfl)).trans (hF 11 (hp ⟨11, .guard⟩ (by simp) rfl))) ?_
              refine Or.inl ⟨rfl, ?_⟩
              have e135 : a.tmps.getD 135 undef = .agg #[.int .i64 kp, .int .i64 pp, .slice Ap np cp] := (hin 12 135 rfl (hp ⟨12, .data⟩ (by simp) rfl)).trans (hF 12 (hp ⟨12, .data⟩ (by simp) rfl))
              refine Does.call ?_ (lone_any Some_ 0 3 tp kp pp Ap np cp w ((DP.out.keep (Keep.of_below (HBd.out.next hG))).sub (fun _ _ _ => .inl trivial)) (Nat.zero_le _)) ?_
              · go_simp
              · rintro e w' ⟨A, n, c, rfl, hd, hb⟩
                exact ⟨_, rfl, hb, ⟨A, n, c, rfl, hd.sub (fun b _ _ => trivial)⟩, hG.next hb⟩
            · intro listed σ w a hin hout hl hla hs hc hp hG hF
              refine Guarded.some (d := 134) (b := true) rfl rfl ((hin 11 134 rfl (hp ⟨11, .guard⟩ (by simp) rfl)).trans (hF 11 (hp ⟨11, .guard⟩ (by simp) rfl))) ?_
              refine Or.inl ⟨rfl, ?_⟩
              have e6 : a.tmps.getD 6 undef = .pointer (some ⟨W.heap.size + 1 + 1, 0, none⟩) := hout 6 (outB_spec (by kernel_rfl))
              have CC := SOF.out w hG; obtain ⟨C0, C1, C2, C3, C4, C5, C6, C7⟩ := CC
              refine Does.val (.agg #[.slice A1 L1.length c1, .slice A2 L2.length c2]) (w' := w) ?_ ⟨Below.refl _ _, rfl, hG⟩
              go_simp
            · intro listed σ w a hin hout hl hla hs hc hp hG hF
              refine Guarded.some (d := 134) (b := true) rfl rfl ((hin 11 134 rfl (hp ⟨11, .guard⟩ (by simp) rfl)).trans (hF 11 (hp ⟨11, .guard⟩ (by simp) rfl))) ?_
              refine Or.inl ⟨rfl, ?_⟩
              have e3 : a.tmps.getD 3 undef = .int .i64 (y : Int) := hout 3 (outB_spec (by kernel_rfl))
              refine Does.val (.int .i64 (y : Int)) (w' := w) ?_ ⟨Below.refl _ _, rfl, hG⟩
              simp only [Array.getD_eq_getD_getElem?] at e3
              go_simp
            · intro listed σ w a hin hout hl hla hs hc hp hG hF
              refine Guarded.some (d := 134) (b := true) rfl rfl ((hin 11 134 rfl (hp ⟨11, .guard⟩ (by simp) rfl)).trans (hF 11 (hp ⟨11, .guard⟩ (by simp) rfl))) ?_
              refine Or.inl ⟨rfl, ?_⟩
              have e136 := hin 13 136 rfl (hp ⟨13, .data⟩ (by simp) rfl)
              obtain ⟨Am13, nm13, cm13, ev13, hd13⟩ := hF 13 (hp ⟨13, .data⟩ (by simp) rfl)
              rw [ev13] at e136
              have e137 : a.tmps.getD 137 undef = .agg #[.slice A1 L1.length c1, .slice A2 L2.length c2] := (hin 14 137 rfl (hp ⟨14, .data⟩ (by simp) rfl)).trans (hF 14 (hp ⟨14, .data⟩ (by simp) rfl))
              have e138 : a.tmps.getD 138 undef = .int .i64 (y : Int) := (hin 15 138 rfl (hp ⟨15, .data⟩ (by simp) rfl)).trans (hF 15 (hp ⟨15, .data⟩ (by simp) rfl))
              refine Does.call ?_ (hv_call Some_ (.mk 3 0 [tp]) 3 0 Am13 nm13 cm13 A1 c1 A2 c2 L1 L2 (y : Int) y true w hd13 (DW1.out.keep (Keep.of_below (HBd.out.next hG))) (DW2.out.keep (Keep.of_below (HBd.out.next hG))) HN0.out HN9.out (by omega) rfl (by rw [HV_not]; first | (rw [VA.out, VB.out]; rfl) | (rw [VA.out]; rfl) | exact VA1.out)) ?_
              · go_simp
              · rintro e w' ⟨rfl, hb⟩
                exact ⟨_, rfl, hb, rfl, hG.next hb⟩
            · intro listed σ w a hin hout hl hla hs hc hp hG hF
              refine Guarded.some (d := 134) (b := true) rfl rfl ((hin 11 134 rfl (hp ⟨11, .guard⟩ (by simp) rfl)).trans (hF 11 (hp ⟨11, .guard⟩ (by simp) rfl))) ?_
              refine Or.inl ⟨rfl, ?_⟩
              have e9 : a.tmps.getD 9 undef = .bool false := hout 9 (outB_spec (by kernel_rfl))
              refine Does.val (.bool false) (w' := w) ?_ ⟨Below.refl _ _, rfl, hG⟩
              simp only [Array.getD_eq_getD_getElem?] at e9
              go_simp
            · intro listed σ w a hin hout hl hla hs hc hp hG hF
              refine Guarded.some (d := 134) (b := true) rfl rfl ((hin 11 134 rfl (hp ⟨11, .guard⟩ (by simp) rfl)).trans (hF 11 (hp ⟨11, .guard⟩ (by simp) rfl))) ?_
              refine Or.inl ⟨rfl, ?_⟩
              have e139 : a.tmps.getD 139 undef = .bool true := (hin 16 139 rfl (hp ⟨16, .data⟩ (by simp) rfl)).trans (hF 16 (hp ⟨16, .data⟩ (by simp) rfl))
              have e140 : a.tmps.getD 140 undef = .bool false := (hin 17 140 rfl (hp ⟨17, .data⟩ (by simp) rfl)).trans (hF 17 (hp ⟨17, .data⟩ (by simp) rfl))
              refine Does.val (.bool true) (w' := w) ?_ ⟨Below.refl _ _, rfl, hG⟩
              simp only [Array.getD_eq_getD_getElem?] at e139 e140
              go_simp
            · intro listed σ w a hin hout hl hla hs hc hp hG hF
              refine Guarded.none rfl ?_
              have e134 : a.tmps.getD 134 undef = .bool true := (hin 11 134 rfl (hp ⟨11, .data⟩ (by simp) rfl)).trans (hF 11 (hp ⟨11, .data⟩ (by simp) rfl))
              have e141 : a.tmps.getD 141 undef = .bool true := (hin 18 141 rfl (hp ⟨18, .data⟩ (by simp) rfl)).trans (hF 18 (hp ⟨18, .data⟩ (by simp) rfl))
              refine Does.val (.bool true) (w' := w) ?_ ⟨Below.refl _ _, rfl, hG⟩
              simp only [Array.getD_eq_getD_getElem?] at e134 e141
              go_simp
            · intro listed σ w a hin hout hl hla hs hc hp hG hF
              refine Guarded.none rfl ?_
              have e142 : a.tmps.getD 142 undef = .bool true := (hin 19 142 rfl (hp ⟨19, .data⟩ (by simp) rfl)).trans (hF 19 (hp ⟨19, .data⟩ (by simp) rfl))
              refine Does.val (.bool true) (w' := w) ?_ ⟨Below.refl _ _, rfl, hG⟩
              simp only [Array.getD_eq_getD_getElem?] at e142
              go_simp
            · intro listed σ w a hin hout hl hla hs hc hp hG hF
              refine Guarded.some (d := 143) (b := true) rfl rfl ((hin 20 143 rfl (hp ⟨20, .guard⟩ (by simp) rfl)).trans (hF 20 (hp ⟨20, .guard⟩ (by simp) rfl))) ?_
              refine Or.inl ⟨rfl, ?_⟩
              have e4 : a.tmps.getD 4 undef = .pointer (some ⟨W.heap.size, 0, none⟩) := hout 4 (outB_spec (by kernel_rfl))
              have CC := SOF.out w hG; obtain ⟨C0, C1, C2, C3, C4, C5, C6, C7⟩ := CC
              refine Does.val (.agg #[.int .i64 kp, .int .i64 pp, .slice Ap np cp]) (w' := w) ?_ ⟨Below.refl _ _, rfl, hG⟩
              go_simp
            · intro listed σ w a hin hout hl hla hs hc hp hG hF
              refine Guarded.some (d := 143) (b := true) rfl rfl ((hin 20 143 rfl (hp ⟨20, .guard⟩ (by simp) rfl)).trans (hF 20 (hp ⟨20, .guard⟩ (by simp) rfl))) ?_
              refine Or.inl ⟨rfl, ?_⟩
              have e5 : a.tmps.getD 5 undef = .pointer (some ⟨W.heap.size + 1, 0, none⟩) := hout 5 (outB_spec (by kernel_rfl))
              have CC := SOF.out w hG; obtain ⟨C0, C1, C2, C3, C4, C5, C6, C7⟩ := CC
              refine Does.val (.agg #[.int .i64 kq, .int .i64 pq, .slice Aq nq cq]) (w' := w) ?_ ⟨Below.refl _ _, rfl, hG⟩
              go_simp
            · intro listed σ w a hin hout hl hla hs hc hp hG hF
              refine Guarded.some (d := 143) (b := true) rfl rfl ((hin 20 143 rfl (hp ⟨20, .guard⟩ (by simp) rfl)).trans (hF 20 (hp ⟨20, .guard⟩ (by simp) rfl))) ?_
              refine Or.inl ⟨rfl, ?_⟩
              have e144 : a.tmps.getD 144 undef = .agg #[.int .i64 kp, .int .i64 pp, .slice Ap np cp] := (hin 21 144 rfl (hp ⟨21, .data⟩ (by simp) rfl)).trans (hF 21 (hp ⟨21, .data⟩ (by simp) rfl))
              have e145 : a.tmps.getD 145 undef = .agg #[.int .i64 kq, .int .i64 pq, .slice Aq nq cq] := (hin 22 145 rfl (hp ⟨22, .data⟩ (by simp) rfl)).trans (hF 22 (hp ⟨22, .data⟩ (by simp) rfl))
              refine Does.call ?_ (ltwo_any Some_ 0 4 tp tq kp pp Ap np cp kq pq Aq nq cq w ((DP.out.keep (Keep.of_below (HBd.out.next hG))).sub (fun _ _ _ => .inl trivial)) ((DQ.out.keep (Keep.of_below (HBd.out.next hG))).sub (fun _ _ _ => .inl trivial)) (Nat.zero_le _)) ?_
              · go_simp
              · rintro e w' ⟨A, n, c, rfl, hd, hb⟩
                exact ⟨_, rfl, hb, ⟨A, n, c, rfl, hd.sub (fun b _ _ => trivial)⟩, hG.next hb⟩
            · intro listed σ w a hin hout hl hla hs hc hp hG hF
              refine Guarded.some (d := 143) (b := true) rfl rfl ((hin 20 143 rfl (hp ⟨20, .guard⟩ (by simp) rfl)).trans (hF 20 (hp ⟨20, .guard⟩ (by simp) rfl))) ?_
              refine Or.inl ⟨rfl, ?_⟩
              have e6 : a.tmps.getD 6 undef = .pointer (some ⟨W.heap.size + 1 + 1, 0, none⟩) := hout 6 (outB_spec (by kernel_rfl))
              have CC := SOF.out w hG; obtain ⟨C0, C1, C2, C3, C4, C5, C6, C7⟩ := CC
              refine Does.val (.agg #[.slice A1 L1.length c1, .slice A2 L2.length c2]) (w' := w) ?_ ⟨Below.refl _ _, rfl, hG⟩
              go_simp
            · intro listed σ w a hin hout hl hla hs hc hp hG hF
              refine Guarded.some (d := 143) (b := true) rfl rfl ((hin 20 143 rfl (hp ⟨20, .guard⟩ (by simp) rfl)).trans (hF 20 (hp ⟨20, .guard⟩ (by simp) rfl))) ?_
              refine Or.inl ⟨rfl, ?_⟩
              have e3 : a.tmps.getD 3 undef = .int .i64 (y : Int) := hout 3 (outB_spec (by kernel_rfl))
              refine Does.val (.int .i64 (y : Int)) (w' := w) ?_ ⟨Below.refl _ _, rfl, hG⟩
              simp only [Array.getD_eq_getD_getElem?] at e3
              go_simp
            · intro listed σ w a hin hout hl hla hs hc hp hG hF
              refine Guarded.some (d := 143) (b := true) rfl rfl ((hin 20 143 rfl (hp ⟨20, .guard⟩ (by simp) rfl)).trans (hF 20 (hp ⟨20, .guard⟩ (by simp) rfl))) ?_
              refine Or.inl ⟨rfl, ?_⟩
              have e146 := hin 23 146 rfl (hp ⟨23, .data⟩ (by simp) rfl)
              obtain ⟨Am23, nm23, cm23, ev23, hd23⟩ := hF 23 (hp ⟨23, .data⟩ (by simp) rfl)
              rw [ev23] at e146
              have e147 : a.tmps.getD 147 undef = .agg #[.slice A1 L1.length c1, .slice A2 L2.length c2] := (hin 24 147 rfl (hp ⟨24, .data⟩ (by simp) rfl)).trans (hF 24 (hp ⟨24, .data⟩ (by simp) rfl))
              have e148 : a.tmps.getD 148 undef = .int .i64 (y : Int) := (hin 25 148 rfl (hp ⟨25, .data⟩ (by simp) rfl)).trans (hF 25 (hp ⟨25, .data⟩ (by simp) rfl))
              refine Does.call ?_ (hv_call Some_ (.mk 4 0 [tp, tq]) 4 0 Am23 nm23 cm23 A1 c1 A2 c2 L1 L2 (y : Int) y false w hd23 (DW1.out.keep (Keep.of_below (HBd.out.next hG))) (DW2.out.keep (Keep.of_below (HBd.out.next hG))) HN0.out HN9.out (by omega) rfl (by rw [HV_and]; first | (rw [VA.out, VB.out]; rfl) | (rw [VA.out]; rfl) | exact VA1.out)) ?_
              · go_simp
              · rintro e w' ⟨rfl, hb⟩
                exact ⟨_, rfl, hb, rfl, hG.next hb⟩
            · intro listed σ w a hin hout hl hla hs hc hp hG hF
              refine Guarded.some (d := 143) (b := true) rfl rfl ((hin 20 143 rfl (hp ⟨20, .guard⟩ (by simp) rfl)).trans (hF 20 (hp ⟨20, .guard⟩ (by simp) rfl))) ?_
              refine Or.inl ⟨rfl, ?_⟩
              have e9 : a.tmps.getD 9 undef = .bool false := hout 9 (outB_spec (by kernel_rfl))
              refine Does.val (.bool false) (w' := w) ?_ ⟨Below.refl _ _, rfl, hG⟩
              simp only [Array.getD_eq_getD_getElem?] at e9
              go_simp
            · intro listed σ w a hin hout hl hla hs hc hp hG hF
              refine Guarded.some (d := 143) (b := true) rfl rfl ((hin 20 143 rfl (hp ⟨20, .guard⟩ (by simp) rfl)).trans (hF 20 (hp ⟨20, .guard⟩ (by simp) rfl))) ?_
              refine Or.inl ⟨rfl, ?_⟩
              have e150 : a.tmps.getD 150 undef = .bool false := (hin 27 150 rfl (hp ⟨27, .data⟩ (by simp) rfl)).trans (hF 27 (hp ⟨27, .data⟩ (by simp) rfl))
              refine Does.val (.bool false) (w' := w) ?_ ⟨Below.refl _ _, rfl, hG⟩
              simp only [Array.getD_eq_getD_getElem?] at e150
              go_simp
            · intro listed σ w a hin hout hl hla hs hc hp hG hF
              refine Guarded.some (d := 151) (b := false) rfl rfl ((hin 28 151 rfl (hp ⟨28, .guard⟩ (by simp) rfl)).trans (hF 28 (hp ⟨28, .guard⟩ (by simp) rfl))) ?_
              exact Or.inr ⟨(fun h => by cases h), Below.refl _ _, rfl, hG⟩
            · intro listed σ w a hin hout hl hla hs hc hp hG hF
              refine Guarded.some (d := 143) (b := true) rfl rfl ((hin 20 143 rfl (hp ⟨20, .guard⟩ (by simp) rfl)).trans (hF 20 (hp ⟨20, .guard⟩ (by simp) rfl))) ?_
              refine Or.inl ⟨rfl, ?_⟩
              have e151 : a.tmps.getD 151 undef = .bool false := (hin 28 151 rfl (hp ⟨28, .data⟩ (by simp) rfl)).trans (hF 28 (hp ⟨28, .data⟩ (by simp) rfl))
              have e152 : a.tmps.getD 152 undef = undef := (hin 29 152 rfl (hp ⟨29, .data⟩ (by simp) rfl)).trans (hF 29 (hp ⟨29, .data⟩ (by simp) rfl))
              refine Does.val (.bool false) (w' := w) ?_ ⟨Below.refl _ _, rfl, hG⟩
              simp only [Array.getD_eq_getD_getElem?] at e151 e152
              go_simp
            · intro listed σ w a hin hout hl hla hs hc hp hG hF
              refine Guarded.some (d := 143) (b := true) rfl rfl ((hin 20 143 rfl (hp ⟨20, .guard⟩ (by simp) rfl)).trans (hF 20 (hp ⟨20, .guard⟩ (by simp) rfl))) ?_
              refine Or.inl ⟨rfl, ?_⟩
              have e149 : a.tmps.getD 149 undef = .bool false := (hin 26 149 rfl (hp ⟨26, .data⟩ (by simp) rfl)).trans (hF 26 (hp ⟨26, .data⟩ (by simp) rfl))
              have e153 : a.tmps.getD 153 undef = .bool false := (hin 30 153 rfl (hp ⟨30, .data⟩ (by simp) rfl)).trans (hF 30 (hp ⟨30, .data⟩ (by simp) rfl))
              refine Does.val (.bool true) (w' := w) ?_ ⟨Below.refl _ _, rfl, hG⟩
              simp only [Array.getD_eq_getD_getElem?] at e149 e153
              go_simp
            · intro listed σ w a hin hout hl hla hs hc hp hG hF
              refine Guarded.none rfl ?_
              have e143 : a.tmps.getD 143 undef = .bool true := (hin 20 143 rfl (hp ⟨20, .data⟩ (by simp) rfl)).trans (hF 20 (hp ⟨20, .data⟩ (by simp) rfl))
              have e154 : a.tmps.getD 154 undef = .bool true := (hin 31 154 rfl (hp ⟨31, .data⟩ (by simp) rfl)).trans (hF 31 (hp ⟨31, .data⟩ (by simp) rfl))
              refine Does.val (.bool true) (w' := w) ?_ ⟨Below.refl _ _, rfl, hG⟩
              simp only [Array.getD_eq_getD_getElem?] at e143 e154
              go_simp
            · intro listed σ w a hin hout hl hla hs hc hp hG hF
              refine Guarded.none rfl ?_
              have e155 : a.tmps.getD 155 undef = .bool true := (hin 32 155 rfl (hp ⟨32, .data⟩ (by simp) rfl)).trans (hF 32 (hp ⟨32, .data⟩ (by simp) rfl))
              refine Does.val (.bool true) (w' := w) ?_ ⟨Below.refl _ _, rfl, hG⟩
              simp only [Array.getD_eq_getD_getElem?] at e155
              go_simp
            · intro listed σ w a hin hout hl hla hs hc hp hG hF
              refine Guarded.some (d := 156) (b := true) rfl rfl ((hin 33 156 rfl (hp ⟨33, .guard⟩ (by simp) rfl)).trans (hF 33 (hp ⟨33, .guard⟩ (by simp) rfl))) ?_
              refine Or.inl ⟨rfl, ?_⟩
              have e4 : a.tmps.getD 4 undef = .pointer (some ⟨W.heap.size, 0, none⟩) := hout 4 (outB_spec (by kernel_rfl))
              have CC := SOF.out w hG; obtain ⟨C0, C1, C2, C3, C4, C5, C6, C7⟩ := CC
              refine Does.val (.agg #[.int .i64 kp, .int .i64 pp, .slice Ap np cp]) (w' := w) ?_ ⟨Below.refl _ _, rfl, hG⟩
              go_simp
            · intro listed σ w a hin hout hl hla hs hc hp hG hF
              refine Guarded.some (d := 156) (b := true) rfl rfl ((hin 33 156 rfl (hp ⟨33, .guard⟩ (by simp) rfl)).trans (hF 33 (hp ⟨33, .guard⟩ (by simp) rfl))) ?_
              refine Or.inl ⟨rfl, ?_⟩
              have e5 : a.tmps.getD 5 undef = .pointer (some ⟨W.heap.size + 1, 0, none⟩) := hout 5 (outB_spec (by kernel_rfl))
              have CC := SOF.out w hG; obtain ⟨C0, C1, C2, C3, C4, C5, C6, C7⟩ := CC
              refine Does.val (.agg #[.int .i64 kq, .int .i64 pq, .slice Aq nq cq]) (w' := w) ?_ ⟨Below.refl _ _, rfl, hG⟩
              go_simp
            · intro listed σ w a hin hout hl hla hs hc hp hG hF
              refine Guarded.some (d := 156) (b := true) rfl rfl ((hin 33 156 rfl (hp ⟨33, .guard⟩ (by simp) rfl)).trans (hF 33 (hp ⟨33, .guard⟩ (by simp) rfl))) ?_
              refine Or.inl ⟨rfl, ?_⟩
              have e157 : a.tmps.getD 157 undef = .agg #[.int .i64 kp, .int .i64 pp, .slice Ap np cp] := (hin 34 157 rfl (hp ⟨34, .data⟩ (by simp) rfl)).trans (hF 34 (hp ⟨34, .data⟩ (by simp) rfl))
              have e158 : a.tmps.getD 158 undef = .agg #[.int .i64 kq, .int .i64 pq, .slice Aq nq cq] := (hin 35 158 rfl (hp ⟨35, .data⟩ (by simp) rfl)).trans (hF 35 (hp ⟨35, .data⟩ (by simp) rfl))
              refine Does.call ?_ (ltwo_any Some_ 0 5 tp tq kp pp Ap np cp kq pq Aq nq cq w ((DP.out.keep (Keep.of_below (HBd.out.next hG))).sub (fun _ _ _ => .inl trivial)) ((DQ.out.keep (Keep.of_below (HBd.out.next hG))).sub (fun _ _ _ => .inl trivial)) (Nat.zero_le _)) ?_
              · go_simp
              · rintro e w' ⟨A, n, c, rfl, hd, hb⟩
                exact ⟨_, rfl, hb, ⟨A, n, c, rfl, hd.sub (fun b _ _ => trivial)⟩, hG.next hb⟩
            · intro listed σ w a hin hout hl hla hs hc hp hG hF
              refine Guarded.some (d := 156) (b := true) rfl rfl ((hin 33 156 rfl (hp ⟨33, .guard⟩ (by simp) rfl)).trans (hF 33 (hp ⟨33, .guard⟩ (by simp) rfl))) ?_
              refine Or.inl ⟨rfl, ?_⟩
              have e6 : a.tmps.getD 6 undef = .pointer (some ⟨W.heap.size + 1 + 1, 0, none⟩) := hout 6 (outB_spec (by kernel_rfl))
              have CC := SOF.out w hG; obtain ⟨C0, C1, C2, C3, C4, C5, C6, C7⟩ := CC
              refine Does.val (.agg #[.slice A1 L1.length c1, .slice A2 L2.length c2]) (w' := w) ?_ ⟨Below.refl _ _, rfl, hG⟩
              go_simp
            · intro listed σ w a hin hout hl hla hs hc hp hG hF
              refine Guarded.some (d := 156) (b := true) rfl rfl ((hin 33 156 rfl (hp ⟨33, .guard⟩ (by simp) rfl)).trans (hF 33 (hp ⟨33, .guard⟩ (by simp) rfl))) ?_
              refine Or.inl ⟨rfl, ?_⟩
              have e3 : a.tmps.getD 3 undef = .int .i64 (y : Int) := hout 3 (outB_spec (by kernel_rfl))
              refine Does.val (.int .i64 (y : Int)) (w' := w) ?_ ⟨Below.refl _ _, rfl, hG⟩
              simp only [Array.getD_eq_getD_getElem?] at e3
              go_simp
            · intro listed σ w a hin hout hl hla hs hc hp hG hF
              refine Guarded.some (d := 156) (b := true) rfl rfl ((hin 33 156 rfl (hp ⟨33, .guard⟩ (by simp) rfl)).trans (hF 33 (hp ⟨33, .guard⟩ (by simp) rfl))) ?_
              refine Or.inl ⟨rfl, ?_⟩
              have e159 := hin 36 159 rfl (hp ⟨36, .data⟩ (by simp) rfl)
              obtain ⟨Am36, nm36, cm36, ev36, hd36⟩ := hF 36 (hp ⟨36, .data⟩ (by simp) rfl)
              rw [ev36] at e159
              have e160 : a.tmps.getD 160 undef = .agg #[.slice A1 L1.length c1, .slice A2 L2.length c2] := (hin 37 160 rfl (hp ⟨37, .data⟩ (by simp) rfl)).trans (hF 37 (hp ⟨37, .data⟩ (by simp) rfl))
              have e161 : a.tmps.getD 161 undef = .int .i64 (y : Int) := (hin 38 161 rfl (hp ⟨38, .data⟩ (by simp) rfl)).trans (hF 38 (hp ⟨38, .data⟩ (by simp) rfl))
              refine Does.call ?_ (hv_call Some_ (.mk 5 0 [tp, tq]) 5 0 Am36 nm36 cm36 A1 c1 A2 c2 L1 L2 (y : Int) y true w hd36 (DW1.out.keep (Keep.of_below (HBd.out.next hG))) (DW2.out.keep (Keep.of_below (HBd.out.next hG))) HN0.out HN9.out (by omega) rfl (by rw [HV_or]; first | (rw [VA.out, VB.out]; rfl) | (rw [VA.out]; rfl) | exact VA1.out)) ?_
              · go_simp
              · rintro e w' ⟨rfl, hb⟩
                exact ⟨_, rfl, hb, rfl, hG.next hb⟩
            · intro listed σ w a hin hout hl hla hs hc hp hG hF
              refine Guarded.some (d := 156) (b := true) rfl rfl ((hin 33 156 rfl (hp ⟨33, .guard⟩ (by simp) rfl)).trans (hF 33 (hp ⟨33, .guard⟩ (by simp) rfl))) ?_
              refine Or.inl ⟨rfl, ?_⟩
              have e9 : a.tmps.getD 9 undef = .bool false := hout 9 (outB_spec (by kernel_rfl))
              refine Does.val (.bool false) (w' := w) ?_ ⟨Below.refl _ _, rfl, hG⟩
              simp only [Array.getD_eq_getD_getElem?] at e9
              go_simp
            · intro listed σ w a hin hout hl hla hs hc hp hG hF
              refine Guarded.some (d := 156) (b := true) rfl rfl ((hin 33 156 rfl (hp ⟨33, .guard⟩ (by simp) rfl)).trans (hF 33 (hp ⟨33, .guard⟩ (by simp) rfl))) ?_
              refine Or.inl ⟨rfl, ?_⟩
              have e163 : a.tmps.getD 163 undef = .bool false := (hin 40 163 rfl (hp ⟨40, .data⟩ (by simp) rfl)).trans (hF 40 (hp ⟨40, .data⟩ (by simp) rfl))
              refine Does.val (.bool false) (w' := w) ?_ ⟨Below.refl _ _, rfl, hG⟩
              simp only [Array.getD_eq_getD_getElem?] at e163
              go_simp
            · intro listed σ w a hin hout hl hla hs hc hp hG hF
              refine Guarded.some (d := 164) (b := false) rfl rfl ((hin 41 164 rfl (hp ⟨41, .guard⟩ (by simp) rfl)).trans (hF 41 (hp ⟨41, .guard⟩ (by simp) rfl))) ?_
              refine Or.inl ⟨rfl, ?_⟩
              have e10 : a.tmps.getD 10 undef = .bool true := hout 10 (outB_spec (by kernel_rfl))
              refine Does.val (.bool true) (w' := w) ?_ ⟨Below.refl _ _, rfl, hG⟩
              simp only [Array.getD_eq_getD_getElem?] at e10
              go_simp
            · intro listed σ w a hin hout hl hla hs hc hp hG hF
              refine Guarded.some (d := 156) (b := true) rfl rfl ((hin 33 156 rfl (hp ⟨33, .guard⟩ (by simp) rfl)).trans (hF 33 (hp ⟨33, .guard⟩ (by simp) rfl))) ?_
              refine Or.inl ⟨rfl, ?_⟩
              have e164 : a.tmps.getD 164 undef = .bool false := (hin 41 164 rfl (hp ⟨41, .data⟩ (by simp) rfl)).trans (hF 41 (hp ⟨41, .data⟩ (by simp) rfl))
              have e165 : a.tmps.getD 165 undef = .bool true := (hin 42 165 rfl (hp ⟨42, .data⟩ (by simp) rfl)).trans (hF 42 (hp ⟨42, .data⟩ (by simp) rfl))
              refine Does.val (.bool true) (w' := w) ?_ ⟨Below.refl _ _, rfl, hG⟩
              simp only [Array.getD_eq_getD_getElem?] at e164 e165
              go_simp
            · intro listed σ w a hin hout hl hla hs hc hp hG hF
              refine Guarded.some (d := 156) (b := true) rfl rfl ((hin 33 156 rfl (hp ⟨33, .guard⟩ (by simp) rfl)).trans (hF 33 (hp ⟨33, .guard⟩ (by simp) rfl))) ?_
              refine Or.inl ⟨rfl, ?_⟩
              have e162 : a.tmps.getD 162 undef = .bool true := (hin 39 162 rfl (hp ⟨39, .data⟩ (by simp) rfl)).trans (hF 39 (hp ⟨39, .data⟩ (by simp) rfl))
              have e166 : a.tmps.getD 166 undef = .bool true := (hin 43 166 rfl (hp ⟨43, .data⟩ (by simp) rfl)).trans (hF 43 (hp ⟨43, .data⟩ (by simp) rfl))
              refine Does.val (.bool true) (w' := w) ?_ ⟨Below.refl _ _, rfl, hG⟩
              simp only [Array.getD_eq_getD_getElem?] at e162 e166
              go_simp
            · intro listed σ w a hin hout hl hla hs hc hp hG hF
              refine Guarded.none rfl ?_
              have e156 : a.tmps.getD 156 undef = .bool true := (hin 33 156 rfl (hp ⟨33, .data⟩ (by simp) rfl)).trans (hF 33 (hp ⟨33, .data⟩ (by simp) rfl))
              have e167 : a.tmps.getD 167 undef = .bool true := (hin 44 167 rfl (hp ⟨44, .data⟩ (by simp) rfl)).trans (hF 44 (hp ⟨44, .data⟩ (by simp) rfl))
              refine Does.val (.bool true) (w' := w) ?_ ⟨Below.refl _ _, rfl, hG⟩
              simp only [Array.getD_eq_getD_getElem?] at e156 e167
              go_simp
            · intro listed σ w a hin hout hl hla hs hc hp hG hF
              refine Guarded.none rfl ?_
              have e168 : a.tmps.getD 168 undef = .bool true := (hin 45 168 rfl (hp ⟨45, .data⟩ (by simp) rfl)).trans (hF 45 (hp ⟨45, .data⟩ (by simp) rfl))
              refine Does.val (.bool true) (w' := w) ?_ ⟨Below.refl _ _, rfl, hG⟩
              simp only [Array.getD_eq_getD_getElem?] at e168
              go_simp
            · intro listed σ w a hin hout hl hla hs hc hp hG hF
              refine Guarded.some (d := 169) (b := true) rfl rfl ((hin 46 169 rfl (hp ⟨46, .guard⟩ (by simp) rfl)).trans (hF 46 (hp ⟨46, .guard⟩ (by simp) rfl))) ?_
              refine Or.inl ⟨rfl, ?_⟩
              have e4 : a.tmps.getD 4 undef = .pointer (some ⟨W.heap.size, 0, none⟩) := hout 4 (outB_spec (by kernel_rfl))
              have CC := SOF.out w hG; obtain ⟨C0, C1, C2, C3, C4, C5, C6, C7⟩ := CC
              refine Does.val (.agg #[.int .i64 kp, .int .i64 pp, .slice Ap np cp]) (w' := w) ?_ ⟨Below.refl _ _, rfl, hG⟩
              go_simp
            · intro listed σ w a hin hout hl hla hs hc hp hG hF
              refine Guarded.some (d := 169) (b := true) rfl rfl ((hin 46 169 rfl (hp ⟨46, .guard⟩ (by simp) rfl)).trans (hF 46 (hp ⟨46, .guard⟩ (by simp) rfl))) ?_
              refine Or.inl ⟨rfl, ?_⟩
              have e5 : a.tmps.getD 5 undef = .pointer (some ⟨W.heap.size + 1, 0, none⟩) := hout 5 (outB_spec (by kernel_rfl))
              have CC := SOF.out w hG; obtain ⟨C0, C1, C2, C3, C4, C5, C6, C7⟩ := CC
              refine Does.val (.agg #[.int .i64 kq, .int .i64 pq, .slice Aq nq cq]) (w' := w) ?_ ⟨Below.refl _ _, rfl, hG⟩
              go_simp
            · intro listed σ w a hin hout hl hla hs hc hp hG hF
              refine Guarded.some (d := 169) (b := true) rfl rfl ((hin 46 169 rfl (hp ⟨46, .guard⟩ (by simp) rfl)).trans (hF 46 (hp ⟨46, .guard⟩ (by simp) rfl))) ?_
              refine Or.inl ⟨rfl, ?_⟩
              have e170 : a.tmps.getD 170 undef = .agg #[.int .i64 kp, .int .i64 pp, .slice Ap np cp] := (hin 47 170 rfl (hp ⟨47, .data⟩ (by simp) rfl)).trans (hF 47 (hp ⟨47, .data⟩ (by simp) rfl))
              have e171 : a.tmps.getD 171 undef = .agg #[.int .i64 kq, .int .i64 pq, .slice Aq nq cq] := (hin 48 171 rfl (hp ⟨48, .data⟩ (by simp) rfl)).trans (hF 48 (hp ⟨48, .data⟩ (by simp) rfl))
              refine Does.call ?_ (ltwo_any Some_ 0 7 tp tq kp pp Ap np cp kq pq Aq nq cq w ((DP.out.keep (Keep.of_below (HBd.out.next hG))).sub (fun _ _ _ => .inl trivial)) ((DQ.out.keep (Keep.of_below (HBd.out.next hG))).sub (fun _ _ _ => .inl trivial)) (Nat.zero_le _)) ?_
              · go_simp
              · rintro e w' ⟨A, n, c, rfl, hd, hb⟩
                exact ⟨_, rfl, hb, ⟨A, n, c, rfl, hd.sub (fun b _ _ => trivial)⟩, hG.next hb⟩
            · intro listed σ w a hin hout hl hla hs hc hp hG hF
              refine Guarded.some (d := 169) (b := true) rfl rfl ((hin 46 169 rfl (hp ⟨46, .guard⟩ (by simp) rfl)).trans (hF 46 (hp ⟨46, .guard⟩ (by simp) rfl))) ?_
              refine Or.inl ⟨rfl, ?_⟩
              have e6 : a.tmps.getD 6 undef = .pointer (some ⟨W.heap.size + 1 + 1, 0, none⟩) := hout 6 (outB_spec (by kernel_rfl))
              have CC := SOF.out w hG; obtain ⟨C0, C1, C2, C3, C4, C5, C6, C7⟩ := CC
              refine Does.val (.agg #[.slice A1 L1.length c1, .slice A2 L2.length c2]) (w' := w) ?_ ⟨Below.refl _ _, rfl, hG⟩
              go_simp
            · intro listed σ w a hin hout hl hla hs hc hp hG hF
              refine Guarded.some (d := 169) (b := true) rfl rfl ((hin 46 169 rfl (hp ⟨46, .guard⟩ (by simp) rfl)).trans (hF 46 (hp ⟨46, .guard⟩ (by simp) rfl))) ?_
              refine Or.inl ⟨rfl, ?_⟩
              have e3 : a.tmps.getD 3 undef = .int .i64 (y : Int) := hout 3 (outB_spec (by kernel_rfl))
              refine Does.val (.int .i64 (y : Int)) (w' := w) ?_ ⟨Below.refl _ _, rfl, hG⟩
              simp only [Array.getD_eq_getD_getElem?] at e3
              go_simp
            · intro listed σ w a hin hout hl hla hs hc hp hG hF
              refine Guarded.some (d := 169) (b := true) rfl rfl ((hin 46 169 rfl (hp ⟨46, .guard⟩ (by simp) rfl)).trans (hF 46 (hp ⟨46, .guard⟩ (by simp) rfl))) ?_
              refine Or.inl ⟨rfl, ?_⟩
              have e172 := hin 49 172 rfl (hp ⟨49, .data⟩ (by simp) rfl)
              obtain ⟨Am49, nm49, cm49, ev49, hd49⟩ := hF 49 (hp ⟨49, .data⟩ (by simp) rfl)
              rw [ev49] at e172
              have e173 : a.tmps.getD 173 undef = .agg #[.slice A1 L1.length c1, .slice A2 L2.length c2] := (hin 50 173 rfl (hp ⟨50, .data⟩ (by simp) rfl)).trans (hF 50 (hp ⟨50, .data⟩ (by simp) rfl))
              have e174 : a.tmps.getD 174 undef = .int .i64 (y : Int) := (hin 51 174 rfl (hp ⟨51, .data⟩ (by simp) rfl)).trans (hF 51 (hp ⟨51, .data⟩ (by simp) rfl))
              refine Does.call ?_ (hv_call Some_ (.mk 7 0 [tp, tq]) 7 0 Am49 nm49 cm49 A1 c1 A2 c2 L1 L2 (y : Int) y true w hd49 (DW1.out.keep (Keep.of_below (HBd.out.next hG))) (DW2.out.keep (Keep.of_below (HBd.out.next hG))) HN0.out HN9.out (by omega) rfl (by rw [HV_imp]; first | (rw [VA.out, VB.out]; rfl) | (rw [VA.out]; rfl) | exact VA1.out)) ?_
              · go_simp
              · rintro e w' ⟨rfl, hb⟩
                exact ⟨_, rfl, hb, rfl, hG.next hb⟩
            · intro listed σ w a hin hout hl hla hs hc hp hG hF
              refine Guarded.some (d := 169) (b := true) rfl rfl ((hin 46 169 rfl (hp ⟨46, .guard⟩ (by simp) rfl)).trans (hF 46 (hp ⟨46, .guard⟩ (by simp) rfl))) ?_
              refine Or.inl ⟨rfl, ?_⟩
              have e9 : a.tmps.getD 9 undef = .bool false := hout 9 (outB_spec (by kernel_rfl))
              refine Does.val (.bool false) (w' := w) ?_ ⟨Below.refl _ _, rfl, hG⟩
              simp only [Array.getD_eq_getD_getElem?] at e9
              go_simp
            · intro listed σ w a hin hout hl hla hs hc hp hG hF
              refine Guarded.some (d := 169) (b := true) rfl rfl ((hin 46 169 rfl (hp ⟨46, .guard⟩ (by simp) rfl)).trans (hF 46 (hp ⟨46, .guard⟩ (by simp) rfl))) ?_
              refine Or.inl ⟨rfl, ?_⟩
              have e176 : a.tmps.getD 176 undef = .bool false := (hin 53 176 rfl (hp ⟨53, .data⟩ (by simp) rfl)).trans (hF 53 (hp ⟨53, .data⟩ (by simp) rfl))
              refine Does.val (.bool true) (w' := w) ?_ ⟨Below.refl _ _, rfl, hG⟩
              simp only [Array.getD_eq_getD_getElem?] at e176
              go_simp
            · intro listed σ w a hin hout hl hla hs hc hp hG hF
              refine Guarded.some (d := 169) (b := true) rfl rfl ((hin 46 169 rfl (hp ⟨46, .guard⟩ (by simp) rfl)).trans (hF 46 (hp ⟨46, .guard⟩ (by simp) rfl))) ?_
              refine Or.inl ⟨rfl, ?_⟩
              have e177 : a.tmps.getD 177 undef = .bool true := (hin 54 177 rfl (hp ⟨54, .data⟩ (by simp) rfl)).trans (hF 54 (hp ⟨54, .data⟩ (by simp) rfl))
              refine Does.val (.bool true) (w' := w) ?_ ⟨Below.refl _ _, rfl, hG⟩
              simp only [Array.getD_eq_getD_getElem?] at e177
              go_simp
            · intro listed σ w a hin hout hl hla hs hc hp hG hF
              refine Guarded.some (d := 178) (b := true) rfl rfl ((hin 55 178 rfl (hp ⟨55, .guard⟩ (by simp) rfl)).trans (hF 55 (hp ⟨55, .guard⟩ (by simp) rfl))) ?_
              exact Or.inr ⟨(fun h => by cases h), Below.refl _ _, rfl, hG⟩
            · intro listed σ w a hin hout hl hla hs hc hp hG hF
              refine Guarded.some (d := 169) (b := true) rfl rfl ((hin 46 169 rfl (hp ⟨46, .guard⟩ (by simp) rfl)).trans (hF 46 (hp ⟨46, .guard⟩ (by simp) rfl))) ?_
              refine Or.inl ⟨rfl, ?_⟩
              have e178 : a.tmps.getD 178 undef = .bool true := (hin 55 178 rfl (hp ⟨55, .data⟩ (by simp) rfl)).trans (hF 55 (hp ⟨55, .data⟩ (by simp) rfl))
              have e179 : a.tmps.getD 179 undef = undef := (hin 56 179 rfl (hp ⟨56, .data⟩ (by simp) rfl)).trans (hF 56 (hp ⟨56, .data⟩ (by simp) rfl))
              refine Does.val (.bool true) (w' := w) ?_ ⟨Below.refl _ _, rfl, hG⟩
              simp only [Array.getD_eq_getD_getElem?] at e178 e179
              go_simp
            · intro listed σ w a hin hout hl hla hs hc hp hG hF
              refine Guarded.some (d := 169) (b := true) rfl rfl ((hin 46 169 rfl (hp ⟨46, .guard⟩ (by simp) rfl)).trans (hF 46 (hp ⟨46, .guard⟩ (by simp) rfl))) ?_
              refine Or.inl ⟨rfl, ?_⟩
              have e175 : a.tmps.getD 175 undef = .bool true := (hin 52 175 rfl (hp ⟨52, .data⟩ (by simp) rfl)).trans (hF 52 (hp ⟨52, .data⟩ (by simp) rfl))
              have e180 : a.tmps.getD 180 undef = .bool true := (hin 57 180 rfl (hp ⟨57, .data⟩ (by simp) rfl)).trans (hF 57 (hp ⟨57, .data⟩ (by simp) rfl))
              refine Does.val (.bool true) (w' := w) ?_ ⟨Below.refl _ _, rfl, hG⟩
              simp only [Array.getD_eq_getD_getElem?] at e175 e180
              go_simp
            · intro listed σ w a hin hout hl hla hs hc hp hG hF
              refine Guarded.none rfl ?_
              have e169 : a.tmps.getD 169 undef = .bool true := (hin 46 169 rfl (hp ⟨46, .data⟩ (by simp) rfl)).trans (hF 46 (hp ⟨46, .data⟩ (by simp) rfl))
              have e181 : a.tmps.getD 181 undef = .bool true := (hin 58 181 rfl (hp ⟨58, .data⟩ (by simp) rfl)).trans (hF 58 (hp ⟨58, .data⟩ (by simp) rfl))
              refine Does.val (.bool true) (w' := w) ?_ ⟨Below.refl _ _, rfl, hG⟩
              simp only [Array.getD_eq_getD_getElem?] at e169 e181
              go_simp
          · intro o ho
            injection ho with ho; subst ho
            intro listed σ w a hall hin hout hG hF
            refine Guarded.none rfl ?_
            have e182 : a.tmps.getD 182 undef = .bool true := (hin 59 182 rfl (by decide)).trans (hF 59 (by decide))
            refine Does.val (.bool true) (w' := w) (by simp only [Array.getD_eq_getD_getElem?] at *; go_simp) ?_
            rw [show fin _ σ (.bool true) _ = (Act.put (Act.put (Act.put (Act.put (Act.put (Act.put (Act.put (Act.put (Act.put (Act.put (Act.put (Act.put (Act.put (Act.put (Act.put (Act.put (Act.put (Act.put (Act.put (Act.put (Act.put (Act.put (Act.put (Act.put (Act.put (Act.put (Act.put (Act.put (Act.put (Act.put (Act.put (Act.put (Act.put (Act.put (Act.put (Act.put (Act.put (Act.put (Act.put (Act.put (Act.put (Act.put (Act.put (Act.put (Act.put (Act.put (Act.put (Act.put (Act.put (Act.put (Act.put (Act.put (Act.put (Act.put (Act.put (Act.put (Act.put (Act.put (Act.put (Act.put (Act.put _ (some 123) (σ 0)) (some 124) (σ 1)) (some 125) (σ 2)) (some 126) (σ 3)) (some 127) (σ 4)) (some 128) (σ 5)) (some 129) (σ 6)) (some 130) (σ 7)) (some 131) (σ 8)) (some 132) (σ 9)) (some 133) (σ 10)) (some 134) (σ 11)) (some 135) (σ 12)) (some 136) (σ 13)) (some 137) (σ 14)) (some 138) (σ 15)) (some 139) (σ 16)) (some 140) (σ 17)) (some 141) (σ 18)) (some 142) (σ 19)) (some 143) (σ 20)) (some 144) (σ 21)) (some 145) (σ 22)) (some 146) (σ 23)) (some 147) (σ 24)) (some 148) (σ 25)) (some 149) (σ 26)) (some 150) (σ 27)) (some 151) (σ 28)) (some 152) (σ 29)) (some 153) (σ 30)) (some 154) (σ 31)) (some 155) (σ 32)) (some 156) (σ 33)) (some 157) (σ 34)) (some 158) (σ 35)) (some 159) (σ 36)) (some 160) (σ 37)) (some 161) (σ 38)) (some 162) (σ 39)) (some 163) (σ 40)) (some 164) (σ 41)) (some 165) (σ 42)) (some 166) (σ 43)) (some 167) (σ 44)) (some 168) (σ 45)) (some 169) (σ 46)) (some 170) (σ 47)) (some 171) (σ 48)) (some 172) (σ 49)) (some 173) (σ 50)) (some 174) (σ 51)) (some 175) (σ 52)) (some 176) (σ 53)) (some 177) (σ 54)) (some 178) (σ 55)) (some 179) (σ 56)) (some 180) (σ 57)) (some 181) (σ 58)) (some 182) (σ 59)) (some 8) (.bool true)) from (fin_all hall).trans rfl]
            simp only [Act.put, List.setIfInBounds_toArray, List.set_cons_zero, List.set_cons_succ]
            have HB9 := hide (HBd.out.next hG)
            generalize σ 0 = tt0 at *; generalize σ 1 = tt1 at *; generalize σ 2 = tt2 at *; generalize σ 3 = tt3 at *; generalize σ 4 = tt4 at *; generalize σ 5 = tt5 at *; generalize σ 6 = tt6 at *; generalize σ 7 = tt7 at *; generalize σ 8 = tt8 at *; generalize σ 9 = tt9 at *; generalize σ 10 = tt10 at *; generalize σ 11 = tt11 at *; generalize σ 12 = tt12 at *; generalize σ 13 = tt13 at *; generalize σ 14 = tt14 at *; generalize σ 15 = tt15 at *; generalize σ 16 = tt16 at *; generalize σ 17 = tt17 at *; generalize σ 18 = tt18 at *; generalize σ 19 = tt19 at *; generalize σ 20 = tt20 at *; generalize σ 21 = tt21 at *; generalize σ 22 = tt22 at *; generalize σ 23 = tt23 at *; generalize σ 24 = tt24 at *; generalize σ 25 = tt25 at *; generalize σ 26 = tt26 at *; generalize σ 27 = tt27 at *; generalize σ 28 = tt28 at *; generalize σ 29 = tt29 at *; generalize σ 30 = tt30 at *; generalize σ 31 = tt31 at *; generalize σ 32 = tt32 at *; generalize σ 33 = tt33 at *; generalize σ 34 = tt34 at *; generalize σ 35 = tt35 at *; generalize σ 36 = tt36 at *; generalize σ 37 = tt37 at *; generalize σ 38 = tt38 at *; generalize σ 39 = tt39 at *; generalize σ 40 = tt40 at *; generalize σ 41 = tt41 at *; generalize σ 42 = tt42 at *; generalize σ 43 = tt43 at *; generalize σ 44 = tt44 at *; generalize σ 45 = tt45 at *; generalize σ 46 = tt46 at *; generalize σ 47 = tt47 at *; generalize σ 48 = tt48 at *; generalize σ 49 = tt49 at *; generalize σ 50 = tt50 at *; generalize σ 51 = tt51 at *; generalize σ 52 = tt52 at *; generalize σ 53 = tt53 at *; generalize σ 54 = tt54 at *; generalize σ 55 = tt55 at *; generalize σ 56 = tt56 at *; generalize σ 57 = tt57 at *; generalize σ 58 = tt58 at *; generalize σ 59 = tt59 at *
            clear hF hG hall hin hout SOF
            go_wp2_with fail
            go_ret
            exact HY.out _ HB9.out
        · have eu : ru = true := by have := EU.out; simpa using this
          have ef : rf = true := by have := EF.out; simpa using this
          have eg : rg = rg1 := by have := EG.out; simpa using this
          have es : rs = true := by have := ES.out; simpa using this
          subst eu ef eg es
          clear EU EF EG ES
          have w0 := (X6.out.next (Below.refl _ _)).cell 0 _ rfl
          have w1 := (X6.out.next (Below.refl _ _)).cell 1 _ rfl
          have u0 := (XU.out.next (Below.refl _ _)).cell 0 _ rfl
          have u1 := (XU.out.next (Below.refl _ _)).cell 1 _ rfl
          have u2 := (XU.out.next (Below.refl _ _)).cell 2 _ rfl
          go_wp2_with fail
          refine (CU.out _ (Below.refl _ _)).mono ?_
          rintro e wk1 ⟨rfl, bk⟩
          have HK1 := hide (Below.next (Below.refl _ _) bk)
          clear bk w0 w1 u0 u1 u2
          have w0 := (X6.out.next HK1.out).cell 0 _ rfl
          have w1 := (X6.out.next HK1.out).cell 1 _ rfl
          have f0 := (XF.out.next HK1.out).cell 0 _ rfl
          have f1 := (XF.out.next HK1.out).cell 1 _ rfl
          have f2 := (XF.out.next HK1.out).cell 2 _ rfl
          go_wp2_with fail
          refine (CF.out _ HK1.out).mono ?_
          rintro e wk2 ⟨rfl, bk⟩
          have HK2 := hide (Below.next HK1.out bk)
          clear bk w0 w1 f0 f1 f2
          have w0 := (X6.out.next HK2.out).cell 0 _ rfl
          have w1 := (X6.out.next HK2.out).cell 1 _ rfl
          have g0 := (XG.out.next HK2.out).cell 0 _ rfl
          have g1 := (XG.out.next HK2.out).cell 1 _ rfl
          have g2 := (XG.out.next HK2.out).cell 2 _ rfl
          go_wp2_with fail
          refine (CG.out _ HK2.out).mono ?_
          rintro e wk3 ⟨rfl, bk⟩
          have HK3 := hide (Below.next HK2.out bk)
          clear bk w0 w1 g0 g1 g2
          have w0 := (X6.out.next HK3.out).cell 0 _ rfl
          have w1 := (X6.out.next HK3.out).cell 1 _ rfl
          have g0 := (XG.out.next HK3.out).cell 0 _ rfl
          have g1 := (XG.out.next HK3.out).cell 1 _ rfl
          have g2 := (XG.out.next HK3.out).cell 2 _ rfl
          go_wp2_with fail
          refine (CG1.out _ HK3.out).mono ?_
          rintro e wk4 ⟨rfl, bk⟩
          have HK4 := hide (Below.next HK3.out bk)
          clear bk w0 w1 g0 g1 g2
          have w0 := (X6.out.next HK4.out).cell 0 _ rfl
          have w1 := (X6.out.next HK4.out).cell 1 _ rfl
          have s0 := (XS.out.next HK4.out).cell 0 _ rfl
          have s1 := (XS.out.next HK4.out).cell 1 _ rfl
          have s2 := (XS.out.next HK4.out).cell 2 _ rfl
          go_wp2_with fail
          refine (CS.out _ HK4.out).mono ?_
          rintro e wk5 ⟨rfl, bk⟩
          have HK5 := hide (Below.next HK4.out bk)
          clear bk w0 w1 s0 s1 s2
          go_upto_region 15 with fail
          have HBd := hide (Below.next HBc.out HK5.out)
          have X4 := hide (X4.out.next HK5.out)
          have X5 := hide (X5.out.next HK5.out)
          have X6 := hide (X6.out.next HK5.out)
          have SOF := hide (fun w (h : Below wk5.heap.size wk5 w) => (⟨(X4.out.next h).cell 0 _ rfl, (X4.out.next h).cell 1 _ rfl, (X4.out.next h).cell 2 _ rfl, (X5.out.next h).cell 0 _ rfl, (X5.out.next h).cell 1 _ rfl, (X5.out.next h).cell 2 _ rfl, (X6.out.next h).cell 0 _ rfl, (X6.out.next h).cell 1 _ rfl⟩ : _ ∧ _ ∧ _ ∧ _ ∧ _ ∧ _ ∧ _ ∧ _))
          refine wp_drawnL (by kernel_rfl) (by kernel_rfl) (by kernel_rfl) (by kernel_rfl) (fun w w' => Below w.heap.size w w') (fun j v w => match j with | 0 => v = .agg #[.int .i64 kp, .int .i64 pp, .slice Ap np cp] | 1 => ∃ A n c, v = .agg #[.int .i64 8, .int .i64 0, .slice A n c] ∧ DIn Some_ w (.mk 8 0 [tp]) (c3 8 0 A n c) | 2 => v = .agg #[.slice A1 L1.length c1, .slice A2 L2.length c2] | 3 => v = .int .i64 (y : Int) | 4 => v = .bool ra1 | 5 => v = .agg #[.int .i64 kp, .int .i64 pp, .slice Ap np cp] | 6 => v = .agg #[.slice A1 L1.length c1, .slice A2 L2.length c2] | 7 => v = .int .i64 (y : Int) | 8 => v = .int .i64 ((y : Int) + 1) | 9 => v = .bool ra1 | 10 => v = .bool true | 11 => v = .bool true | 12 => v = .agg #[.int .i64 kp, .int .i64 pp, .slice Ap np cp] | 13 => ∃ A n c, v = .agg #[.int .i64 3, .int .i64 0, .slice A n c] ∧ DIn Some_ w (.mk 3 0 [tp]) (c3 3 0 A n c) | 14 => v = .agg #[.slice A1 L1.length c1, .slice A2 L2.length c2] | 15 => v = .int .i64 (y : Int) | 16 => v = .bool false | 17 => v = .bool true | 18 => v = .bool true | 19 => v = .bool true | 20 => v = .bool true | 21 => v = .agg #[.int .i64 kp, .int .i64 pp, .slice Ap np cp] | 22 => v = .agg #[.int .i64 kq, .int .i64 pq, .slice Aq nq cq] | 23 => ∃ A n c, v = .agg #[.int .i64 4, .int .i64 0, .slice A n c] ∧ DIn Some_ w (.mk 4 0 [tp, tq]) (c3 4 0 A n c) | 24 => v = .agg #[.slice A1 L1.length c1, .slice A2 L2.length c2] | 25 => v = .int .i64 (y : Int) | 26 => v = .bool true | 27 => v = .bool true | 28 => v = .bool true | 29 => v = .bool true | 30 => v = .bool true | 31 => v = .bool true | 32 => v = .bool true | 33 => v = .bool true | 34 => v = .agg #[.int .i64 kp, .int .i64 pp, .slice Ap np cp] | 35 => v = .agg #[.int .i64 kq, .int .i64 pq, .slice Aq nq cq] | 36 => ∃ A n c, v = .agg #[.int .i64 5, .int .i64 0, .slice A n c] ∧ DIn Some_ w (.mk 5 0 [tp, tq]) (c3 5 0 A n c) | 37 => v = .agg #[.slice A1 L1.length c1, .slice A2 L2.length c2] | 38 => v = .int .i64 (y : Int) | 39 => v = .bool true | 40 => v = .bool true | 41 => v = .bool true | 42 => v = undef | 43 => v = .bool true | 44 => v = .bool true | 45 => v = .bool true | 46 => v = .bool true | 47 => v = .agg #[.int .i64 kp, .int .i64 pp, .slice Ap np cp] | 48 => v = .agg #[.int .i64 kq, .int .i64 pq, .slice Aq nq cq] | 49 => ∃ A n c, v = .agg #[.int .i64 7, .int .i64 0, .slice A n c] ∧ DIn Some_ w (.mk 7 0 [tp, tq]) (c3 7 0 A n c) | 50 => v = .agg #[.slice A1 L1.length c1, .slice A2 L2.length c2] | 51 => v = .int .i64 (y : Int) | 52 => v = .bool true | 53 => v = .bool true | 54 => v = .bool false | 55 => v = .bool false | 56 => v = .bool true | 57 => v = .bool true | 58 => v = .bool true | 59 => v = .bool true | _ => True) (fun _ _ w => Below wk5.heap.size wk5 w) ?_ (fun _ => bl_drewN wk5 1) ?_ ?_
          · intro j v w w' hT h
            match j, h with
            | 0, h => exact h
            | 1, h => exact (by obtain ⟨A, n, c, e, h1⟩ := h; exact ⟨A, n, c, e, h1.keep (Keep.of_below hT)⟩)
            | 2, h => exact h
            | 3, h => exact h
            | 4, h => exact h
            | 5, h => exact h
            | 6, h => exact h
            | 7, h => exact h
            | 8, h => exact h
            | 9, h => exact h
            | 10, h => exact h
            | 11, h => exact h
            | 12, h => exact h
            | 13, h => exact (by obtain ⟨A, n, c, e, h1⟩ := h; exact ⟨A, n, c, e, h1.keep (Keep.of_below hT)⟩)
            | 14, h => exact h
            | 15, h => exact h
            | 16, h => exact h
            | 17, h => exact h
            | 18, h => exact h
            | 19, h => exact h
            | 20, h => exact h
            | 21, h => exact h
            | 22, h => exact h
            | 23, h => exact (by obtain ⟨A, n, c, e, h1⟩ := h; exact ⟨A, n, c, e, h1.keep (Keep.of_below hT)⟩)
            | 24, h => exact h
            | 25, h => exact h
            | 26, h => exact h
            | 27, h => exact h
            | 28, h => exact h
            | 29, h => exact h
            | 30, h => exact h
            | 31, h => exact h
            | 32, h => exact h
            | 33, h => exact h
            | 34, h => exact h
            | 35, h => exact h
            | 36, h => exact (by obtain ⟨A, n, c, e, h1⟩ := h; exact ⟨A, n, c, e, h1.keep (Keep.of_below hT)⟩)
            | 37, h => exact h
            | 38, h => exact h
            | 39, h => exact h
            | 40, h => exact h
            | 41, h => exact h
            | 42, h => exact h
            | 43, h => exact h
            | 44, h => exact h
            | 45, h => exact h
            | 46, h => exact h
            | 47, h => exact h
            | 48, h => exact h
            | 49, h => exact (by obtain ⟨A, n, c, e, h1⟩ := h; exact ⟨A, n, c, e, h1.keep (Keep.of_below hT)⟩)
            | 50, h => exact h
            | 51, h => exact h
            | 52, h => exact h
            | 53, h => exact h
            | 54, h => exact h
            | 55, h => exact h
            | 56, h => exact h
            | 57, h => exact h
            | 58, h => exact h
            | 59, h => exact h
            | j + 60, h => trivial
          · refine ⟨?_, ?_, ?_, ?_, ?_, ?_, ?_, ?_, ?_, ?_, ?_, ?_, ?_, ?_, ?_, ?_, ?_, ?_, ?_, ?_, ?_, ?_, ?_, ?_, ?_, ?_, ?_, ?_, ?_, ?_, ?_, ?_, ?_, ?_, ?_, ?_, ?_, ?_, ?_, ?_, ?_, ?_, ?_, ?_, ?_, ?_, ?_, ?_, ?_, ?_, ?_, ?_, ?_, ?_, ?_, ?_, ?_, ?_, ?_, ?_, trivial⟩
            · intro listed σ w a hin hout hl hla hs hc hp hG hF
              refine Guarded.none rfl ?_
              have e4 : a.tmps.getD 4 undef = .pointer (some ⟨W.heap.size, 0, none⟩) := hout 4 (outB_spec (by kernel_rfl))
              have CC := SOF.out w hG; obtain ⟨C0, C1, C2, C3, C4, C5, C6, C7⟩ := CC
              refine Does.val (.agg #[.int .i64 kp, .int .i64 pp, .slice Ap np cp]) (w' := w) ?_ ⟨Below.refl _ _, rfl, hG⟩
              go_simp
            · intro listed σ w a hin hout hl hla hs hc hp hG hF
              refine Guarded.none rfl ?_
              have e123 : a.tmps.getD 123 undef = .agg #[.int .i64 kp, .int .i64 pp, .slice Ap np cp] := (hin 0 123 rfl (hp ⟨0, .data⟩ (by simp) rfl)).trans (hF 0 (hp ⟨0, .data⟩ (by simp) rfl))
              refine Does.call ?_ (lone_any Some_ 0 8 tp kp pp Ap np cp w ((DP.out.keep (Keep.of_below (HBd.out.next hG))).sub (fun _ _ _ => .inl trivial)) (Nat.zero_le _)) ?_
              · go_simp
              · rintro e w' ⟨A, n, c, rfl, hd, hb⟩
                exact ⟨_, rfl, hb, ⟨A, n, c, rfl, hd.sub (fun b _ _ => trivial)⟩, hG.next hb⟩
            · intro listed σ w a hin hout hl hla hs hc hp hG hF
              refine Guarded.none rfl ?_
              have e6 : a.tmps.getD 6 undef = .pointer (some ⟨W.heap.size + 1 + 1, 0, none⟩) := hout 6 (outB_spec (by kernel_rfl))
              have CC := SOF.out w hG; obtain ⟨C0, C1, C2, C3, C4, C5, C6, C7⟩ := CC
              refine Does.val (.agg #[.slice A1 L1.length c1, .slice A2 L2.length c2]) (w' := w) ?_ ⟨Below.refl _ _, rfl, hG⟩
              go_simp
            · intro listed σ w a hin hout hl hla hs hc hp hG hF
              refine Guarded.none rfl ?_
              have e3 : a.tmps.getD 3 undef = .int .i64 (y : Int) := hout 3 (outB_spec (by kernel_rfl))
              refine Does.val (.int .i64 (y : Int)) (w' := w) ?_ ⟨Below.refl _ _, rfl, hG⟩
              simp only [Array.getD_eq_getD_getElem?] at e3
              go_simp
            · intro listed σ w a hin hout hl hla hs hc hp hG hF
              refine Guarded.none rfl ?_
              have e124 := hin 1 124 rfl (hp ⟨1, .data⟩ (by simp) rfl)
              obtain ⟨Am1, nm1, cm1, ev1, hd1⟩ := hF 1 (hp ⟨1, .data⟩ (by simp) rfl)
              rw [ev1] at e124
              have e125 : a.tmps.getD 125 undef = .agg #[.slice A1 L1.length c1, .slice A2 L2.length c2] := (hin 2 125 rfl (hp ⟨2, .data⟩ (by simp) rfl)).trans (hF 2 (hp ⟨2, .data⟩ (by simp) rfl))
              have e126 : a.tmps.getD 126 undef = .int .i64 (y : Int) := (hin 3 126 rfl (hp ⟨3, .data⟩ (by simp) rfl)).trans (hF 3 (hp ⟨3, .data⟩ (by simp) rfl))
              refine Does.call ?_ (hv_call Some_ (.mk 8 0 [tp]) 8 0 Am1 nm1 cm1 A1 c1 A2 c2 L1 L2 (y : Int) y ra1 w hd1 (DW1.out.keep (Keep.of_below (HBd.out.next hG))) (DW2.out.keep (Keep.of_below (HBd.out.next hG))) HN0.out HN9.out (by omega) rfl (by rw [HV_next]; first | (rw [VA.out, VB.out]; rfl) | (rw [VA.out]; rfl) | exact VA1.out)) ?_
              · go_simp
              · rintro e w' ⟨rfl, hb⟩
                exact ⟨_, rfl, hb, rfl, hG.next hb⟩
            · intro listed σ w a hin hout hl hla hs hc hp hG hF
              refine Guarded.none rfl ?_
              have e4 : a.tmps.getD 4 undef = .pointer (some ⟨W.heap.size, 0, none⟩) := hout 4 (outB_spec (by kernel_rfl))
              have CC := SOF.out w hG; obtain ⟨C0, C1, C2, C3, C4, C5, C6, C7⟩ := CC
              refine Does.val (.agg #[.int .i64 kp, .int .i64 pp, .slice Ap np cp]) (w' := w) ?_ ⟨Below.refl _ _, rfl, hG⟩
              go_simp
            · intro listed σ w a hin hout hl hla hs hc hp hG hF
              refine Guarded.none rfl ?_
              have e6 : a.tmps.getD 6 undef = .pointer (some ⟨W.heap.size + 1 + 1, 0, none⟩) := hout 6 (outB_spec (by kernel_rfl))
              have CC := SOF.out w hG; obtain ⟨C0, C1, C2, C3, C4, C5, C6, C7⟩ := CC
              refine Does.val (.agg #[.slice A1 L1.length c1, .slice A2 L2.length c2]) (w' := w) ?_ ⟨Below.refl _ _, rfl, hG⟩
              go_simp
            · intro listed σ w a hin hout hl hla hs hc hp hG hF
              refine Guarded.none rfl ?_
              have e3 : a.tmps.getD 3 undef = .int .i64 (y : Int) := hout 3 (outB_spec (by kernel_rfl))
              refine Does.val (.int .i64 (y : Int)) (w' := w) ?_ ⟨Below.refl _ _, rfl, hG⟩
              simp only [Array.getD_eq_getD_getElem?] at e3
              go_simp
            · intro listed σ w a hin hout hl hla hs hc hp hG hF
              refine Guarded.none rfl ?_
              have e130 : a.tmps.getD 130 undef = .int .i64 (y : Int) := (hin 7 130 rfl (hp ⟨7, .data⟩ (by simp) rfl)).trans (hF 7 (hp ⟨7, .data⟩ (by simp) rfl))
              refine Does.val (.int .i64 ((y : Int) + 1)) (w' := w) ?_ ⟨Below.refl _ _, rfl, hG⟩
              simp only [Array.getD_eq_getD_getElem?] at e130
              go_simp
              first | done | (exact congrArg (Value.int .i64) (i64w (by omega) (by omega))) | (exact i64w (by omega) (by omega))
            · intro listed σ w a hin hout hl hla hs hc hp hG hF
              refine Guarded.none rfl ?_
              have e128 : a.tmps.getD 128 undef = .agg #[.int .i64 kp, .int .i64 pp, .slice Ap np cp] := (hin 5 128 rfl (hp ⟨5, .data⟩ (by simp) rfl)).trans (hF 5 (hp ⟨5, .data⟩ (by simp) rfl))
              have e129 : a.tmps.getD 129 undef = .agg #[.slice A1 L1.length c1, .slice A2 L2.length c2] := (hin 6 129 rfl (hp ⟨6, .data⟩ (by simp) rfl)).trans (hF 6 (hp ⟨6, .data⟩ (by simp) rfl))
              have e131 : a.tmps.getD 131 undef = .int .i64 ((y : Int) + 1) := (hin 8 131 rfl (hp ⟨8, .data⟩ (by simp) rfl)).trans (hF 8 (hp ⟨8, .data⟩ (by simp) rfl))
              refine Does.call ?_ (CA1.out w (HBd.out.next hG)) ?_
              · go_simp
              · rintro e w' ⟨rfl, hb⟩
                exact ⟨_, rfl, hb, rfl, hG.next hb⟩
            · intro listed σ w a hin hout hl hla hs hc hp hG hF
              refine Guarded.none rfl ?_
              have e127 : a.tmps.getD 127 undef = .bool ra1 := (hin 4 127 rfl (hp ⟨4, .data⟩ (by simp) rfl)).trans (hF 4 (hp ⟨4, .data⟩ (by simp) rfl))
              have e132 : a.tmps.getD 132 undef = .bool ra1 := (hin 9 132 rfl (hp ⟨9, .data⟩ (by simp) rfl)).trans (hF 9 (hp ⟨9, .data⟩ (by simp) rfl))
              refine Does.val (.bool true) (w' := w) ?_ ⟨Below.refl _ _, rfl, hG⟩
              simp only [Array.getD_eq_getD_getElem?] at e127 e132
              go_simp
            · intro listed σ w a hin hout hl hla hs hc hp hG hF
              refine Guarded.none rfl ?_
              have e133 : a.tmps.getD 133 undef = .bool true := (hin 10 133 rfl (hp ⟨10, .data⟩ (by simp) rfl)).trans (hF 10 (hp ⟨10, .data⟩ (by simp) rfl))
              refine Does.val (.bool true) (w' := w) ?_ ⟨Below.refl _ _, rfl, hG⟩
              simp only [Array.getD_eq_getD_getElem?] at e133
              go_simp
            · intro listed σ w a hin hout hl hla hs hc hp hG hF
              refine Guarded.some (d := 134) (b := true) rfl rfl ((hin 11 134 rfl (hp ⟨11, .guard⟩ (by simp) rfl)).trans (hF 11 (hp ⟨11, .guard⟩ (by simp) rfl))) ?_
              refine Or.inl ⟨rfl, ?_⟩
              have e4 : a.tmps.getD 4 undef = .pointer (some ⟨W.heap.size, 0, none⟩) := hout 4 (outB_spec (by kernel_rfl))
              have CC := SOF.out w hG; obtain ⟨C0, C1, C2, C3, C4, C5, C6, C7⟩ := CC
              refine Does.val (.agg #[.int .i64 kp, .int .i64 pp, .slice Ap np cp]) (w' := w) ?_ ⟨Below.refl _ _, rfl, hG⟩
              go_simp
            · intro listed σ w a hin hout hl hla hs hc hp hG hF
              refine Guarded.some (d := 134) (b := true) rfl rfl ((hin 11 134 rfl (hp ⟨11, .guard⟩ (by simp) rfl)).trans (hF 11 (hp ⟨11, .guard⟩ (by simp) rfl))) ?_
              refine Or.inl ⟨rfl, ?_⟩
              have e135 : a.tmps.getD 135 undef = .agg #[.int .i64 kp, .int .i64 pp, .slice Ap np cp] := (hin 12 135 rfl (hp ⟨12, .data⟩ (by simp) rfl)).trans (hF 12 (hp ⟨12, .data⟩ (by simp) rfl))
              refine Does.call ?_ (lone_any Some_ 0 3 tp kp pp Ap np cp w ((DP.out.keep (Keep.of_below (HBd.out.next hG))).sub (fun _ _ _ => .inl trivial)) (Nat.zero_le _)) ?_
              · go_simp
              · rintro e w' ⟨A, n, c, rfl, hd, hb⟩
                exact ⟨_, rfl, hb, ⟨A, n, c, rfl, hd.sub (fun b _ _ => trivial)⟩, hG.next hb⟩
            · intro listed σ w a hin hout hl hla hs hc hp hG hF
              refine Guarded.some (d := 134) (b := true) rfl rfl ((hin 11 134 rfl (hp ⟨11, .guard⟩ (by simp) rfl)).trans (hF 11 (hp ⟨11, .guard⟩ (by simp) rfl))) ?_
              refine Or.inl ⟨rfl, ?_⟩
              have e6 : a.tmps.getD 6 undef = .pointer (some ⟨W.heap.size + 1 + 1, 0, none⟩) := hout 6 (outB_spec (by kernel_rfl))
              have CC := SOF.out w hG; obtain ⟨C0, C1, C2, C3, C4, C5, C6, C7⟩ := CC
              refine Does.val (.agg #[.slice A1 L1.length c1, .slice A2 L2.length c2]) (w' := w) ?_ ⟨Below.refl _ _, rfl, hG⟩
              go_simp
            · intro listed σ w a hin hout hl hla hs hc hp hG hF
              refine Guarded.some (d := 134) (b := true) rfl rfl ((hin 11 134 rfl (hp ⟨11, .guard⟩ (by simp) rfl)).trans (hF 11 (hp ⟨11, .guard⟩ (by simp) rfl))) ?_
              refine Or.inl ⟨rfl, ?_⟩
              have e3 : a.tmps.getD 3 undef = .int .i64 (y : Int) := hout 3 (outB_spec (by kernel_rfl))
              refine Does.val (.int .i64 (y : Int)) (w' := w) ?_ ⟨Below.refl _ _, rfl, hG⟩
              simp only [Array.getD_eq_getD_getElem?] at e3
              go_simp
            · intro listed σ w a hin hout hl hla hs hc hp hG hF
              refine Guarded.some (d := 134) (b := true) rfl rfl ((hin 11 134 rfl (hp ⟨11, .guard⟩ (by simp) rfl)).trans (hF 11 (hp ⟨11, .guard⟩ (by simp) rfl))) ?_
              refine Or.inl ⟨rfl, ?_⟩
              have e136 := hin 13 136 rfl (hp ⟨13, .data⟩ (by simp) rfl)
              obtain ⟨Am13, nm13, cm13, ev13, hd13⟩ := hF 13 (hp ⟨13, .data⟩ (by simp) rfl)
              rw [ev13] at e136
              have e137 : a.tmps.getD 137 undef = .agg #[.slice A1 L1.length c1, .slice A2 L2.length c2] := (hin 14 137 rfl (hp ⟨14, .data⟩ (by simp) rfl)).trans (hF 14 (hp ⟨14, .data⟩ (by simp) rfl))
              have e138 : a.tmps.getD 138 undef = .int .i64 (y : Int) := (hin 15 138 rfl (hp ⟨15, .data⟩ (by simp) rfl)).trans (hF 15 (hp ⟨15, .data⟩ (by simp) rfl))
              refine Does.call ?_ (hv_call Some_ (.mk 3 0 [tp]) 3 0 Am13 nm13 cm13 A1 c1 A2 c2 L1 L2 (y : Int) y false w hd13 (DW1.out.keep (Keep.of_below (HBd.out.next hG))) (DW2.out.keep (Keep.of_below (HBd.out.next hG))) HN0.out HN9.out (by omega) rfl (by rw [HV_not]; first | (rw [VA.out, VB.out]; rfl) | (rw [VA.out]; rfl) | exact VA1.out)) ?_
              · go_simp
              · rintro e w' ⟨rfl, hb⟩
                exact ⟨_, rfl, hb, rfl, hG.next hb⟩
            · intro listed σ w a hin hout hl hla hs hc hp hG hF
              refine Guarded.some (d := 134) (b := true) rfl rfl ((hin 11 134 rfl (hp ⟨11, .guard⟩ (by simp) rfl)).trans (hF 11 (hp ⟨11, .guard⟩ (by simp) rfl))) ?_
              refine Or.inl ⟨rfl, ?_⟩
              have e9 : a.tmps.getD 9 undef = .bool true := hout 9 (outB_spec (by kernel_rfl))
              refine Does.val (.bool true) (w' := w) ?_ ⟨Below.refl _ _, rfl, hG⟩
              simp only [Array.getD_eq_getD_getElem?] at e9
              go_simp
            · intro listed σ w a hin hout hl hla hs hc hp hG hF
              refine Guarded.some (d := 134) (b := true) rfl rfl ((hin 11 134 rfl (hp ⟨11, .guard⟩ (by simp) rfl)).trans (hF 11 (hp ⟨11, .guard⟩ (by simp) rfl))) ?_
              refine Or.inl ⟨rfl, ?_⟩
              have e139 : a.tmps.getD 139 undef = .bool false := (hin 16 139 rfl (hp ⟨16, .data⟩ (by simp) rfl)).trans (hF 16 (hp ⟨16, .data⟩ (by simp) rfl))
              have e140 : a.tmps.getD 140 undef = .bool true := (hin 17 140 rfl (hp ⟨17, .data⟩ (by simp) rfl)).trans (hF 17 (hp ⟨17, .data⟩ (by simp) rfl))
              refine Does.val (.bool true) (w' := w) ?_ ⟨Below.refl _ _, rfl, hG⟩
              simp only [Array.getD_eq_getD_getElem?] at e139 e140
              go_simp
            · intro listed σ w a hin hout hl hla hs hc hp hG hF
              refine Guarded.none rfl ?_
              have e134 : a.tmps.getD 134 undef = .bool true := (hin 11 134 rfl (hp ⟨11, .data⟩ (by simp) rfl)).trans (hF 11 (hp ⟨11, .data⟩ (by simp) rfl))
              have e141 : a.tmps.getD 141 undef = .bool true := (hin 18 141 rfl (hp ⟨18, .data⟩ (by simp) rfl)).trans (hF 18 (hp ⟨18, .data⟩ (by simp) rfl))
              refine Does.val (.bool true) (w' := w) ?_ ⟨Below.refl _ _, rfl, hG⟩
              simp only [Array.getD_eq_getD_getElem?] at e134 e141
              go_simp
            · intro listed σ w a hin hout hl hla hs hc hp hG hF
              refine Guarded.none rfl ?_
              have e142 : a.tmps.getD 142 undef = .bool true := (hin 19 142 rfl (hp ⟨19, .data⟩ (by simp) rfl)).trans (hF 19 (hp ⟨19, .data⟩ (by simp) rfl))
              refine Does.val (.bool true) (w' := w) ?_ ⟨Below.refl _ _, rfl, hG⟩
              simp only [Array.getD_eq_getD_getElem?] at e142
              go_simp
            · intro listed σ w a hin hout hl hla hs hc hp hG hF
              refine Guarded.some (d := 143) (b := true) rfl rfl ((hin 20 143 rfl (hp ⟨20, .guard⟩ (by simp) rfl)).trans (hF 20 (hp ⟨20, .guard⟩ (by simp) rfl))) ?_
              refine Or.inl ⟨rfl, ?_⟩
              have e4 : a.tmps.getD 4 undef = .pointer (some ⟨W.heap.size, 0, none⟩) := hout 4 (outB_spec (by kernel_rfl))
              have CC := SOF.out w hG; obtain ⟨C0, C1, C2, C3, C4, C5, C6, C7⟩ := CC
              refine Does.val (.agg #[.int .i64 kp, .int .i64 pp, .slice Ap np cp]) (w' := w) ?_ ⟨Below.refl _ _, rfl, hG⟩
              go_simp
            · intro listed σ w a hin hout hl hla hs hc hp hG hF
              refine Guarded.some (d := 143) (b := true) rfl rfl ((hin 20 143 rfl (hp ⟨20, .guard⟩ (by simp) rfl)).trans (hF 20 (hp ⟨20, .guard⟩ (by simp) rfl))) ?_
              refine Or.inl ⟨rfl, ?_⟩
              have e5 : a.tmps.getD 5 undef = .pointer (some ⟨W.heap.size + 1, 0, none⟩) := hout 5 (outB_spec (by kernel_rfl))
              have CC := SOF.out w hG; obtain ⟨C0, C1, C2, C3, C4, C5, C6, C7⟩ := CC
              refine Does.val (.agg #[.int .i64 kq, .int .i64 pq, .slice Aq nq cq]) (w' := w) ?_ ⟨Below.refl _ _, rfl, hG⟩
              go_simp
            · intro listed σ w a hin hout hl hla hs hc hp hG hF
              refine Guarded.some (d := 143) (b := true) rfl rfl ((hin 20 143 rfl (hp ⟨20, .guard⟩ (by simp) rfl)).trans (hF 20 (hp ⟨20, .guard⟩ (by simp) rfl))) ?_
              refine Or.inl ⟨rfl, ?_⟩
              have e144 : a.tmps.getD 144 undef = .agg #[.int .i64 kp, .int .i64 pp, .slice Ap np cp] := (hin 21 144 rfl (hp ⟨21, .data⟩ (by simp) rfl)).trans (hF 21 (hp ⟨21, .data⟩ (by simp) rfl))
              have e145 : a.tmps.getD 145 undef = .agg #[.int .i64 kq, .int .i64 pq, .slice Aq nq cq] := (hin 22 145 rfl (hp ⟨22, .data⟩ (by simp) rfl)).trans (hF 22 (hp ⟨22, .data⟩ (by simp) rfl))
              refine Does.call ?_ (ltwo_any Some_ 0 4 tp tq kp pp Ap np cp kq pq Aq nq cq w ((DP.out.keep (Keep.of_below (HBd.out.next hG))).sub (fun _ _ _ => .inl trivial)) ((DQ.out.keep (Keep.of_below (HBd.out.next hG))).sub (fun _ _ _ => .inl trivial)) (Nat.zero_le _)) ?_
              · go_simp
              · rintro e w' ⟨A, n, c, rfl, hd, hb⟩
                exact ⟨_, rfl, hb, ⟨A, n, c, rfl, hd.sub (fun b _ _ => trivial)⟩, hG.next hb⟩
            · intro listed σ w a hin hout hl hla hs hc hp hG hF
              refine Guarded.some (d := 143) (b := true) rfl rfl ((hin 20 143 rfl (hp ⟨20, .guard⟩ (by simp) rfl)).trans (hF 20 (hp ⟨20, .guard⟩ (by simp) rfl))) ?_
              refine Or.inl ⟨rfl, ?_⟩
              have e6 : a.tmps.getD 6 undef = .pointer (some ⟨W.heap.size + 1 + 1, 0, none⟩) := hout 6 (outB_spec (by kernel_rfl))
              have CC := SOF.out w hG; obtain ⟨C0, C1, C2, C3, C4, C5, C6, C7⟩ := CC
              refine Does.val (.agg #[.slice A1 L1.length c1, .slice A2 L2.length c2]) (w' := w) ?_ ⟨Below.refl _ _, rfl, hG⟩
              go_simp
            · intro listed σ w a hin hout hl hla hs hc hp hG hF
              refine Guarded.some (d := 143) (b := true) rfl rfl ((hin 20 143 rfl (hp ⟨20, .guard⟩ (by simp) rfl)).trans (hF 20 (hp ⟨20, .guard⟩ (by simp) rfl))) ?_
              refine Or.inl ⟨rfl, ?_⟩
              have e3 : a.tmps.getD 3 undef = .int .i64 (y : Int) := hout 3 (outB_spec (by kernel_rfl))
              refine Does.val (.int .i64 (y : Int)) (w' := w) ?_ ⟨Below.refl _ _, rfl, hG⟩
              simp only [Array.getD_eq_getD_getElem?] at e3
              go_simp
            · intro listed σ w a hin hout hl hla hs hc hp hG hF
              refine Guarded.some (d := 143) (b := true) rfl rfl ((hin 20 143 rfl (hp ⟨20, .guard⟩ (by simp) rfl)).trans (hF 20 (hp ⟨20, .guard⟩ (by simp) rfl))) ?_
              refine Or.inl ⟨rfl, ?_⟩
              have e146 := hin 23 146 rfl (hp ⟨23, .data⟩ (by simp) rfl)
              obtain ⟨Am23, nm23, cm23, ev23, hd23⟩ := hF 23 (hp ⟨23, .data⟩ (by simp) rfl)
              rw [ev23] at e146
              have e147 : a.tmps.getD 147 undef = .agg #[.slice A1 L1.length c1, .slice A2 L2.length c2] := (hin 24 147 rfl (hp ⟨24, .data⟩ (by simp) rfl)).trans (hF 24 (hp ⟨24, .data⟩ (by simp) rfl))
              have e148 : a.tmps.getD 148 undef = .int .i64 (y : Int) := (hin 25 148 rfl (hp ⟨25, .data⟩ (by simp) rfl)).trans (hF 25 (hp ⟨25, .data⟩ (by simp) rfl))
              refine Does.call ?_ (hv_call Some_ (.mk 4 0 [tp, tq]) 4 0 Am23 nm23 cm23 A1 c1 A2 c2 L1 L2 (y : Int) y true w hd23 (DW1.out.keep (Keep.of_below (HBd.out.next hG))) (DW2.out.keep (Keep.of_below (HBd.out.next hG))) HN0.out HN9.out (by omega) rfl (by rw [HV_and]; first | (rw [VA.out, VB.out]; rfl) | (rw [VA.out]; rfl) | exact VA1.out)) ?_
              · go_simp
              · rintro e w' ⟨rfl, hb⟩
                exact ⟨_, rfl, hb, rfl, hG.next hb⟩
            · intro listed σ w a hin hout hl hla hs hc hp hG hF
              refine Guarded.some (d := 143) (b := true) rfl rfl ((hin 20 143 rfl (hp ⟨20, .guard⟩ (by simp) rfl)).trans (hF 20 (hp ⟨20, .guard⟩ (by simp) rfl))) ?_
              refine Or.inl ⟨rfl, ?_⟩
              have e9 : a.tmps.getD 9 undef = .bool true := hout 9 (outB_spec (by kernel_rfl))
              refine Does.val (.bool true) (w' := w) ?_ ⟨Below.refl _ _, rfl, hG⟩
              simp only [Array.getD_eq_getD_getElem?] at e9
              go_simp
            · intro listed σ w a hin hout hl hla hs hc hp hG hF
              refine Guarded.some (d := 143) (b := true) rfl rfl ((hin 20 143 rfl (hp ⟨20, .guard⟩ (by simp) rfl)).trans (hF 20 (hp ⟨20, .guard⟩ (by simp) rfl))) ?_
              refine Or.inl ⟨rfl, ?_⟩
              have e150 : a.tmps.getD 150 undef = .bool true := (hin 27 150 rfl (hp ⟨27, .data⟩ (by simp) rfl)).trans (hF 27 (hp ⟨27, .data⟩ (by simp) rfl))
              refine Does.val (.bool true) (w' := w) ?_ ⟨Below.refl _ _, rfl, hG⟩
              simp only [Array.getD_eq_getD_getElem?] at e150
              go_simp
            · intro listed σ w a hin hout hl hla hs hc hp hG hF
              refine Guarded.some (d := 151) (b := true) rfl rfl ((hin 28 151 rfl (hp ⟨28, .guard⟩ (by simp) rfl)).trans (hF 28 (hp ⟨28, .guard⟩ (by simp) rfl))) ?_
              refine Or.inl ⟨rfl, ?_⟩
              have e10 : a.tmps.getD 10 undef = .bool true := hout 10 (outB_spec (by kernel_rfl))
              refine Does.val (.bool true) (w' := w) ?_ ⟨Below.refl _ _, rfl, hG⟩
              simp only [Array.getD_eq_getD_getElem?] at e10
              go_simp
            · intro listed σ w a hin hout hl hla hs hc hp hG hF
              refine Guarded.some (d := 143) (b := true) rfl rfl ((hin 20 143 rfl (hp ⟨20, .guard⟩ (by simp) rfl)).trans (hF 20 (hp ⟨20, .guard⟩ (by simp) rfl))) ?_
              refine Or.inl ⟨rfl, ?_⟩
              have e151 : a.tmps.getD 151 undef = .bool true := (hin 28 151 rfl (hp ⟨28, .data⟩ (by simp) rfl)).trans (hF 28 (hp ⟨28, .data⟩ (by simp) rfl))
              have e152 : a.tmps.getD 152 undef = .bool true := (hin 29 152 rfl (hp ⟨29, .data⟩ (by simp) rfl)).trans (hF 29 (hp ⟨29, .data⟩ (by simp) rfl))
              refine Does.val (.bool true) (w' := w) ?_ ⟨Below.refl _ _, rfl, hG⟩
              simp only [Array.getD_eq_getD_getElem?] at e151 e152
              go_simp
            · intro listed σ w a hin hout hl hla hs hc hp hG hF
              refine Guarded.some (d := 143) (b := true) rfl rfl ((hin 20 143 rfl (hp ⟨20, .guard⟩ (by simp) rfl)).trans (hF 20 (hp ⟨20, .guard⟩ (by simp) rfl))) ?_
              refine Or.inl ⟨rfl, ?_⟩
              have e149 : a.tmps.getD 149 undef = .bool true := (hin 26 149 rfl (hp ⟨26, .data⟩ (by simp) rfl)).trans (hF 26 (hp ⟨26, .data⟩ (by simp) rfl))
              have e153 : a.tmps.getD 153 undef = .bool true := (hin 30 153 rfl (hp ⟨30, .data⟩ (by simp) rfl)).trans (hF 30 (hp ⟨30, .data⟩ (by simp) rfl))
              refine Does.val (.bool true) (w' := w) ?_ ⟨Below.refl _ _, rfl, hG⟩
              simp only [Array.getD_eq_getD_getElem?] at e149 e153
              go_simp
            · intro listed σ w a hin hout hl hla hs hc hp hG hF
              refine Guarded.none rfl ?_
              have e143 : a.tmps.getD 143 undef = .bool true := (hin 20 143 rfl (hp ⟨20, .data⟩ (by simp) rfl)).trans (hF 20 (hp ⟨20, .data⟩ (by simp) rfl))
              have e154 : a.tmps.getD 154 undef = .bool true := (hin 31 154 rfl (hp ⟨31, .data⟩ (by simp) rfl)).trans (hF 31 (hp ⟨31, .data⟩ (by simp) rfl))
              refine Does.val (.bool true) (w' := w) ?_ ⟨Below.refl _ _, rfl, hG⟩
              simp only [Array.getD_eq_getD_getElem?] at e143 e154
              go_simp
            · intro listed σ w a hin hout hl hla hs hc hp hG hF
              refine Guarded.none rfl ?_
              have e155 : a.tmps.getD 155 undef = .bool true := (hin 32 155 rfl (hp ⟨32, .data⟩ (by simp) rfl)).trans (hF 32 (hp ⟨32, .data⟩ (by simp) rfl))
              refine Does.val (.bool true) (w' := w) ?_ ⟨Below.refl _ _, rfl, hG⟩
              simp only [Array.getD_eq_getD_getElem?] at e155
              go_simp
            · intro listed σ w a hin hout hl hla hs hc hp hG hF
              refine Guarded.some (d := 156) (b := true) rfl rfl ((hin 33 156 rfl (hp ⟨33, .guard⟩ (by simp) rfl)).trans (hF 33 (hp ⟨33, .guard⟩ (by simp) rfl))) ?_
              refine Or.inl ⟨rfl, ?_⟩
              have e4 : a.tmps.getD 4 undef = .pointer (some ⟨W.heap.size, 0, none⟩) := hout 4 (outB_spec (by kernel_rfl))
              have CC := SOF.out w hG; obtain ⟨C0, C1, C2, C3, C4, C5, C6, C7⟩ := CC
              refine Does.val (.agg #[.int .i64 kp, .int .i64 pp, .slice Ap np cp]) (w' := w) ?_ ⟨Below.refl _ _, rfl, hG⟩
              go_simp
            · intro listed σ w a hin hout hl hla hs hc hp hG hF
              refine Guarded.some (d := 156) (b := true) rfl rfl ((hin 33 156 rfl (hp ⟨33, .guard⟩ (by simp) rfl)).trans (hF 33 (hp ⟨33, .guard⟩ (by simp) rfl))) ?_
              refine Or.inl ⟨rfl, ?_⟩
              have e5 : a.tmps.getD 5 undef = .pointer (some ⟨W.heap.size + 1, 0, none⟩) := hout 5 (outB_spec (by kernel_rfl))
              have CC := SOF.out w hG; obtain ⟨C0, C1, C2, C3, C4, C5, C6, C7⟩ := CC
              refine Does.val (.agg #[.int .i64 kq, .int .i64 pq, .slice Aq nq cq]) (w' := w) ?_ ⟨Below.refl _ _, rfl, hG⟩
              go_simp
            · intro listed σ w a hin hout hl hla hs hc hp hG hF
              refine Guarded.some (d := 156) (b := true) rfl rfl ((hin 33 156 rfl (hp ⟨33, .guard⟩ (by simp) rfl)).trans (hF 33 (hp ⟨33, .guard⟩ (by simp) rfl))) ?_
              refine Or.inl ⟨rfl, ?_⟩
              have e157 : a.tmps.getD 157 undef = .agg #[.int .i64 kp, .int .i64 pp, .slice Ap np cp] := (hin 34 157 rfl (hp ⟨34, .data⟩ (by simp) rfl)).trans (hF 34 (hp ⟨34, .data⟩ (by simp) rfl))
              have e158 : a.tmps.getD 158 undef = .agg #[.int .i64 kq, .int .i64 pq, .slice Aq nq cq] := (hin 35 158 rfl (hp ⟨35, .data⟩ (by simp) rfl)).trans (hF 35 (hp ⟨35, .data⟩ (by simp) rfl))
              refine Does.call ?_ (ltwo_any Some_ 0 5 tp tq kp pp Ap np cp kq pq Aq nq cq w ((DP.out.keep (Keep.of_below (HBd.out.next hG))).sub (fun _ _ _ => .inl trivial)) ((DQ.out.keep (Keep.of_below (HBd.out.next hG))).sub (fun _ _ _ => .inl trivial)) (Nat.zero_le _)) ?_
              · go_simp
              · rintro e w' ⟨A, n, c, rfl, hd, hb⟩
                exact ⟨_, rfl, hb, ⟨A, n, c, rfl, hd.sub (fun b _ _ => trivial)⟩, hG.next hb⟩
            · intro listed σ w a hin hout hl hla hs hc hp hG hF
              refine Guarded.some (d := 156) (b := true) rfl rfl ((hin 33 156 rfl (hp ⟨33, .guard⟩ (by simp) rfl)).trans (hF 33 (hp ⟨33, .guard⟩ (by simp) rfl))) ?_
              refine Or.inl ⟨rfl, ?_⟩
              have e6 : a.tmps.getD 6 undef = .pointer (some ⟨W.heap.size + 1 + 1, 0, none⟩) := hout 6 (outB_spec (by kernel_rfl))
              have CC := SOF.out w hG; obtain ⟨C0, C1, C2, C3, C4, C5, C6, C7⟩ := CC
              refine Does.val (.agg #[.slice A1 L1.length c1, .slice A2 L2.length c2]) (w' := w) ?_ ⟨Below.refl _ _, rfl, hG⟩
              go_simp
            · intro listed σ w a hin hout hl hla hs hc hp hG hF
              refine Guarded.some (d := 156) (b := true) rfl rfl ((hin 33 156 rfl (hp ⟨33, .guard⟩ (by simp) rfl)).trans (hF 33 (hp ⟨33, .guard⟩ (by simp) rfl))) ?_
              refine Or.inl ⟨rfl, ?_⟩
              have e3 : a.tmps.getD 3 undef = .int .i64 (y : Int) := hout 3 (outB_spec (by kernel_rfl))
              refine Does.val (.int .i64 (y : Int)) (w' := w) ?_ ⟨Below.refl _ _, rfl, hG⟩
              simp only [Array.getD_eq_getD_getElem?] at e3
              go_simp
            · intro listed σ w a hin hout hl hla hs hc hp hG hF
              refine Guarded.some (d := 156) (b := true) rfl rfl ((hin 33 156 rfl (hp ⟨33, .guard⟩ (by simp) rfl)).trans (hF 33 (hp ⟨33, .guard⟩ (by simp) rfl))) ?_
              refine Or.inl ⟨rfl, ?_⟩
              have e159 := hin 36 159 rfl (hp ⟨36, .data⟩ (by simp) rfl)
              obtain ⟨Am36, nm36, cm36, ev36, hd36⟩ := hF 36 (hp ⟨36, .data⟩ (by simp) rfl)
              rw [ev36] at e159
              have e160 : a.tmps.getD 160 undef = .agg #[.slice A1 L1.length c1, .slice A2 L2.length c2] := (hin 37 160 rfl (hp ⟨37, .data⟩ (by simp) rfl)).trans (hF 37 (hp ⟨37, .data⟩ (by simp) rfl))
              have e161 : a.tmps.getD 161 undef = .int .i64 (y : Int) := (hin 38 161 rfl (hp ⟨38, .data⟩ (by simp) rfl)).trans (hF 38 (hp ⟨38, .data⟩ (by simp) rfl))
              refine Does.call ?_ (hv_call Some_ (.mk 5 0 [tp, tq]) 5 0 Am36 nm36 cm36 A1 c1 A2 c2 L1 L2 (y : Int) y true w hd36 (DW1.out.keep (Keep.of_below (HBd.out.next hG))) (DW2.out.keep (Keep.of_below (HBd.out.next hG))) HN0.out HN9.out (by omega) rfl (by rw [HV_or]; first | (rw [VA.out, VB.out]; rfl) | (rw [VA.out]; rfl) | exact VA1.out)) ?_
              · go_simp
              · rintro e w' ⟨rfl, hb⟩
                exact ⟨_, rfl, hb, rfl, hG.next hb⟩
            · intro listed σ w a hin hout hl hla hs hc hp hG hF
              refine Guarded.some (d := 156) (b := true) rfl rfl ((hin 33 156 rfl (hp ⟨33, .guard⟩ (by simp) rfl)).trans (hF 33 (hp ⟨33, .guard⟩ (by simp) rfl))) ?_
              refine Or.inl ⟨rfl, ?_⟩
              have e9 : a.tmps.getD 9 undef = .bool true := hout 9 (outB_spec (by kernel_rfl))
              refine Does.val (.bool true) (w' := w) ?_ ⟨Below.refl _ _, rfl, hG⟩
              simp only [Array.getD_eq_getD_getElem?] at e9
              go_simp
            · intro listed σ w a hin hout hl hla hs hc hp hG hF
              refine Guarded.some (d := 156) (b := true) rfl rfl ((hin 33 156 rfl (hp ⟨33, .guard⟩ (by simp) rfl)).trans (hF 33 (hp ⟨33, .guard⟩ (by simp) rfl))) ?_
              refine Or.inl ⟨rfl, ?_⟩
              have e163 : a.tmps.getD 163 undef = .bool true := (hin 40 163 rfl (hp ⟨40, .data⟩ (by simp) rfl)).trans (hF 40 (hp ⟨40, .data⟩ (by simp) rfl))
              refine Does.val (.bool true) (w' := w) ?_ ⟨Below.refl _ _, rfl, hG⟩
              simp only [Array.getD_eq_getD_getElem?] at e163
              go_simp
            · intro listed σ w a hin hout hl hla hs hc hp hG hF
              refine Guarded.some (d := 164) (b := true) rfl rfl ((hin 41 164 rfl (hp ⟨41, .guard⟩ (by simp) rfl)).trans (hF 41 (hp ⟨41, .guard⟩ (by simp) rfl))) ?_
              exact Or.inr ⟨(fun h => by cases h), Below.refl _ _, rfl, hG⟩
            · intro listed σ w a hin hout hl hla hs hc hp hG hF
              refine Guarded.some (d := 156) (b := true) rfl rfl ((hin 33 156 rfl (hp ⟨33, .guard⟩ (by simp) rfl)).trans (hF 33 (hp ⟨33, .guard⟩ (by simp) rfl))) ?_
              refine Or.inl ⟨rfl, ?_⟩
              have e164 : a.tmps.getD 164 undef = .bool true := (hin 41 164 rfl (hp ⟨41, .data⟩ (by simp) rfl)).trans (hF 41 (hp ⟨41, .data⟩ (by simp) rfl))
              have e165 : a.tmps.getD 165 undef = undef := (hin 42 165 rfl (hp ⟨42, .data⟩ (by simp) rfl)).trans (hF 42 (hp ⟨42, .data⟩ (by simp) rfl))
              refine Does.val (.bool true) (w' := w) ?_ ⟨Below.refl _ _, rfl, hG⟩
              simp only [Array.getD_eq_getD_getElem?] at e164 e165
              go_simp
            · intro listed σ w a hin hout hl hla hs hc hp hG hF
              refine Guarded.some (d := 156) (b := true) rfl rfl ((hin 33 156 rfl (hp ⟨33, .guard⟩ (by simp) rfl)).trans (hF 33 (hp ⟨33, .guard⟩ (by simp) rfl))) ?_
              refine Or.inl ⟨rfl, ?_⟩
              have e162 : a.tmps.getD 162 undef = .bool true := (hin 39 162 rfl (hp ⟨39, .data⟩ (by simp) rfl)).trans (hF 39 (hp ⟨39, .data⟩ (by simp) rfl))
              have e166 : a.tmps.getD 166 undef = .bool true := (hin 43 166 rfl (hp ⟨43, .data⟩ (by simp) rfl)).trans (hF 43 (hp ⟨43, .data⟩ (by simp) rfl))
              refine Does.val (.bool true) (w' := w) ?_ ⟨Below.refl _ _, rfl, hG⟩
              simp only [Array.getD_eq_getD_getElem?] at e162 e166
              go_simp
            · intro listed σ w a hin hout hl hla hs hc hp hG hF
              refine Guarded.none rfl ?_
              have e156 : a.tmps.getD 156 undef = .bool true := (hin 33 156 rfl (hp ⟨33, .data⟩ (by simp) rfl)).trans (hF 33 (hp ⟨33, .data⟩ (by simp) rfl))
              have e167 : a.tmps.getD 167 undef = .bool true := (hin 44 167 rfl (hp ⟨44, .data⟩ (by simp) rfl)).trans (hF 44 (hp ⟨44, .data⟩ (by simp) rfl))
              refine Does.val (.bool true) (w' := w) ?_ ⟨Below.refl _ _, rfl, hG⟩
              simp only [Array.getD_eq_getD_getElem?] at e156 e167
              go_simp
            · intro listed σ w a hin hout hl hla hs hc hp hG hF
              refine Guarded.none rfl ?_
              have e168 : a.tmps.getD 168 undef = .bool true := (hin 45 168 rfl (hp ⟨45, .data⟩ (by simp) rfl)).trans (hF 45 (hp ⟨45, .data⟩ (by simp) rfl))
              refine Does.val (.bool true) (w' := w) ?_ ⟨Below.refl _ _, rfl, hG⟩
              simp only [Array.getD_eq_getD_getElem?] at e168
              go_simp
            · intro listed σ w a hin hout hl hla hs hc hp hG hF
              refine Guarded.some (d := 169) (b := true) rfl rfl ((hin 46 169 rfl (hp ⟨46, .guard⟩ (by simp) rfl)).trans (hF 46 (hp ⟨46, .guard⟩ (by simp) rfl))) ?_
              refine Or.inl ⟨rfl, ?_⟩
              have e4 : a.tmps.getD 4 undef = .pointer (some ⟨W.heap.size, 0, none⟩) := hout 4 (outB_spec (by kernel_rfl))
              have CC := SOF.out w hG; obtain ⟨C0, C1, C2, C3, C4, C5, C6, C7⟩ := CC
              refine Does.val (.agg #[.int .i64 kp, .int .i64 pp, .slice Ap np cp]) (w' := w) ?_ ⟨Below.refl _ _, rfl, hG⟩
              go_simp
            · intro listed σ w a hin hout hl hla hs hc hp hG hF
              refine Guarded.some (d := 169) (b := true) rfl rfl ((hin 46 169 rfl (hp ⟨46, .guard⟩ (by simp) rfl)).trans (hF 46 (hp ⟨46, .guard⟩ (by simp) rfl))) ?_
              refine Or.inl ⟨rfl, ?_⟩
              have e5 : a.tmps.getD 5 undef = .pointer (some ⟨W.heap.size + 1, 0, none⟩) := hout 5 (outB_spec (by kernel_rfl))
              have CC := SOF.out w hG; obtain ⟨C0, C1, C2, C3, C4, C5, C6, C7⟩ := CC
              refine Does.val (.agg #[.int .i64 kq, .int .i64 pq, .slice Aq nq cq]) (w' := w) ?_ ⟨Below.refl _ _, rfl, hG⟩
              go_simp
            · intro listed σ w a hin hout hl hla hs hc hp hG hF
              refine Guarded.some (d := 169) (b := true) rfl rfl ((hin 46 169 rfl (hp ⟨46, .guard⟩ (by simp) rfl)).trans (hF 46 (hp ⟨46, .guard⟩ (by simp) rfl))) ?_
              refine Or.inl ⟨rfl, ?_⟩
              have e170 : a.tmps.getD 170 undef = .agg #[.int .i64 kp, .int .i64 pp, .slice Ap np cp] := (hin 47 170 rfl (hp ⟨47, .data⟩ (by simp) rfl)).trans (hF 47 (hp ⟨47, .data⟩ (by simp) rfl))
              have e171 : a.tmps.getD 171 undef = .agg #[.int .i64 kq, .int .i64 pq, .slice Aq nq cq] := (hin 48 171 rfl (hp ⟨48, .data⟩ (by simp) rfl)).trans (hF 48 (hp ⟨48, .data⟩ (by simp) rfl))
              refine Does.call ?_ (ltwo_any Some_ 0 7 tp tq kp pp Ap np cp kq pq Aq nq cq w ((DP.out.keep (Keep.of_below (HBd.out.next hG))).sub (fun _ _ _ => .inl trivial)) ((DQ.out.keep (Keep.of_below (HBd.out.next hG))).sub (fun _ _ _ => .inl trivial)) (Nat.zero_le _)) ?_
              · go_simp
              · rintro e w' ⟨A, n, c, rfl, hd, hb⟩
                exact ⟨_, rfl, hb, ⟨A, n, c, rfl, hd.sub (fun b _ _ => trivial)⟩, hG.next hb⟩
            · intro listed σ w a hin hout hl hla hs hc hp hG hF
              refine Guarded.some (d := 169) (b := true) rfl rfl ((hin 46 169 rfl (hp ⟨46, .guard⟩ (by simp) rfl)).trans (hF 46 (hp ⟨46, .guard⟩ (by simp) rfl))) ?_
              refine Or.inl ⟨rfl, ?_⟩
              have e6 : a.tmps.getD 6 undef = .pointer (some ⟨W.heap.size + 1 + 1, 0, none⟩) := hout 6 (outB_spec (by kernel_rfl))
              have CC := SOF.out w hG; obtain ⟨C0, C1, C2, C3, C4, C5, C6, C7⟩ := CC
              refine Does.val (.agg #[.slice A1 L1.length c1, .slice A2 L2.length c2]) (w' := w) ?_ ⟨Below.refl _ _, rfl, hG⟩
              go_simp
            · intro listed σ w a hin hout hl hla hs hc hp hG hF
              refine Guarded.some (d := 169) (b := true) rfl rfl ((hin 46 169 rfl (hp ⟨46, .guard⟩ (by simp) rfl)).trans (hF 46 (hp ⟨46, .guard⟩ (by simp) rfl))) ?_
              refine Or.inl ⟨rfl, ?_⟩
              have e3 : a.tmps.getD 3 undef = .int .i64 (y : Int) := hout 3 (outB_spec (by kernel_rfl))
              refine Does.val (.int .i64 (y : Int)) (w' := w) ?_ ⟨Below.refl _ _, rfl, hG⟩
              simp only [Array.getD_eq_getD_getElem?] at e3
              go_simp
            · intro listed σ w a hin hout hl hla hs hc hp hG hF
              refine Guarded.some (d := 169) (b := true) rfl rfl ((hin 46 169 rfl (hp ⟨46, .guard⟩ (by simp) rfl)).trans (hF 46 (hp ⟨46, .guard⟩ (by simp) rfl))) ?_
              refine Or.inl ⟨rfl, ?_⟩
              have e172 := hin 49 172 rfl (hp ⟨49, .data⟩ (by simp) rfl)
              obtain ⟨Am49, nm49, cm49, ev49, hd49⟩ := hF 49 (hp ⟨49, .data⟩ (by simp) rfl)
              rw [ev49] at e172
              have e173 : a.tmps.getD 173 undef = .agg #[.slice A1 L1.length c1, .slice A2 L2.length c2] := (hin 50 173 rfl (hp ⟨50, .data⟩ (by simp) rfl)).trans (hF 50 (hp ⟨50, .data⟩ (by simp) rfl))
              have e174 : a.tmps.getD 174 undef = .int .i64 (y : Int) := (hin 51 174 rfl (hp ⟨51, .data⟩ (by simp) rfl)).trans (hF 51 (hp ⟨51, .data⟩ (by simp) rfl))
              refine Does.call ?_ (hv_call Some_ (.mk 7 0 [tp, tq]) 7 0 Am49 nm49 cm49 A1 c1 A2 c2 L1 L2 (y : Int) y true w hd49 (DW1.out.keep (Keep.of_below (HBd.out.next hG))) (DW2.out.keep (Keep.of_below (HBd.out.next hG))) HN0.out HN9.out (by omega) rfl (by rw [HV_imp]; first | (rw [VA.out, VB.out]; rfl) | (rw [VA.out]; rfl) | exact VA1.out)) ?_
              · go_simp
              · rintro e w' ⟨rfl, hb⟩
                exact ⟨_, rfl, hb, rfl, hG.next hb⟩
            · intro listed σ w a hin hout hl hla hs hc hp hG hF
              refine Guarded.some (d := 169) (b := true) rfl rfl ((hin 46 169 rfl (hp ⟨46, .guard⟩ (by simp) rfl)).trans (hF 46 (hp ⟨46, .guard⟩ (by simp) rfl))) ?_
              refine Or.inl ⟨rfl, ?_⟩
              have e9 : a.tmps.getD 9 undef = .bool true := hout 9 (outB_spec (by kernel_rfl))
              refine Does.val (.bool true) (w' := w) ?_ ⟨Below.refl _ _, rfl, hG⟩
              simp only [Array.getD_eq_getD_getElem?] at e9
              go_simp
            · intro listed σ w a hin hout hl hla hs hc hp hG hF
              refine Guarded.some (d := 169) (b := true) rfl rfl ((hin 46 169 rfl (hp ⟨46, .guard⟩ (by simp) rfl)).trans (hF 46 (hp ⟨46, .guard⟩ (by simp) rfl))) ?_
              refine Or.inl ⟨rfl, ?_⟩
              have e176 : a.tmps.getD 176 undef = .bool true := (hin 53 176 rfl (hp ⟨53, .data⟩ (by simp) rfl)).trans (hF 53 (hp ⟨53, .data⟩ (by simp) rfl))
              refine Does.val (.bool false) (w' := w) ?_ ⟨Below.refl _ _, rfl, hG⟩
              simp only [Array.getD_eq_getD_getElem?] at e176
              go_simp
            · intro listed σ w a hin hout hl hla hs hc hp hG hF
              refine Guarded.some (d := 169) (b := true) rfl rfl ((hin 46 169 rfl (hp ⟨46, .guard⟩ (by simp) rfl)).trans (hF 46 (hp ⟨46, .guard⟩ (by simp) rfl))) ?_
              refine Or.inl ⟨rfl, ?_⟩
              have e177 : a.tmps.getD 177 undef = .bool false := (hin 54 177 rfl (hp ⟨54, .data⟩ (by simp) rfl)).trans (hF 54 (hp ⟨54, .data⟩ (by simp) rfl))
              refine Does.val (.bool false) (w' := w) ?_ ⟨Below.refl _ _, rfl, hG⟩
              simp only [Array.getD_eq_getD_getElem?] at e177
              go_simp
            · intro listed σ w a hin hout hl hla hs hc hp hG hF
              refine Guarded.some (d := 178) (b := false) rfl rfl ((hin 55 178 rfl (hp ⟨55, .guard⟩ (by simp) rfl)).trans (hF 55 (hp ⟨55, .guard⟩ (by simp) rfl))) ?_
              refine Or.inl ⟨rfl, ?_⟩
              have e10 : a.tmps.getD 10 undef = .bool true := hout 10 (outB_spec (by kernel_rfl))
              refine Does.val (.bool true) (w' := w) ?_ ⟨Below.refl _ _, rfl, hG⟩
              simp only [Array.getD_eq_getD_getElem?] at e10
              go_simp
            · intro listed σ w a hin hout hl hla hs hc hp hG hF
              refine Guarded.some (d := 169) (b := true) rfl rfl ((hin 46 169 rfl (hp ⟨46, .guard⟩ (by simp) rfl)).trans (hF 46 (hp ⟨46, .guard⟩ (by simp) rfl))) ?_
              refine Or.inl ⟨rfl, ?_⟩
              have e178 : a.tmps.getD 178 undef = .bool false := (hin 55 178 rfl (hp ⟨55, .data⟩ (by simp) rfl)).trans (hF 55 (hp ⟨55, .data⟩ (by simp) rfl))
              have e179 : a.tmps.getD 179 undef = .bool true := (hin 56 179 rfl (hp ⟨56, .data⟩ (by simp) rfl)).trans (hF 56 (hp ⟨56, .data⟩ (by simp) rfl))
              refine Does.val (.bool true) (w' := w) ?_ ⟨Below.refl _ _, rfl, hG⟩
              simp only [Array.getD_eq_getD_getElem?] at e178 e179
              go_simp
            · intro listed σ w a hin hout hl hla hs hc hp hG hF
              refine Guarded.some (d := 169) (b := true) rfl rfl ((hin 46 169 rfl (hp ⟨46, .guard⟩ (by simp) rfl)).trans (hF 46 (hp ⟨46, .guard⟩ (by simp) rfl))) ?_
              refine Or.inl ⟨rfl, ?_⟩
              have e175 : a.tmps.getD 175 undef = .bool true := (hin 52 175 rfl (hp ⟨52, .data⟩ (by simp) rfl)).trans (hF 52 (hp ⟨52, .data⟩ (by simp) rfl))
              have e180 : a.tmps.getD 180 undef = .bool true := (hin 57 180 rfl (hp ⟨57, .data⟩ (by simp) rfl)).trans (hF 57 (hp ⟨57, .data⟩ (by simp) rfl))
              refine Does.val (.bool true) (w' := w) ?_ ⟨Below.refl _ _, rfl, hG⟩
              simp only [Array.getD_eq_getD_getElem?] at e175 e180
              go_simp
            · intro listed σ w a hin hout hl hla hs hc hp hG hF
              refine Guarded.none rfl ?_
              have e169 : a.tmps.getD 169 undef = .bool true := (hin 46 169 rfl (hp ⟨46, .data⟩ (by simp) rfl)).trans (hF 46 (hp ⟨46, .data⟩ (by simp) rfl))
              have e181 : a.tmps.getD 181 undef = .bool true := (hin 58 181 rfl (hp ⟨58, .data⟩ (by simp) rfl)).trans (hF 58 (hp ⟨58, .data⟩ (by simp) rfl))
              refine Does.val (.bool true) (w' := w) ?_ ⟨Below.refl _ _, rfl, hG⟩
              simp only [Array.getD_eq_getD_getElem?] at e169 e181
              go_simp
          · intro o ho
            injection ho with ho; subst ho
            intro listed σ w a hall hin hout hG hF
            refine Guarded.none rfl ?_
            have e182 : a.tmps.getD 182 undef = .bool true := (hin 59 182 rfl (by decide)).trans (hF 59 (by decide))
            refine Does.val (.bool true) (w' := w) (by simp only [Array.getD_eq_getD_getElem?] at *; go_simp) ?_
            rw [show fin _ σ (.bool true) _ = (Act.put (Act.put (Act.put (Act.put (Act.put (Act.put (Act.put (Act.put (Act.put (Act.put (Act.put (Act.put (Act.put (Act.put (Act.put (Act.put (Act.put (Act.put (Act.put (Act.put (Act.put (Act.put (Act.put (Act.put (Act.put (Act.put (Act.put (Act.put (Act.put (Act.put (Act.put (Act.put (Act.put (Act.put (Act.put (Act.put (Act.put (Act.put (Act.put (Act.put (Act.put (Act.put (Act.put (Act.put (Act.put (Act.put (Act.put (Act.put (Act.put (Act.put (Act.put (Act.put (Act.put (Act.put (Act.put (Act.put (Act.put (Act.put (Act.put (Act.put (Act.put _ (some 123) (σ 0)) (some 124) (σ 1)) (some 125) (σ 2)) (some 126) (σ 3)) (some 127) (σ 4)) (some 128) (σ 5)) (some 129) (σ 6)) (some 130) (σ 7)) (some 131) (σ 8)) (some 132) (σ 9)) (some 133) (σ 10)) (some 134) (σ 11)) (some 135) (σ 12)) (some 136) (σ 13)) (some 137) (σ 14)) (some 138) (σ 15)) (some 139) (σ 16)) (some 140) (σ 17)) (some 141) (σ 18)) (some 142) (σ 19)) (some 143) (σ 20)) (some 144) (σ 21)) (some 145) (σ 22)) (some 146) (σ 23)) (some 147) (σ 24)) (some 148) (σ 25)) (some 149) (σ 26)) (some 150) (σ 27)) (some 151) (σ 28)) (some 152) (σ 29)) (some 153) (σ 30)) (some 154) (σ 31)) (some 155) (σ 32)) (some 156) (σ 33)) (some 157) (σ 34)) (some 158) (σ 35)) (some 159) (σ 36)) (some 160) (σ 37)) (some 161) (σ 38)) (some 162) (σ 39)) (some 163) (σ 40)) (some 164) (σ 41)) (some 165) (σ 42)) (some 166) (σ 43)) (some 167) (σ 44)) (some 168) (σ 45)) (some 169) (σ 46)) (some 170) (σ 47)) (some 171) (σ 48)) (some 172) (σ 49)) (some 173) (σ 50)) (some 174) (σ 51)) (some 175) (σ 52)) (some 176) (σ 53)) (some 177) (σ 54)) (some 178) (σ 55)) (some 179) (σ 56)) (some 180) (σ 57)) (some 181) (σ 58)) (some 182) (σ 59)) (some 8) (.bool true)) from (fin_all hall).trans rfl]
            simp only [Act.put, List.setIfInBounds_toArray, List.set_cons_zero, List.set_cons_succ]
            have HB9 := hide (HBd.out.next hG)
            generalize σ 0 = tt0 at *; generalize σ 1 = tt1 at *; generalize σ 2 = tt2 at *; generalize σ 3 = tt3 at *; generalize σ 4 = tt4 at *; generalize σ 5 = tt5 at *; generalize σ 6 = tt6 at *; generalize σ 7 = tt7 at *; generalize σ 8 = tt8 at *; generalize σ 9 = tt9 at *; generalize σ 10 = tt10 at *; generalize σ 11 = tt11 at *; generalize σ 12 = tt12 at *; generalize σ 13 = tt13 at *; generalize σ 14 = tt14 at *; generalize σ 15 = tt15 at *; generalize σ 16 = tt16 at *; generalize σ 17 = tt17 at *; generalize σ 18 = tt18 at *; generalize σ 19 = tt19 at *; generalize σ 20 = tt20 at *; generalize σ 21 = tt21 at *; generalize σ 22 = tt22 at *; generalize σ 23 = tt23 at *; generalize σ 24 = tt24 at *; generalize σ 25 = tt25 at *; generalize σ 26 = tt26 at *; generalize σ 27 = tt27 at *; generalize σ 28 = tt28 at *; generalize σ 29 = tt29 at *; generalize σ 30 = tt30 at *; generalize σ 31 = tt31 at *; generalize σ 32 = tt32 at *; generalize σ 33 = tt33 at *; generalize σ 34 = tt34 at *; generalize σ 35 = tt35 at *; generalize σ 36 = tt36 at *; generalize σ 37 = tt37 at *; generalize σ 38 = tt38 at *; generalize σ 39 = tt39 at *; generalize σ 40 = tt40 at *; generalize σ 41 = tt41 at *; generalize σ 42 = tt42 at *; generalize σ 43 = tt43 at *; generalize σ 44 = tt44 at *; generalize σ 45 = tt45 at *; generalize σ 46 = tt46 at *; generalize σ 47 = tt47 at *; generalize σ 48 = tt48 at *; generalize σ 49 = tt49 at *; generalize σ 50 = tt50 at *; generalize σ 51 = tt51 at *; generalize σ 52 = tt52 at *; generalize σ 53 = tt53 at *; generalize σ 54 = tt54 at *; generalize σ 55 = tt55 at *; generalize σ 56 = tt56 at *; generalize σ 57 = tt57 at *; generalize σ 58 = tt58 at *; generalize σ 59 = tt59 at *
            clear hF hG hall hin hout SOF
            go_wp2_with fail
            go_ret
            exact HY.out _ HB9.out
theorem wordUnfolds_walk (kp pp : Int) (Ap : Option Addr) (np cp : Nat) (tp : LT) (kq pq : Int) (Aq : Option Addr) (nq cq : Nat) (tq : LT) (A1 : Option Addr) (n1 c1 : Nat) (L1 : List (List Bool)) (A2 : Option Addr) (n2 c2 : Nat) (L2 : List (List Bool)) (at_ : Int) (W : World)
    (hp : DIn Some_ W tp (c3 kp pp Ap np cp)) (hq : DIn Some_ W tq (c3 kq pq Aq nq cq)) (h1 : LsIn Some_ W A1 n1 L1) (h2 : LsIn Some_ W A2 n2 L2) (_ : n1 ≤ c1) (_ : c1 ≤ 9223372036854775807) (_ : A1 = none → n1 = 0 ∧ c1 = 0) (_ : n2 ≤ c2) (_ : c2 ≤ 9223372036854775807) (_ : A2 = none → n2 = 0 ∧ c2 = 0)
    (hn : n1 ≤ 4611686018427387903) (hm : n2 ≤ 4611686018427387903) (_ : -9223372036854775808 ≤ at_) (hx9 : at_ ≤ 9223372036854775807) :
    Calls Try.prog 4 #[.agg #[.int .i64 kp, .int .i64 pp, .slice Ap np cp], .agg #[.int .i64 kq, .int .i64 pq, .slice Aq nq cq], .agg #[.slice A1 n1 c1, .slice A2 n2 c2], .int .i64 at_] W (WYes W) := by
  obtain rfl := h1.1
  obtain rfl := h2.1
  exact wordUnfolds_any kp pp Ap np cp tp kq pq Aq nq cq tq A1 c1 L1 A2 c2 L2 at_ W hp hq h1 h2 hn hm hx9
end Go.Proofs.Ytljocjjdfgpbaaa
