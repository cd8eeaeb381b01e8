/- lex: check, first. -/
import Derived.Test.YtifikcaiknnjfaaLexE
namespace Go.Proofs.Ytifikcaiknnjfaa
open Go.RowKit
open Lx

theorem call_enter {P : Program} {f : FuncId} {fn : Func} (hf : P.funcs[f]? = some fn) (hname : (fn.name == "runtime.NumGoroutine") = false) (hb : fn.body.isSome = true) (args : Array Value) (w : World) : (callFunc f args).run P w = .ok (.enter f args) w := by
  have h1 : fn.name ≠ "runtime.NumGoroutine" := by simpa using hname
  obtain ⟨c, hc⟩ := Option.isSome_iff_exists.1 hb
  simp [callFunc, hf, h1, hc, mark, Sem.run]
theorem lB (c : Nat) : (decide (97 ≤ (c : Int)) && decide ((c : Int) ≤ 122)) = letB c := by
  unfold letB
  congr 1 <;> (rw [decide_eq_decide]; omega)
theorem dB (c : Nat) : (decide (48 ≤ (c : Int)) && decide ((c : Int) ≤ 57)) = digB c := by
  unfold digB
  congr 1 <;> (rw [decide_eq_decide]; omega)
theorem wB (c : Nat) : ((decide (97 ≤ (c : Int)) && decide ((c : Int) ≤ 122)) || (decide (48 ≤ (c : Int)) && decide ((c : Int) ≤ 57)) || ((c : Int) == 95)) = wrdB c := by
  rw [lB, dB]
  unfold wrdB
  congr 1
  by_cases h : c = 95
  · subst h; rfl
  · rw [beq_eq_false_iff_ne.2 h, beq_eq_false_iff_ne]; omega
theorem runWord (s : ByteArray) (w : World) : Calls Try.prog 31 #[.string s, .func (.func 32) #[] #[]] w (fun e w' => e = .returned (.int .i64 (stop wrdB (byteAt s) s.size 0 : Nat)) ∧ Below w.heap.size w w') :=
  run_any _ wrdB (fun c W => by have h := isWordPart_any (c : Int) W; rw [wB] at h; exact h) (fun c h => by unfold wrdB letB digB; simp; omega) (fun args W => call_enter Try.func32 (by kernel_rfl) (by kernel_rfl) args W) s w
theorem runDigit (s : ByteArray) (w : World) : Calls Try.prog 31 #[.string s, .func (.func 33) #[] #[]] w (fun e w' => e = .returned (.int .i64 (stop digB (byteAt s) s.size 0 : Nat)) ∧ Below w.heap.size w w') :=
  run_any _ digB (fun c W => by have h := isDigit_any (c : Int) W; rw [dB] at h; exact h) (fun c h => by unfold digB; simp; omega) (fun args W => call_enter Try.func33 (by kernel_rfl) (by kernel_rfl) args W) s w
def firstSize (s : ByteArray) : Nat := if letB (byteAt s 0) = true then stop wrdB (byteAt s) s.size 0 else if digB (byteAt s 0) = true then stop digB (byteAt s) s.size 0 else if bigB (byteAt s 0) = true then 1 else sgnSize s
set_option maxHeartbeats 4000000 in
theorem first_any (s : ByteArray) (w : World) (h0 : 0 < s.size) (hs : s.size ≤ 4611686018427387904) : Calls Try.prog 24 #[.string s] w (fun e w' => e = .returned (.tuple #[.int .i64 (tokKind (byteAt s 0) : Nat), .int .i64 (firstSize s : Nat)]) ∧ Below w.heap.size w w') := by
  have hlt := byteAt_lt s 0
  have hl := isLetter_any (byteAt s 0 : Int) w
  rw [lB] at hl
  have hd := fun W => isDigit_any (byteAt s 0 : Int) W
  simp only [dB] at hd
  have hw := fun W => runWord s W
  have hr := fun W => runDigit s W
  have hx := fun W => ix_any ⟨#[88, 71, 70, 85, 82]⟩ (byteAt s 0) hlt W
  have hz := fun W => signSize_any s W h0 hs
  have HX := hide (big_ix hlt)
  have HK := hide (show tokKind (byteAt s 0) = if letB (byteAt s 0) = true then 1 else if digB (byteAt s 0) = true then 3 else if bigB (byteAt s 0) = true then 4 else 2 from rfl)
  have HS := hide (show firstSize s = if letB (byteAt s 0) = true then stop wrdB (byteAt s) s.size 0 else if digB (byteAt s 0) = true then stop digB (byteAt s) s.size 0 else if bigB (byteAt s 0) = true then 1 else sgnSize s from rfl)
  generalize firstSize s = fz at *
  generalize tokKind (byteAt s 0) = tk at *
  generalize firstIdx ⟨#[88, 71, 70, 85, 82]⟩ (byteAt s 0).toUInt8 = q at *
  generalize stop wrdB (byteAt s) s.size 0 = nw at *
  generalize stop digB (byteAt s) s.size 0 = nd at *
  generalize sgnSize s = nz at *
  have hbe := byteAt_eq s 0 h0
  by_cases h1 : letB (byteAt s 0) = true
  · have e1 : tk = 1 := HK.out.trans (if_pos h1)
    have e2 : fz = nw := HS.out.trans (if_pos h1)
    subst e1 e2
    rw [h1] at hl
    clear HK HS HX hx hz hd hr h1
    rw [hbe] at hl
    go_enter Try.func24, Try.ntmps24
    go_wp2_with fail
    refine hl.mono ?_
    rintro e w1 ⟨rfl, k, rfl⟩
    go_wp2_with fail
    refine (hw _).mono ?_
    rintro e w1 ⟨rfl, b1⟩
    go_wp2_with fail
    go_ret2
    exact ⟨rfl, (bl_drewN _ _).next b1⟩
  · rw [show letB (byteAt s 0) = false by simpa using h1] at hl
    by_cases h2 : digB (byteAt s 0) = true
    · have e1 : tk = 3 := HK.out.trans ((if_neg h1).trans (if_pos h2))
      have e2 : fz = nd := HS.out.trans ((if_neg h1).trans (if_pos h2))
      subst e1 e2
      rw [h2] at hd
      clear HK HS HX hx hz hw h1 h2
      rw [hbe] at hl hd
      go_enter Try.func24, Try.ntmps24
      go_wp2_with fail
      refine hl.mono ?_
      rintro e w1 ⟨rfl, k, rfl⟩
      go_wp2_with fail
      refine (hd _).mono ?_
      rintro e w1 ⟨rfl, k2, rfl⟩
      go_wp2_with fail
      refine (hr _).mono ?_
      rintro e w1 ⟨rfl, b1⟩
      go_wp2_with fail
      go_ret2
      exact ⟨rfl, (bl_drewN w (k + k2)).next b1⟩
    · simp only [show digB (byteAt s 0) = false by simpa using h2] at hd
      rw [hbe] at hl hd hx
      by_cases hq : q ≥ 0
      · have h3 : bigB (byteAt s 0) = true := by rw [← HX.out]; simpa using hq
        have e1 : tk = 4 := HK.out.trans ((if_neg h1).trans ((if_neg h2).trans (if_pos h3)))
        have e2 : fz = 1 := HS.out.trans ((if_neg h1).trans ((if_neg h2).trans (if_pos h3)))
        subst e1 e2
        clear HK HS HX hz hw hr h1 h2 h3
        go_enter Try.func24, Try.ntmps24
        go_wp2_with fail
        refine hl.mono ?_
        rintro e w1 ⟨rfl, k, rfl⟩
        go_wp2_with fail
        refine (hd _).mono ?_
        rintro e w1 ⟨rfl, k2, rfl⟩
        go_wp2_with fail
        refine (hx _).mono ?_
        rintro e w1 ⟨rfl, k3, rfl⟩
        go_wp2_with fail
        go_ret2
        exact ⟨rfl, bl_drewN w (k + k2 + k3)⟩
      · have h3 : ¬ bigB (byteAt s 0) = true := by rw [← HX.out]; simpa using hq
        have e1 : tk = 2 := HK.out.trans ((if_neg h1).trans ((if_neg h2).trans (if_neg h3)))
        have e2 : fz = nz := HS.out.trans ((if_neg h1).trans ((if_neg h2).trans (if_neg h3)))
        subst e1 e2
        clear HK HS HX hw hr h1 h2 h3
        go_enter Try.func24, Try.ntmps24
        go_wp2_with fail
        refine hl.mono ?_
        rintro e w1 ⟨rfl, k, rfl⟩
        go_wp2_with fail
        refine (hd _).mono ?_
        rintro e w1 ⟨rfl, k2, rfl⟩
        go_wp2_with fail
        refine (hx _).mono ?_
        rintro e w1 ⟨rfl, k3, rfl⟩
        go_wp2_with fail
        refine (hz _).mono ?_
        rintro e w1 ⟨rfl, k4, rfl⟩
        go_wp2_with fail
        go_ret2
        exact ⟨rfl, bl_drewN w (k + k2 + k3 + k4)⟩
end Go.Proofs.Ytifikcaiknnjfaa
