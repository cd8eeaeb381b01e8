/- Texts of one seat, put together: LexD LexE LexF LexG LexS LexT. -/
import Derived.Test.YtneiajkcikcnnaaDoorB02
import Derived.Laws.Externs
import Derived.Lib.Strings
set_option linter.unusedVariables false
/- strings.IndexByte on the two constant texts; lex: check. -/
namespace Go.Proofs.YtneiajkcikcnnaaDoor
open Go.RowKit
open Lx

theorem ix_ext (s : ByteArray) (c : Nat) (_hc : c < 256) (W : World) : (callFunc 57 #[.string s, .int .u8 (c : Int)]).run Tryd.prog W = .ok (.value (.int .i64 (firstIdx s c.toUInt8))) W := by
  refine (run_callFunc_extern (e := Extern.BytealgIndexByte.indexByte) Tryd.func57 (by kernel_rfl) (by kernel_rfl) (by kernel_rfl) (by kernel_rfl) _ W).trans ?_
  rw [run_indexByte_string]
  rfl
set_option maxHeartbeats 1000000 in
theorem ix_lite (s : ByteArray) (c : Nat) (hc : c < 256) (w : World) : Calls Tryd.prog 50 #[.string s, .int .u8 (c : Int)] w (Draws (.int .i64 (firstIdx s c.toUInt8)) w) := by
  have hx := ix_ext s c hc
  go_enter Tryd.func50, Tryd.ntmps50
  go_wp2_with fail
  go_ret
  exact ⟨rfl, 0, rfl⟩
set_option maxHeartbeats 1000000 in
theorem ix_any (s : ByteArray) (c : Nat) (hc : c < 256) (w : World) : Calls Tryd.prog 40 #[.string s, .int .u8 (c : Int)] w (Draws (.int .i64 (firstIdx s c.toUInt8)) w) := by
  have hx := fun W => ix_lite s c hc W
  go_enter Tryd.func40, Tryd.ntmps40
  go_wp2_with fail
  refine (hx _).mono ?_
  rintro e w1 ⟨rfl, k, rfl⟩
  go_wp2_with fail
  go_ret
  exact ⟨rfl, k, rfl⟩
def allC (p : Nat → Bool) : Nat → Bool
  | 0 => true
  | n + 1 => p n && allC p n
theorem allC_spec {p : Nat → Bool} {n c : Nat} (h : allC p n = true) (hc : c < n) : p c = true := by
  induction n with
  | zero => omega
  | succ n ih =>
    rw [allC, Bool.and_eq_true] at h
    by_cases he : c = n
    · subst he; exact h.1
    · exact ih h.2 (by omega)
theorem big_ix {c : Nat} (hc : c < 256) : decide (firstIdx ⟨#[88, 71, 70, 85, 82]⟩ c.toUInt8 ≥ 0) = bigB c := by
  have h : allC (fun c => decide (firstIdx ⟨#[88, 71, 70, 85, 82]⟩ c.toUInt8 ≥ 0) == bigB c) 256 = true := by kernel_rfl
  simpa using allC_spec h hc
theorem sgn_ix {c : Nat} (hc : c < 256) : decide (firstIdx ⟨#[40, 41, 44, 59, 58, 46, 43, 42, 38, 124, 33, 64, 61, 60, 62, 47, 45]⟩ c.toUInt8 ≥ 0) = sgnB c := by
  have h : allC (fun c => decide (firstIdx ⟨#[40, 41, 44, 59, 58, 46, 43, 42, 38, 124, 33, 64, 61, 60, 62, 47, 45]⟩ c.toUInt8 ≥ 0) == sgnB c) 256 = true := by kernel_rfl
  simpa using allC_spec h hc
end Go.Proofs.YtneiajkcikcnnaaDoor
/- lex: signSize, check, first. -/
namespace Go.Proofs.YtneiajkcikcnnaaDoor
open Go.RowKit
open Lx

theorem two_list (s : ByteArray) (h : 2 ≤ s.size) : ∃ a b : UInt8, (s.extract 0 2).toList = [a, b] ∧ a.toNat = byteAt s 0 ∧ b.toNat = byteAt s 1 := by
  refine ⟨s[0]'(by omega), s[1]'(by omega), ?_, (byteAt_eq s 0 (by omega)).symm, (byteAt_eq s 1 (by omega)).symm⟩
  rw [Lib.toList_data]
  apply List.ext_getElem
  · simp; omega
  · intro i h1 h2
    have hi : i < 2 := by simpa using h2
    have hi2 : i = 0 ∨ i = 1 := by omega
    rcases hi2 with rfl | rfl <;> simp [ByteArray.getElem_eq_getElem_data]
theorem u8_of {a : UInt8} {n : Nat} (h : a.toNat = n) (hn : n < 256) : a = UInt8.ofNat n := by
  apply UInt8.toNat_inj.1
  rw [h, UInt8.toNat_ofNat_of_lt' hn]
theorem two_cases {x y : Nat} (h : twoB x y = true) : (x = 45 ∧ y = 62) ∨ (x = 58 ∧ y = 61) ∨ (x = 33 ∧ y = 61) ∨ (x = 60 ∧ y = 61) ∨ (x = 62 ∧ y = 61) ∨ (x = 46 ∧ y = 46) := by
  unfold twoB at h
  simp at h
  omega
def sgnSize (s : ByteArray) : Nat := if 2 ≤ s.size ∧ twoB (byteAt s 0) (byteAt s 1) = true then 2 else if sgnB (byteAt s 0) = true then 1 else 0
set_option maxHeartbeats 4000000 in
theorem signSize_any (s : ByteArray) (w : World) (h0 : 0 < s.size) (hs : s.size ≤ 4611686018427387904) : Calls Tryd.prog 41 #[.string s] w (Draws (.int .i64 (sgnSize s : Nat)) w) := by
  have hix := ix_any ⟨#[40, 41, 44, 59, 58, 46, 43, 42, 38, 124, 33, 64, 61, 60, 62, 47, 45]⟩ (byteAt s 0) (byteAt_lt s 0) w
  have HX := hide (sgn_ix (byteAt_lt s 0))
  have hbe := byteAt_eq s 0 h0
  have HSZ := hide (show sgnSize s = if 2 ≤ s.size ∧ twoB (byteAt s 0) (byteAt s 1) = true then 2 else if sgnB (byteAt s 0) = true then 1 else 0 from rfl)
  generalize sgnSize s = z at *
  generalize firstIdx ⟨#[40, 41, 44, 59, 58, 46, 43, 42, 38, 124, 33, 64, 61, 60, 62, 47, 45]⟩ (byteAt s 0).toUInt8 = q at *
  rw [hbe] at hix
  by_cases h2 : 2 ≤ s.size
  · obtain ⟨a, b, hl, ha, hb⟩ := two_list s h2
    by_cases ht : twoB (byteAt s 0) (byteAt s 1) = true
    · have hz : z = 2 := HSZ.out.trans (if_pos ⟨h2, ht⟩)
      have hc := two_cases ht
      rw [← ha, ← hb] at hc
      subst hz
      clear HX HSZ hix ht
      go_enter Tryd.func41, Tryd.ntmps41
      rcases hc with ⟨h1, h3⟩ | ⟨h1, h3⟩ | ⟨h1, h3⟩ | ⟨h1, h3⟩ | ⟨h1, h3⟩ | ⟨h1, h3⟩ <;> (rw [u8_of h1 (by decide), u8_of h3 (by decide)] at hl; clear h1 h3 ha hb hbe; go_wp2_with fail; go_ret; exact ⟨rfl, 0, rfl⟩)
    · have hne : ∀ x y : UInt8, twoB x.toNat y.toNat = true → ((s.extract 0 2).toList == [x, y]) = false := by
        intro x y hxy
        rw [hl]
        simp only [beq_eq_false_iff_ne]
        intro hh
        injection hh with e1 e2
        injection e2 with e2 _
        rw [e1] at ha
        rw [e2] at hb
        rw [ha, hb] at hxy
        exact ht hxy
      have n1 := hne 45 62 rfl
      have n2 := hne 58 61 rfl
      have n3 := hne 33 61 rfl
      have n4 := hne 60 61 rfl
      have n5 := hne 62 61 rfl
      have n6 := hne 46 46 rfl
      have HZ := hide (HSZ.out.trans (if_neg (fun h => ht h.2)))
      clear hne ht hl ha hb HSZ
      by_cases hq : q ≥ 0
      · have hz : z = 1 := HZ.out.trans (if_pos (by rw [← HX.out]; simpa using hq))
        subst hz
        clear HZ HX hbe
        go_enter Tryd.func41, Tryd.ntmps41
        go_wp2_with fail
        refine hix.mono ?_
        rintro e w1 ⟨rfl, k, rfl⟩
        go_wp2_with fail
        go_ret
        exact ⟨rfl, k, rfl⟩
      · have hz : z = 0 := HZ.out.trans (if_neg (by rw [← HX.out]; simpa using hq))
        subst hz
        clear HZ HX hbe
        go_enter Tryd.func41, Tryd.ntmps41
        go_wp2_with fail
        refine hix.mono ?_
        rintro e w1 ⟨rfl, k, rfl⟩
        go_wp2_with fail
        go_ret
        exact ⟨rfl, k, rfl⟩
  · have HZ := hide (HSZ.out.trans (if_neg (fun h => h2 h.1)))
    clear HSZ
    by_cases hq : q ≥ 0
    · have hz : z = 1 := HZ.out.trans (if_pos (by rw [← HX.out]; simpa using hq))
      subst hz
      clear HZ HX hbe
      go_enter Tryd.func41, Tryd.ntmps41
      go_wp2_with fail
      refine hix.mono ?_
      rintro e w1 ⟨rfl, k, rfl⟩
      go_wp2_with fail
      go_ret
      exact ⟨rfl, k, rfl⟩
    · have hz : z = 0 := HZ.out.trans (if_neg (by rw [← HX.out]; simpa using hq))
      subst hz
      clear HZ HX hbe
      go_enter Tryd.func41, Tryd.ntmps41
      go_wp2_with fail
      refine hix.mono ?_
      rintro e w1 ⟨rfl, k, rfl⟩
      go_wp2_with fail
      go_ret
      exact ⟨rfl, k, rfl⟩
end Go.Proofs.YtneiajkcikcnnaaDoor
/- lex: check, first. -/
namespace Go.Proofs.YtneiajkcikcnnaaDoor
open Go.RowKit
open Lx

theorem call_enter {P : Program} {f : FuncId} {fn : Func} (hf : P.funcs[f]? = some fn) (hname : (fn.name == "runtime.NumGoroutine") = false) (hb : fn.body.isSome = true) (args : Array Value) (w : World) : (callFunc f args).run P w = .ok (.enter f args) w := by
  have h1 : fn.name ≠ "runtime.NumGoroutine" := by simpa using hname
  obtain ⟨c, hc⟩ := Option.isSome_iff_exists.1 hb
  simp [callFunc, hf, h1, hc, mark]
theorem lB (c : Nat) : (decide (97 ≤ (c : Int)) && decide ((c : Int) ≤ 122)) = letB c := by
  unfold letB
  congr 1 <;> (rw [decide_eq_decide]; omega)
theorem dB (c : Nat) : (decide (48 ≤ (c : Int)) && decide ((c : Int) ≤ 57)) = digB c := by
  unfold digB
  congr 1 <;> (rw [decide_eq_decide]; omega)
theorem wB (c : Nat) : ((decide (97 ≤ (c : Int)) && decide ((c : Int) ≤ 122)) || (decide (48 ≤ (c : Int)) && decide ((c : Int) ≤ 57)) || ((c : Int) == 95)) = wrdB c := by
  rw [lB, dB]
  unfold wrdB
  congr 1
  by_cases h : c = 95
  · subst h; rfl
  · rw [beq_eq_false_iff_ne.2 h, beq_eq_false_iff_ne]; omega
theorem runWord (s : ByteArray) (w : World) : Calls Tryd.prog 37 #[.string s, .func (.func 38) #[] #[]] w (fun e w' => e = .returned (.int .i64 (stop wrdB (byteAt s) s.size 0 : Nat)) ∧ Below w.heap.size w w') :=
  run_any _ wrdB (fun c W => by have h := isWordPart_any (c : Int) W; rw [wB] at h; exact h) (fun c h => by unfold wrdB letB digB; simp; omega) (fun args W => call_enter Tryd.func38 (by kernel_rfl) (by kernel_rfl) args W) s w
theorem runDigit (s : ByteArray) (w : World) : Calls Tryd.prog 37 #[.string s, .func (.func 39) #[] #[]] w (fun e w' => e = .returned (.int .i64 (stop digB (byteAt s) s.size 0 : Nat)) ∧ Below w.heap.size w w') :=
  run_any _ digB (fun c W => by have h := isDigit_any (c : Int) W; rw [dB] at h; exact h) (fun c h => by unfold digB; simp; omega) (fun args W => call_enter Tryd.func39 (by kernel_rfl) (by kernel_rfl) args W) s w
def firstSize (s : ByteArray) : Nat := if letB (byteAt s 0) = true then stop wrdB (byteAt s) s.size 0 else if digB (byteAt s 0) = true then stop digB (byteAt s) s.size 0 else if bigB (byteAt s 0) = true then 1 else sgnSize s
set_option maxHeartbeats 4000000 in
theorem first_any (s : ByteArray) (w : World) (h0 : 0 < s.size) (hs : s.size ≤ 4611686018427387904) : Calls Tryd.prog 23 #[.string s] w (fun e w' => e = .returned (.tuple #[.int .i64 (tokKind (byteAt s 0) : Nat), .int .i64 (firstSize s : Nat)]) ∧ Below w.heap.size w w') := by
  have hlt := byteAt_lt s 0
  have hl := isLetter_any (byteAt s 0 : Int) w
  rw [lB] at hl
  have hd := fun W => isDigit_any (byteAt s 0 : Int) W
  simp only [dB] at hd
  have hw := fun W => runWord s W
  have hr := fun W => runDigit s W
  have hx := fun W => ix_any ⟨#[88, 71, 70, 85, 82]⟩ (byteAt s 0) hlt W
  have hz := fun W => signSize_any s W h0 hs
  have HX := hide (big_ix hlt)
  have HK := hide (show tokKind (byteAt s 0) = if letB (byteAt s 0) = true then 1 else if digB (byteAt s 0) = true then 3 else if bigB (byteAt s 0) = true then 4 else 2 from rfl)
  have HS := hide (show firstSize s = if letB (byteAt s 0) = true then stop wrdB (byteAt s) s.size 0 else if digB (byteAt s 0) = true then stop digB (byteAt s) s.size 0 else if bigB (byteAt s 0) = true then 1 else sgnSize s from rfl)
  generalize firstSize s = fz at *
  generalize tokKind (byteAt s 0) = tk at *
  generalize firstIdx ⟨#[88, 71, 70, 85, 82]⟩ (byteAt s 0).toUInt8 = q at *
  generalize stop wrdB (byteAt s) s.size 0 = nw at *
  generalize stop digB (byteAt s) s.size 0 = nd at *
  generalize sgnSize s = nz at *
  have hbe := byteAt_eq s 0 h0
  by_cases h1 : letB (byteAt s 0) = true
  · have e1 : tk = 1 := HK.out.trans (if_pos h1)
    have e2 : fz = nw := HS.out.trans (if_pos h1)
    subst e1 e2
    rw [h1] at hl
    clear HK HS HX hx hz hd hr h1
    rw [hbe] at hl
    go_enter Tryd.func23, Tryd.ntmps23
    go_wp2_with fail
    refine hl.mono ?_
    rintro e w1 ⟨rfl, k, rfl⟩
    go_wp2_with fail
    refine (hw _).mono ?_
    rintro e w1 ⟨rfl, b1⟩
    go_wp2_with fail
    go_ret2
    exact ⟨rfl, (bl_drewN _ _).next b1⟩
  · rw [show letB (byteAt s 0) = false by simpa using h1] at hl
    by_cases h2 : digB (byteAt s 0) = true
    · have e1 : tk = 3 := HK.out.trans ((if_neg h1).trans (if_pos h2))
      have e2 : fz = nd := HS.out.trans ((if_neg h1).trans (if_pos h2))
      subst e1 e2
      rw [h2] at hd
      clear HK HS HX hx hz hw h1 h2
      rw [hbe] at hl hd
      go_enter Tryd.func23, Tryd.ntmps23
      go_wp2_with fail
      refine hl.mono ?_
      rintro e w1 ⟨rfl, k, rfl⟩
      go_wp2_with fail
      refine (hd _).mono ?_
      rintro e w1 ⟨rfl, k2, rfl⟩
      go_wp2_with fail
      refine (hr _).mono ?_
      rintro e w1 ⟨rfl, b1⟩
      go_wp2_with fail
      go_ret2
      exact ⟨rfl, (bl_drewN w (k + k2)).next b1⟩
    · simp only [show digB (byteAt s 0) = false by simpa using h2] at hd
      rw [hbe] at hl hd hx
      by_cases hq : q ≥ 0
      · have h3 : bigB (byteAt s 0) = true := by rw [← HX.out]; simpa using hq
        have e1 : tk = 4 := HK.out.trans ((if_neg h1).trans ((if_neg h2).trans (if_pos h3)))
        have e2 : fz = 1 := HS.out.trans ((if_neg h1).trans ((if_neg h2).trans (if_pos h3)))
        subst e1 e2
        clear HK HS HX hz hw hr h1 h2 h3
        go_enter Tryd.func23, Tryd.ntmps23
        go_wp2_with fail
        refine hl.mono ?_
        rintro e w1 ⟨rfl, k, rfl⟩
        go_wp2_with fail
        refine (hd _).mono ?_
        rintro e w1 ⟨rfl, k2, rfl⟩
        go_wp2_with fail
        refine (hx _).mono ?_
        rintro e w1 ⟨rfl, k3, rfl⟩
        go_wp2_with fail
        go_ret2
        exact ⟨rfl, bl_drewN w (k + k2 + k3)⟩
      · have h3 : ¬ bigB (byteAt s 0) = true := by rw [← HX.out]; simpa using hq
        have e1 : tk = 2 := HK.out.trans ((if_neg h1).trans ((if_neg h2).trans (if_neg h3)))
        have e2 : fz = nz := HS.out.trans ((if_neg h1).trans ((if_neg h2).trans (if_neg h3)))
        subst e1 e2
        clear HK HS HX hw hr h1 h2 h3
        go_enter Tryd.func23, Tryd.ntmps23
        go_wp2_with fail
        refine hl.mono ?_
        rintro e w1 ⟨rfl, k, rfl⟩
        go_wp2_with fail
        refine (hd _).mono ?_
        rintro e w1 ⟨rfl, k2, rfl⟩
        go_wp2_with fail
        refine (hx _).mono ?_
        rintro e w1 ⟨rfl, k3, rfl⟩
        go_wp2_with fail
        refine (hz _).mono ?_
        rintro e w1 ⟨rfl, k4, rfl⟩
        go_wp2_with fail
        go_ret2
        exact ⟨rfl, bl_drewN w (k + k2 + k3 + k4)⟩
end Go.Proofs.YtneiajkcikcnnaaDoor
/- lex: check. -/
namespace Go.Proofs.YtneiajkcikcnnaaDoor
open Go.RowKit
open Lx

theorem isEmpty_size (s : ByteArray) : s.toList.isEmpty = decide (s.size = 0) := by
  rw [Lib.toList_data]
  have h : s.data.toList.length = s.size := by simp
  cases hl : s.data.toList with
  | nil => rw [hl] at h; simp at h; simp [← h]
  | cons x xs => rw [hl] at h; simp at h; rw [decide_eq_false (by omega)]; rfl
def chk (k : Nat) (s : ByteArray) : Nat := if s.size = 0 then 100 else if k = 1 ∧ 20 < s.size then 2 else if k = 3 ∧ 60 < s.size then 2 else if k = 3 ∧ 1 < s.size ∧ byteAt s 0 = 48 then 20 else 0
set_option maxHeartbeats 4000000 in
theorem check_any (k : Nat) (s : ByteArray) (w : World) (hk : k < 10) (hs : s.size ≤ 4611686018427387904) : Calls Tryd.prog 24 #[.int .i64 (k : Int), .string s] w (Draws (.int .i64 (chk k s : Nat)) w) := by
  have HC := hide (show chk k s = if s.size = 0 then 100 else if k = 1 ∧ 20 < s.size then 2 else if k = 3 ∧ 60 < s.size then 2 else if k = 3 ∧ 1 < s.size ∧ byteAt s 0 = 48 then 20 else 0 from rfl)
  generalize chk k s = r at *
  have he := isEmpty_size s
  have hne : (s.toList == []) = decide (s.size = 0) := by rw [← he]; cases s.toList <;> rfl
  by_cases h0 : s.size = 0
  · have hr := HC.out.trans (if_pos h0)
    subst hr
    rw [decide_eq_true h0] at he hne
    clear HC h0
    go_enter Tryd.func24, Tryd.ntmps24
    go_wp2_with fail
    go_ret
    exact ⟨rfl, 0, rfl⟩
  · rw [decide_eq_false h0] at he hne
    have HC := hide (HC.out.trans (if_neg h0))
    have hbe := byteAt_eq s 0 (by omega)
    have hl1 : 0 < s.size := by omega
    by_cases h1 : k = 1
    · subst h1
      by_cases h2 : 20 < s.size
      · have hr := HC.out.trans (if_pos ⟨rfl, h2⟩)
        subst hr
        clear HC hbe h0
        go_enter Tryd.func24, Tryd.ntmps24
        go_wp2_with fail
        go_ret
        exact ⟨rfl, 0, rfl⟩
      · have hr := HC.out.trans ((if_neg (by omega)).trans ((if_neg (by omega)).trans (if_neg (by omega))))
        subst hr
        clear HC hbe h0
        go_enter Tryd.func24, Tryd.ntmps24
        go_wp2_with fail
        go_ret
        exact ⟨rfl, 0, rfl⟩
    · by_cases h3 : k = 3
      · subst h3
        by_cases h4 : 60 < s.size
        · have hr := HC.out.trans ((if_neg (by omega)).trans (if_pos ⟨rfl, h4⟩))
          subst hr
          clear HC hbe h0 h1
          go_enter Tryd.func24, Tryd.ntmps24
          go_wp2_with fail
          go_ret
          exact ⟨rfl, 0, rfl⟩
        · by_cases h5 : 1 < s.size
          · by_cases h6 : byteAt s 0 = 48
            · have hr := HC.out.trans ((if_neg (by omega)).trans ((if_neg (by omega)).trans (if_pos ⟨rfl, h5, h6⟩)))
              subst hr
              have g : ((s[0]'hl1).toNat : Int) = 48 := by omega
              clear HC hbe h0 h1 h6
              go_enter Tryd.func24, Tryd.ntmps24
              go_wp2_with fail
              go_ret
              exact ⟨rfl, 0, rfl⟩
            · have hr := HC.out.trans ((if_neg (by omega)).trans ((if_neg (by omega)).trans (if_neg (fun h => h6 h.2.2))))
              subst hr
              have g : ¬ ((s[0]'hl1).toNat : Int) = 48 := by omega
              clear HC hbe h0 h1 h6
              go_enter Tryd.func24, Tryd.ntmps24
              go_wp2_with fail
              go_ret
              exact ⟨rfl, 0, rfl⟩
          · have hr := HC.out.trans ((if_neg (by omega)).trans ((if_neg (by omega)).trans (if_neg (fun h => h5 h.2.1))))
            subst hr
            clear HC hbe h0 h1
            go_enter Tryd.func24, Tryd.ntmps24
            go_wp2_with fail
            go_ret
            exact ⟨rfl, 0, rfl⟩
      · have hr := HC.out.trans ((if_neg (by omega)).trans ((if_neg (by omega)).trans (if_neg (by omega))))
        subst hr
        have g1 : ¬ (k : Int) = 1 := by omega
        have g3 : ¬ (k : Int) = 3 := by omega
        clear HC hbe h0 h1 h3
        go_enter Tryd.func24, Tryd.ntmps24
        go_wp2_with fail
        go_ret
        exact ⟨rfl, 0, rfl⟩
end Go.Proofs.YtneiajkcikcnnaaDoor
/- The rest of a text: what the contracts of lex say of it, told of the whole text. -/
namespace Go.Proofs.YtneiajkcikcnnaaDoor
open Go.RowKit
open Lx

theorem ext_size (s : ByteArray) (i j : Nat) (h : i ≤ j) (hj : j ≤ s.size) : (s.extract i j).size = j - i := by simp; omega
theorem ext_byte (s : ByteArray) (i j k : Nat) (hj : j ≤ s.size) (hk : i + k < j) : byteAt (s.extract i j) k = byteAt s (i + k) := by
  have h1 : k < (s.extract i j).size := by rw [ext_size s i j (by omega) hj]; omega
  rw [byteAt_eq _ _ h1, byteAt_eq s (i + k) (by omega)]
  simp [ByteArray.getElem_eq_getElem_data]
theorem ext_ext (s : ByteArray) (i n k : Nat) (hn : n ≤ s.size) (hk : i + k ≤ n) : (s.extract i n).extract k (n - i) = s.extract (i + k) n := by
  apply ByteArray.ext
  apply Array.ext
  · simp; omega
  · intro j h1 h2
    simp
theorem till_shift {p : Nat → Bool} {f g : Nat → Nat} {a : Nat} (m k : Nat) (h : ∀ j, k ≤ j → j < k + m → g j = f (a + j)) : a + till p g m k = till p f m (a + k) := by
  induction m generalizing k with
  | zero => rfl
  | succ m ih =>
    rw [till, till, h k (Nat.le_refl _) (by omega)]
    split
    · rw [ih (k + 1) (fun j h1 h2 => h j (by omega) (by omega))]; congr 1
    · rfl
theorem stop_ext (p : Nat → Bool) (s : ByteArray) (i : Nat) (hi : i ≤ s.size) : i + stop p (byteAt (s.extract i s.size)) (s.extract i s.size).size 0 = stop p (byteAt s) s.size i := by
  unfold stop
  rw [ext_size s i s.size hi (Nat.le_refl _), Nat.sub_zero]
  exact till_shift _ 0 (fun j _ h2 => ext_byte s i s.size j (Nat.le_refl _) (by omega))
theorem skipGo_shift {f g : Nat → Nat} {a : Nat} (m k : Nat) (com : Bool) (h : ∀ j, k ≤ j → j < k + m → g j = f (a + j)) : a + skipGo g m k com = skipGo f m (a + k) com := by
  induction m generalizing k com with
  | zero => rfl
  | succ m ih =>
    rw [skipGo, skipGo, h k (Nat.le_refl _) (by omega)]
    have e := fun c => ih (k + 1) c (fun j h1 h2 => h j (by omega) (by omega))
    split
    · exact e false
    · split
      · exact e true
      · split
        · rfl
        · exact e com
theorem skip_ext (s : ByteArray) (i : Nat) (hi : i ≤ s.size) : i + skip (byteAt (s.extract i s.size)) (s.extract i s.size).size 0 false = skip (byteAt s) s.size i false := by
  unfold skip
  rw [ext_size s i s.size hi (Nat.le_refl _), Nat.sub_zero]
  exact skipGo_shift _ 0 false (fun j _ h2 => ext_byte s i s.size j (Nat.le_refl _) (by omega))
theorem tokKind_ext (s : ByteArray) (i : Nat) (hi : i < s.size) : tokKind (byteAt (s.extract i s.size) 0) = tokKind (byteAt s i) := by
  rw [ext_byte s i s.size 0 (Nat.le_refl _) (by omega)]; rfl
theorem posAt_ext (s : ByteArray) (i k : Nat) (h : i + k ≤ s.size) : (List.range k).foldl (fun q j => stepP q (byteAt (s.extract i (i + k)) j)) (posAt (byteAt s) i) = posAt (byteAt s) (i + k) := by
  have : ∀ m, m ≤ k → (List.range m).foldl (fun q j => stepP q (byteAt (s.extract i (i + k)) j)) (posAt (byteAt s) i) = posAt (byteAt s) (i + m) := by
    intro m
    induction m with
    | zero => intro _; rfl
    | succ m ih =>
      intro hm
      rw [List.range_succ, List.foldl_append, ih (by omega)]
      show stepP _ _ = posAt _ (i + m + 1)
      rw [posAt, ext_byte s i (i + k) m h (by omega)]
  exact this k (Nat.le_refl _)
end Go.Proofs.YtneiajkcikcnnaaDoor
/- What lex's first and check say of the rest of a text, in the words of LexMath. -/
namespace Go.Proofs.YtneiajkcikcnnaaDoor
open Go.RowKit
open Lx

/-- lex's own size of the token at i: nought where no token begins. -/
def tokSize (f : Nat → Nat) (n i : Nat) : Nat :=
  if letB (f i) = true then stop wrdB f n i - i else if digB (f i) = true then stop digB f n i - i else if bigB (f i) = true then 1
  else if 2 ≤ n - i ∧ twoB (f i) (f (i + 1)) = true then 2 else if sgnB (f i) = true then 1 else 0
theorem firstSize_ext (s : ByteArray) (i : Nat) (hi : i < s.size) : firstSize (s.extract i s.size) = tokSize (byteAt s) s.size i := by
  have e0 := ext_byte s i s.size 0 (Nat.le_refl _) (by omega)
  have hz := ext_size s i s.size (by omega) (Nat.le_refl _)
  have h1 := stop_ext wrdB s i (by omega)
  have h2 := stop_ext digB s i (by omega)
  unfold firstSize tokSize sgnSize
  rw [e0, Nat.add_zero]
  by_cases c1 : letB (byteAt s i) = true
  · rw [if_pos c1, if_pos c1]; omega
  · rw [if_neg c1, if_neg c1]
    by_cases c2 : digB (byteAt s i) = true
    · rw [if_pos c2, if_pos c2]; omega
    · rw [if_neg c2, if_neg c2]
      by_cases c3 : bigB (byteAt s i) = true
      · rw [if_pos c3, if_pos c3]
      · rw [if_neg c3, if_neg c3, hz]
        by_cases c4 : 2 ≤ s.size - i
        · rw [ext_byte s i s.size 1 (Nat.le_refl _) (by omega)]
        · have c5 : ∀ P : Prop, ¬ (2 ≤ s.size - i ∧ P) := fun P h => c4 h.1
          rw [if_neg (c5 _), if_neg (c5 _)]
theorem two_sgn {x y : Nat} (h : twoB x y = true) : sgnB x = true := by
  rcases two_cases h with ⟨rfl, _⟩ | ⟨rfl, _⟩ | ⟨rfl, _⟩ | ⟨rfl, _⟩ | ⟨rfl, _⟩ | ⟨rfl, _⟩ <;> rfl
theorem tokSize_le (f : Nat → Nat) {n i : Nat} (hi : i < n) : i + tokSize f n i ≤ n := by
  have h1 := stop_ge wrdB f (n := n) (i := i) (by omega)
  have h2 := stop_ge digB f (n := n) (i := i) (by omega)
  unfold tokSize
  split
  · omega
  · split
    · omega
    · split
      · omega
      · split
        · omega
        · split <;> omega
theorem tokErr_size (f : Nat → Nat) {n i : Nat} (hi : i < n) : (tokSize f n i = 0 ↔ tokErr f n i = 100) ∧ (tokErr f n i ≠ 100 → i + tokSize f n i = tokEnd f n i) := by
  have h1 := stop_ge wrdB f (n := n) (i := i + 1) (by omega)
  have h2 := stop_ge digB f (n := n) (i := i + 1) (by omega)
  unfold tokSize tokErr tokEnd
  by_cases c1 : letB (f i) = true
  · have e := stop_step wrdB f hi
    rw [if_pos (by unfold wrdB; rw [c1]; rfl)] at e
    simp only [c1, if_true]
    rw [e]
    refine ⟨⟨by omega, ?_⟩, by omega⟩
    split <;> omega
  · simp only [show letB (f i) = false by simpa using c1, Bool.false_eq_true, if_false]
    by_cases c2 : digB (f i) = true
    · have e := stop_step digB f hi
      rw [if_pos c2] at e
      simp only [c2, if_true]
      rw [e]
      refine ⟨⟨by omega, ?_⟩, by omega⟩
      split
      · omega
      · split <;> omega
    · simp only [show digB (f i) = false by simpa using c2, Bool.false_eq_true, if_false]
      by_cases c3 : bigB (f i) = true
      · simp [c3]
      · simp only [show bigB (f i) = false by simpa using c3, Bool.false_eq_true, if_false]
        by_cases c4 : 2 ≤ n - i ∧ twoB (f i) (f (i + 1)) = true
        · have c5 := two_sgn c4.2
          have c6 : i + 1 < n ∧ twoB (f i) (f (i + 1)) = true := ⟨by omega, c4.2⟩
          rw [if_pos c4, if_pos c6]
          simp [c5]
        · have c6 : ¬ (i + 1 < n ∧ twoB (f i) (f (i + 1)) = true) := fun h => c4 ⟨by omega, h.2⟩
          rw [if_neg c4, if_neg c6]
          by_cases c5 : sgnB (f i) = true
          · simp [c5]
          · simp [show sgnB (f i) = false by simpa using c5]
/-- check of the token's text. -/
theorem chk_ext (s : ByteArray) (i : Nat) (hi : i < s.size) : chk (tokKind (byteAt s i)) ((s.extract i s.size).extract 0 (tokSize (byteAt s) s.size i)) = tokErr (byteAt s) s.size i := by
  have hle := tokSize_le (byteAt s) hi
  have hz0 := ext_size s i s.size (by omega) (Nat.le_refl _)
  have hz : ((s.extract i s.size).extract 0 (tokSize (byteAt s) s.size i)).size = tokSize (byteAt s) s.size i := by
    rw [ext_size _ 0 _ (Nat.zero_le _) (by omega)]; rfl
  have hb : 0 < tokSize (byteAt s) s.size i → byteAt ((s.extract i s.size).extract 0 (tokSize (byteAt s) s.size i)) 0 = byteAt s i := by
    intro h
    rw [ext_byte _ 0 _ 0 (by omega) (by omega), ext_byte s i s.size 0 (Nat.le_refl _) (by omega)]
    rfl
  have he := tokErr_size (byteAt s) hi
  unfold chk
  rw [hz]
  by_cases h0 : tokSize (byteAt s) s.size i = 0
  · rw [if_pos h0, he.1.1 h0]
  · rw [if_neg h0, hb (by omega)]
    have hne : tokErr (byteAt s) s.size i ≠ 100 := fun h => h0 (he.1.2 h)
    revert hne
    generalize hts : tokSize (byteAt s) s.size i = z at *
    unfold tokSize at hts
    unfold tokErr tokKind
    by_cases c1 : letB (byteAt s i) = true
    · rw [if_pos c1] at hts
      simp [c1, hts]
    · simp only [show letB (byteAt s i) = false by simpa using c1, Bool.false_eq_true, if_false] at hts ⊢
      by_cases c2 : digB (byteAt s i) = true
      · rw [if_pos c2] at hts
        simp [c2, hts]
      · simp only [show digB (byteAt s i) = false by simpa using c2, Bool.false_eq_true, if_false]
        by_cases c3 : bigB (byteAt s i) = true
        · simp [c3]
        · simp only [show bigB (byteAt s i) = false by simpa using c3, Bool.false_eq_true, if_false]
          by_cases c5 : sgnB (byteAt s i) = true
          · simp [c5]
          · simp [show sgnB (byteAt s i) = false by simpa using c5]
end Go.Proofs.YtneiajkcikcnnaaDoor
