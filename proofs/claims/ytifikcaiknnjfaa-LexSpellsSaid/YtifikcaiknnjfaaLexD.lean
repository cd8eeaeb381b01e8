/- strings.IndexByte on the two constant texts; lex: check. -/
import Derived.Test.YtifikcaiknnjfaaLexC
import Derived.Laws.Externs
namespace Go.Proofs.Ytifikcaiknnjfaa
open Go.RowKit
open Lx

theorem ix_ext (s : ByteArray) (c : Nat) (hc : c < 256) (W : World) : (callFunc 42 #[.string s, .int .u8 (c : Int)]).run Try.prog W = .ok (.value (.int .i64 (firstIdx s c.toUInt8))) W := by
  refine (run_callFunc_extern (e := Extern.BytealgIndexByte.indexByte) Try.func42 (by kernel_rfl) (by kernel_rfl) (by kernel_rfl) (by kernel_rfl) _ W).trans ?_
  rw [run_indexByte_string]
  rfl
set_option maxHeartbeats 1000000 in
theorem ix_lite (s : ByteArray) (c : Nat) (hc : c < 256) (w : World) : Calls Try.prog 39 #[.string s, .int .u8 (c : Int)] w (Draws (.int .i64 (firstIdx s c.toUInt8)) w) := by
  have hx := ix_ext s c hc
  go_enter Try.func39, Try.ntmps39
  go_wp2_with fail
  go_ret
  exact ⟨rfl, 0, rfl⟩
set_option maxHeartbeats 1000000 in
theorem ix_any (s : ByteArray) (c : Nat) (hc : c < 256) (w : World) : Calls Try.prog 34 #[.string s, .int .u8 (c : Int)] w (Draws (.int .i64 (firstIdx s c.toUInt8)) w) := by
  have hx := fun W => ix_lite s c hc W
  go_enter Try.func34, Try.ntmps34
  go_wp2_with fail
  refine (hx _).mono ?_
  rintro e w1 ⟨rfl, k, rfl⟩
  go_wp2_with fail
  go_ret
  exact ⟨rfl, k, rfl⟩
def allC (p : Nat → Bool) : Nat → Bool
  | 0 => true
  | n + 1 => p n && allC p n
theorem allC_spec {p : Nat → Bool} {n c : Nat} (h : allC p n = true) (hc : c < n) : p c = true := by
  induction n with
  | zero => omega
  | succ n ih =>
    rw [allC, Bool.and_eq_true] at h
    by_cases he : c = n
    · subst he; exact h.1
    · exact ih h.2 (by omega)
theorem big_ix {c : Nat} (hc : c < 256) : decide (firstIdx ⟨#[88, 71, 70, 85, 82]⟩ c.toUInt8 ≥ 0) = bigB c := by
  have h : allC (fun c => decide (firstIdx ⟨#[88, 71, 70, 85, 82]⟩ c.toUInt8 ≥ 0) == bigB c) 256 = true := by kernel_rfl
  simpa using allC_spec h hc
theorem sgn_ix {c : Nat} (hc : c < 256) : decide (firstIdx ⟨#[40, 41, 44, 59, 58, 46, 43, 42, 38, 124, 33, 64, 61, 60, 62, 47, 45]⟩ c.toUInt8 ≥ 0) = sgnB c := by
  have h : allC (fun c => decide (firstIdx ⟨#[40, 41, 44, 59, 58, 46, 43, 42, 38, 124, 33, 64, 61, 60, 62, 47, 45]⟩ c.toUInt8 ≥ 0) == sgnB c) 256 = true := by kernel_rfl
  simpa using allC_spec h hc
end Go.Proofs.Ytifikcaiknnjfaa
