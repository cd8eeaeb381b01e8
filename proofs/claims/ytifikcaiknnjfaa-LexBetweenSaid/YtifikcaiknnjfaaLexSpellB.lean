/- plumblineref10.Spell. -/
import Derived.Test.YtifikcaiknnjfaaLexSpell
namespace Go.Proofs.Ytifikcaiknnjfaa
open Go.RowKit
open Lx

set_option maxRecDepth 100000 in
set_option maxHeartbeats 4000000 in
theorem rspell_any (A : Option Addr) (n c : Nat) (ts : List TK) (w0 : World) (ha : KIn w0 A n ts) (hn : n ≤ 1099511627) (hz : sizesB (ts.map (·.text)) + n ≤ 140737488355328) :
    Calls Try.prog 18 #[.slice A n c] w0 (fun e w' => e = .returned (.string (spellB (ts.map (·.text)))) ∧ Below w0.heap.size w0 w') := by
  have HA := hide ha
  have HN := hide ha.1
  have HZ := hide hz
  clear ha hz
  go_enter Try.func18, Try.ntmps18
  go_wp2_with fail
  go_loopw [3, 4] (fun x i wr => ∃ q : Nat, q ≤ n ∧ i = .int .i64 q ∧ x = .string (spellB ((ts.map (·.text)).take q)) ∧ wr = w0) (fun _ i _ => n - (intOf i).toNat)
  case atStart => exact ⟨0, Nat.zero_le _, rfl, rfl, by first | rfl | trivial⟩
  case round =>
    obtain ⟨q, hq, rfl, rfl, rfl⟩ := hrel
    by_cases hqn : q < n
    · obtain ⟨ba, oa, t, rfl, hlt, ht, c0, c1, c2, c3⟩ := HA.out.at_ hqn
      have htq : (ts.map (·.text))[q]? = some t.text := by rw [List.getElem?_map, ht]; rfl
      have hs := spellB_succ (ts.map (·.text)) q t.text htq
      have h1 := spellB_size ((ts.map (·.text)).take q)
      have h2 := sizesB_take (ts.map (·.text)) (q + 1)
      have h3 : sizesB ((ts.map (·.text)).take (q + 1)) = sizesB ((ts.map (·.text)).take q) + t.text.size := by
        rw [List.take_add_one, htq]; simp [sizesB]
      have h4 : ((ts.map (·.text)).take q).length = q := by rw [List.length_take, List.length_map, HN.out]; omega
      have h5 := HZ.out
      have z1 : (spellB ((ts.map (·.text)).take q)).size + 1 ≤ 9223372036854775807 := by omega
      have z2 : (spellB ((ts.map (·.text)).take q)).size + 1 + t.text.size ≤ 9223372036854775807 := by omega
      have z3 : (spellB ((ts.map (·.text)).take q)).size + t.text.size ≤ 9223372036854775807 := by omega
      clear h1 h2 h3 h4 h5 ht htq
      by_cases h0 : q = 0
      · rw [if_pos h0] at hs
        have e0 : spellB ((ts.map (·.text)).take q) = ⟨#[]⟩ := by rw [h0]; rfl
        have HSP := hide hs
        have g0 : ¬ (0 : Int) < (q : Int) := by omega
        clear hs h0
        generalize spellB ((ts.map (·.text)).take q) = sp at *
        have HE0 := hide e0
        clear e0
        go_wp2_with fail
        go_roundw
        case rel => exact ⟨q + 1, by omega, by go_num, by rw [HSP.out, HE0.out]; show Value.string (⟨#[]⟩ ++ t.text) = _; congr 1, by first | rfl | trivial⟩
        case measure => simp [intOf]; omega
      · rw [if_neg h0] at hs
        have HSP := hide hs
        have g0 : (0 : Int) < (q : Int) := by omega
        clear hs h0
        generalize spellB ((ts.map (·.text)).take q) = sp at *
        have z4 : (sp ++ ⟨#[32]⟩).size + t.text.size ≤ 9223372036854775807 := by rw [ByteArray.size_append]; exact z2
        go_wp2_with fail
        go_roundw
        case rel => exact ⟨q + 1, by omega, by go_num, by rw [HSP.out], by first | rfl | trivial⟩
        case measure => simp [intOf]; omega
    · obtain rfl : q = n := by omega
      have hall : (ts.map (·.text)).take q = ts.map (·.text) := List.take_of_length_le (by rw [List.length_map, HN.out]; exact Nat.le_refl _)
      rw [hall]
      clear hall
      go_wp2_with fail
      go_ret
      exact ⟨rfl, Below.refl _ _⟩
end Go.Proofs.Ytifikcaiknnjfaa
