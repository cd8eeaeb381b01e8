/- lex.Spell. -/
import Derived.Test.YtifikcaiknnjfaaLexSpell
import Derived.Test.YtifikcaiknnjfaaLexV
namespace Go.Proofs.Ytifikcaiknnjfaa
open Go.RowKit
open Lx

set_option maxRecDepth 100000 in
set_option maxHeartbeats 4000000 in
theorem spell_any (A : Option Addr) (n c : Nat) (ts : List TK) (w0 : World) (ha : KIn w0 A n ts) (hn : n ≤ 1099511627) (hz : sizesB (ts.map (·.text)) + n ≤ 140737488355328) :
    Calls Try.prog 11 #[.slice A n c] w0 (fun e w' => e = .returned (.string (spellB (ts.map (·.text)))) ∧ Below w0.heap.size w0 w') := by
  have HA := hide ha
  have HN := hide ha.1
  have HS := hide (Below.refl w0.heap.size w0)
  have HJ : Hid (∀ v w, LRow 9 1 w w0.heap.size v (ts.map (·.text)).length (strV (ts.map (·.text))) → Calls Try.prog 26 #[v, .string ⟨#[32]⟩] w (fun e w' => e = .returned (.string (spellB (ts.map (·.text)))) ∧ Below w.heap.size w w')) :=
    hide (fun v w h => join_any (ts.map (·.text)) w0.heap.size v w h (by rw [List.length_map, ha.1]; exact hz))
  generalize spellB (ts.map (·.text)) = sp at *
  clear ha hz
  go_enter Try.func11, Try.ntmps11
  go_wp2_with fail
  go_loopw [3, 8] (fun x i wr => ∃ q : Nat, q ≤ n ∧ i = .int .i64 q ∧ Hid (LRow 9 1 wr w0.heap.size x ((ts.take q).map (·.text)).length (strV ((ts.take q).map (·.text)))) ∧ Hid (Below w0.heap.size w0 wr)) (fun _ i _ => n - (intOf i).toNat)
  case atStart => exact ⟨0, Nat.zero_le _, rfl, hide (LRow.nil _ _ _ _), HS⟩
  case round =>
    obtain ⟨q, hq, rfl, HL, HR⟩ := hrel
    obtain ⟨ln, hln⟩ : ∃ ln, ((ts.take q).map (·.text)).length = ln := ⟨_, rfl⟩
    have HLN := hide hln
    rw [hln] at HL
    clear hln
    obtain ⟨xA, xC, rfl, -, -, -⟩ := HL.out.len
    by_cases hqn : q < n
    · obtain ⟨ba, oa, t, rfl, hlt, ht, c0, c1, c2, c3⟩ := (HA.out.below HR.out).at_ hqn
      have htk : (ts.take (q + 1)).map (·.text) = (ts.take q).map (·.text) ++ [t.text] := by rw [List.take_add_one, ht]; simp
      have HTK := hide htk
      have hr := HR.out.size
      have B1 := bl_alloc wr (.cells #[.int .i64 (t.kind : Nat), .string t.text, .int .i64 (t.line : Nat), .int .i64 (t.col : Nat)] 33)
      have B2 := bl_alloc (wr.alloc (.cells #[.int .i64 (t.kind : Nat), .string t.text, .int .i64 (t.line : Nat), .int .i64 (t.col : Nat)] 33)) (.cells #[.string t.text] 9)
      have L2 := hide ((HL.out.below B1).below B2)
      have R2 := hide ((HR.out.next B1).next B2)
      have xT : ((wr.alloc (.cells #[.int .i64 (t.kind : Nat), .string t.text, .int .i64 (t.line : Nat), .int .i64 (t.col : Nat)] 33)).alloc (.cells #[.string t.text] 9)).heap[wr.heap.size + 1]? = some (.cells #[.string t.text] 9 (0, 0)) := by
        have := heap_alloc_new (wr.alloc (.cells #[.int .i64 (t.kind : Nat), .string t.text, .int .i64 (t.line : Nat), .int .i64 (t.col : Nat)] 33)) (.cells #[.string t.text] 9)
        rwa [size_alloc'] at this
      have XT := hide xT
      have hql : ((ts.take q).map (·.text)).length < 1099511627776 := by rw [List.length_map, List.length_take]; omega
      clear ht htk xT B1 B2
      go_wp2_with (at_builtin; refine wpList_append_str rfl _ _ rfl w0.heap.size _ ((ts.take q).map (·.text)) rfl (by rw [HLN.out]; exact L2.out) (wr.heap.size + 1) t.text rfl XT.out (by omega) (by rw [size_alloc', size_alloc']; omega) ?_; intro v' w4 l4 g4)
      have R4 := hide (L2.out.old R2.out g4 (Nat.le_refl _) (Nat.le_refl _))
      rw [← HTK.out] at l4
      have L4 := hide l4
      clear l4 g4
      go_roundw
      case rel => exact ⟨q + 1, by omega, by go_num, L4, R4⟩
      case measure => simp [intOf]; omega
    · obtain rfl : q = n := by omega
      have hall : ts.take q = ts := List.take_of_length_le (by rw [HN.out]; exact Nat.le_refl _)
      have hlx : ln = (ts.map (·.text)).length := by rw [← HLN.out, hall]
      have hl : LRow 9 1 wr w0.heap.size (.slice xA ln xC) (ts.map (·.text)).length (strV (ts.map (·.text))) := by
        have := HL.out
        rw [hall] at this
        rw [← hlx]; exact this
      have hj := HJ.out _ _ hl
      clear hlx
      clear hl hall
      go_wp2_with fail
      refine hj.mono ?_
      rintro e w5 ⟨rfl, b5⟩
      have R5 := hide (HR.out.next b5)
      clear b5
      go_wp2_with fail
      go_ret
      exact ⟨rfl, R5.out⟩
end Go.Proofs.Ytifikcaiknnjfaa
