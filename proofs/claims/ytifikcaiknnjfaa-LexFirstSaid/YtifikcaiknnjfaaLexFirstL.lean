/- 'LexFirst', walked. -/
import Derived.Test.YtifikcaiknnjfaaLexLaw
namespace Go.Proofs.Ytifikcaiknnjfaa
open Go.RowKit
open Lx

theorem byteAt_app (s t : ByteArray) (j : Nat) (h : j < s.size) : byteAt (s ++ t) j = byteAt s j := by
  rw [byteAt_bts, byteAt_bts, bts_append]
  have := gL_in [] (bts s) (bts t) j (by rw [bts_len]; exact h)
  simpa using this
set_option maxRecDepth 100000 in
set_option maxHeartbeats 8000000 in
theorem lexFirst_walk (s t : ByteArray) (w0 : World) (hs : s.size ≤ 9223372036854775807) (ht : t.size ≤ 9223372036854775807) : Calls Try.prog 3 #[.string s, .string t] w0 (LexYes w0) := by
  have h0 := lexalive_yes w0
  by_cases h1 : 2000 < s.size
  · have g1 : (2000 : Int) < (s.size : Int) := by omega
    clear h1
    go_enter Try.func3, Try.ntmps3
    go_wp2_with fail
    refine h0.mono ?_
    rintro e w1 ⟨rfl, b1⟩
    have B1 := hide b1
    clear h0 b1
    go_wp2_with fail
    go_ret
    exact ⟨rfl, B1.out⟩
  · have g1 : ¬ (2000 : Int) < (s.size : Int) := by omega
    by_cases h2 : 2000 < t.size
    · have g2 : (2000 : Int) < (t.size : Int) := by omega
      clear h1 h2
      go_enter Try.func3, Try.ntmps3
      go_wp2_with fail
      refine h0.mono ?_
      rintro e w1 ⟨rfl, b1⟩
      have B1 := hide b1
      clear h0 b1
      go_wp2_with fail
      go_ret
      exact ⟨rfl, B1.out⟩
    · have g2 : ¬ (2000 : Int) < (t.size : Int) := by omega
      have H1 := hide (fun W => all_any s W hs)
      by_cases hc : (lexAll (byteAt s) s.size).code = 100
      · have hz : (s ++ t).size = s.size + t.size := ByteArray.size_append
        have hf := lexAll_first (f := byteAt s) (g := byteAt (s ++ t)) (n := s.size) (n' := (s ++ t).size) (by omega) (by omega) (fun j hj => byteAt_app s t j hj) hc
        have h3 := fun W => all_any (s ++ t) W (by omega)
        unfold AllPost at h3
        have hp : resPos (s ++ t) (lexAll (byteAt (s ++ t)) (s ++ t).size) = resPos s (lexAll (byteAt s) s.size) := by
          unfold resPos
          rw [if_neg (by rw [hf.1]; decide), if_neg (by rw [hc]; decide), hf.2.1]
          exact posAt_agree (n := s.size) (fun j hj => byteAt_app s t j hj) _ (Nat.le_of_lt hf.2.2)
        rw [hp, hf.1] at h3
        have H2 := hide h3
        unfold AllPost at H1
        rw [hc] at H1
        generalize resPos s (lexAll (byteAt s) s.size) = p at *
        have hsz : s.size + t.size ≤ 9223372036854775807 := by omega
        clear hc hf h3 hp h1 h2 hz hs ht
        go_enter Try.func3, Try.ntmps3
        go_wp2_with fail
        refine h0.mono ?_
        rintro e w1 ⟨rfl, b1⟩
        have B1 := hide b1
        clear h0 b1
        go_wp2_with fail
        refine (H1.out _).mono ?_
        rintro e w2 ⟨v, rfl, b2, l2⟩
        have A2 := bl_alloc w2 (.cells #[.int .i64 (p.1 : Nat), .int .i64 (p.2 : Nat)] 25)
        have B2 := hide ((B1.out.next b2).next A2)
        have X2 := hide (show PBox (w2.alloc (.cells #[.int .i64 (p.1 : Nat), .int .i64 (p.2 : Nat)] 25)) w2.heap.size (.int .i64 (p.1 : Nat)) (.int .i64 (p.2 : Nat)) from heap_alloc_new w2 _)
        clear b2 l2 A2 B1 H1
        go_wp2_with fail
        refine (H2.out _).mono ?_
        rintro e w3 ⟨v3, rfl, b3, l3⟩
        have A4 := bl_alloc w3 (.cells #[.int .i64 (p.1 : Nat), .int .i64 (p.2 : Nat)] 25)
        have B3 := hide ((B2.out.next b3).next A4)
        have X3 := hide ((X2.out.next b3).next A4)
        have u0 := X3.out.cells.1
        have u1 := X3.out.cells.2
        clear b3 l3 A4 B2 X2 H2 X3
        go_wp2_with fail
        go_ret
        exact ⟨rfl, B3.out⟩
      · unfold AllPost at H1
        have bc : (((lexAll (byteAt s) s.size).code : Int) != 100) = true := by simp; omega
        generalize resPos s (lexAll (byteAt s) s.size) = p at *
        generalize (lexAll (byteAt s) s.size).code = cd at *
        clear hc h1 h2 hs ht
        go_enter Try.func3, Try.ntmps3
        go_wp2_with fail
        refine h0.mono ?_
        rintro e w1 ⟨rfl, b1⟩
        have B1 := hide b1
        clear h0 b1
        go_wp2_with fail
        refine (H1.out _).mono ?_
        rintro e w2 ⟨v, rfl, b2, l2⟩
        have B2 := hide ((B1.out.next b2).next (bl_alloc w2 (.cells #[.int .i64 (p.1 : Nat), .int .i64 (p.2 : Nat)] 25)))
        clear b2 l2 B1 H1
        go_wp2_with fail
        go_ret
        exact ⟨rfl, B2.out⟩
end Go.Proofs.Ytifikcaiknnjfaa
