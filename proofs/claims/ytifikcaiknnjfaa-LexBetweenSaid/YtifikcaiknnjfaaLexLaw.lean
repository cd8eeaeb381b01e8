/- 'LexAll', walked. -/
import Derived.Test.YtifikcaiknnjfaaLexAlive
namespace Go.Proofs.Ytifikcaiknnjfaa
open Go.RowKit
open Lx

theorem toks_len (f : Nat → Nat) (n : Nat) : (lexAll f n).toks.length ≤ 16385 := by
  by_cases h : (lexAll f n).code = 0
  · obtain ⟨hn, ts, h1, -, h3⟩ := lexAll_toks h
    have := h3.lens ts 0 (Nat.zero_le _)
    rw [h1, List.length_append, List.length_cons, List.length_nil]
    omega
  · rw [lexAll_fail h]; exact Nat.zero_le _
set_option maxRecDepth 100000 in
set_option maxHeartbeats 8000000 in
theorem lexAll_walk (s : ByteArray) (w0 : World) (hs : s.size ≤ 9223372036854775807) : Calls Try.prog 8 #[.string s] w0 (LexYes w0) := by
  have h0 := lexalive_yes w0
  have H1 := hide (fun W => all_any s W hs)
  have H2 := hide (fun W => rall_any s W hs)
  have hlen := toks_len (byteAt s) s.size
  unfold AllPost at H1
  unfold RAllPost at H2
  generalize resPos s (lexAll (byteAt s) s.size) = p at *
  generalize lexAll (byteAt s) s.size = R at *
  generalize hT : R.toks.map (tk s) = T at *
  have hTl : R.toks.length = T.length := by rw [← hT, List.length_map]
  rw [hTl] at H1 H2 hlen
  generalize R.code = cd at *
  clear hT hTl
  go_enter Try.func8, Try.ntmps8
  go_wp2_with fail
  refine h0.mono ?_
  rintro e w1 ⟨rfl, b1⟩
  have B1 := hide b1
  clear h0 b1
  go_wp2_with fail
  refine (H1.out _).mono ?_
  rintro e w2 ⟨v, rfl, b2, l2⟩
  obtain ⟨A, c, rfl, hc1, hc2, k2⟩ := l2.kin
  have A2 := bl_alloc w2 (.cells #[.int .i64 (p.1 : Nat), .int .i64 (p.2 : Nat)] 25)
  have B2 := hide ((B1.out.next b2).next A2)
  have K2 := hide (k2.below A2)
  have X2 := hide (show PBox (w2.alloc (.cells #[.int .i64 (p.1 : Nat), .int .i64 (p.2 : Nat)] 25)) w2.heap.size (.int .i64 (p.1 : Nat)) (.int .i64 (p.2 : Nat)) from heap_alloc_new w2 _)
  clear b2 l2 k2 A2 B1
  go_wp2_with fail
  refine (H2.out _).mono ?_
  rintro e w3 ⟨v3, rfl, b3, l3⟩
  obtain ⟨A3, c3, rfl, hc3, hc4, k3⟩ := l3.kin
  have A4 := bl_alloc w3 (.cells #[.int .i64 (p.1 : Nat), .int .i64 (p.2 : Nat)] 25)
  have B3 := hide ((B2.out.next b3).next A4)
  have K3 := hide ((K2.out.below b3).below A4)
  have K4 := hide (k3.below A4)
  have X3 := hide ((X2.out.next b3).next A4)
  have Y3 := hide (show PBox (w3.alloc (.cells #[.int .i64 (p.1 : Nat), .int .i64 (p.2 : Nat)] 25)) w3.heap.size (.int .i64 (p.1 : Nat)) (.int .i64 (p.2 : Nat)) from heap_alloc_new w3 _)
  have hsm := lexsame_yes A A3 T.length c c3 T _ K3.out K4.out (by omega)
  have u0 := X3.out.cells.1
  have u1 := X3.out.cells.2
  clear b3 l3 k3 A4 B2 K2 X2 H1 H2 hlen hs
  go_wp2_with fail
  refine hsm.mono ?_
  rintro e w4 ⟨rfl, b4⟩
  have B4 := hide (B3.out.next b4)
  clear hsm b4 u0 u1
  go_wp2_with fail
  go_ret
  exact ⟨rfl, B4.out⟩
end Go.Proofs.Ytifikcaiknnjfaa
