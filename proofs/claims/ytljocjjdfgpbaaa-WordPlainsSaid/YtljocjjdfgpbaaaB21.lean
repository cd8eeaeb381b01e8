/- Texts of one seat, put together: WordY. -/
import Derived.Test.YtljocjjdfgpbaaaB20
set_option linter.unusedVariables false
/- word.copies. -/
namespace Go.Proofs.Ytljocjjdfgpbaaa
open Go.RowKit
open Wo

def FromB (N b : Nat) : Prop := N ≤ b
def CopyPost (L : List (List Bool)) (w : World) (e : Ending) (w' : World) : Prop := ∃ A c vs, e = .returned (.slice A L.length c) ∧ LRep (FromB w.heap.size) w' L vs ∧ LRow 47 1 w' w.heap.size (.slice A L.length c) L.length vs ∧ Below w.heap.size w w'
/-- The list so far. -/
def Cp (w0 : World) (v : Value) (R : List (List Bool)) (w : World) : Prop := ∃ vs, LRow 47 1 w w0.heap.size v R.length vs ∧ LRep (NotOwn (FromB w0.heap.size) v) w R vs ∧ Below w0.heap.size w0 w
theorem flat_take {LS : List (List (List Bool))} {q : Nat} {L : List (List Bool)} (h : LS[q]? = some L) : (LS.take (q + 1)).flatten = (LS.take q).flatten ++ L := by
  rw [List.take_add_one, h]; simp
theorem flat_le (LS : List (List (List Bool))) (q : Nat) : (LS.take q).flatten.length ≤ LS.flatten.length := by
  have : LS.flatten = (LS.take q).flatten ++ (LS.drop q).flatten := by rw [← List.flatten_append, List.take_append_drop]
  rw [this, List.length_append]; omega
set_option maxRecDepth 100000 in
set_option maxHeartbeats 8000000 in
theorem copies_any (S : Nat → Prop) (gs m cs : Nat) (LS : List (List (List Bool))) (w0 : World) (hm : LS.length = m) (hm9 : m ≤ 1000) (hcells : ∀ (i : Nat) (L : List (List Bool)), LS[i]? = some L → ∃ A c, w0.cell? ⟨gs, i, none⟩ = some (.slice A L.length c) ∧ LsIn S w0 A L.length L)
    (hlet : ∀ L ∈ LS, ∀ l ∈ L, l.length ≤ 1000000) (hsum : LS.flatten.length ≤ 500000) : Calls Try.prog 29 #[.slice (some ⟨gs, 0, none⟩) m cs] w0 (CopyPost LS.flatten w0) := by
  have HC := hide hcells
  have HLL := hide hlet
  have HLS := hide hm
  have HSUM := hide (fun q => Nat.le_trans (flat_le LS q) hsum)
  have H0 := hide (show Cp w0 (.slice none 0 0) (LS.take 0).flatten w0 from ⟨[], LRow.nil _ _ _ _, LRep.nil _ _, Below.refl _ _⟩)
  clear hcells hm hsum hlet
  go_enter Try.func29, Try.ntmps29
  go_wp2_with fail
  go_loopw [10, 3] (fun i v wr => ∃ q : Nat, q ≤ m ∧ i = .int .i64 q ∧ Hid (Cp w0 v (LS.take q).flatten wr)) (fun i _ _ => m - (intOf i).toNat)
  case atStart => exact ⟨0, Nat.zero_le _, rfl, H0⟩
  case round =>
    obtain ⟨q, hq, rfl, HR⟩ := hrel
    by_cases hqm : q < m
    · obtain ⟨L, hL⟩ : ∃ L, LS[q]? = some L := ⟨LS[q]'(by rw [HLS.out]; exact hqm), List.getElem?_eq_getElem _⟩
      obtain ⟨A, c, hcell, hls⟩ := HC.out q L hL
      have hlt := World.block_lt_of_cell? w0 _ hcell
      obtain ⟨vs0, -, -, hbq⟩ := HR.out
      have c0 := (below_cell hbq hlt).trans hcell
      have HL := hide hls
      have HLM := hide (fun l hl => HLL.out L (List.mem_of_getElem? hL) l hl)
      have HFT := hide (flat_take hL)
      have HS := hide (show Cp w0 u3 ((LS.take q).flatten ++ L.take 0) wr from by rw [List.take_zero, List.append_nil]; exact HR.out)
      have HSQ := hide (HSUM.out (q + 1))
      rw [HFT.out, List.length_append] at HSQ
      generalize (LS.take q).flatten = P at *
      obtain ⟨n, hn⟩ : ∃ n, n = L.length := ⟨_, rfl⟩
      rw [← hn] at c0 HL HSQ
      have HN := hide hn.symm
      have hn9 : n ≤ 500000 := by have := HSQ.out; omega
      clear hcell hls hL hbq HR hn
      go_wp2_with fail
      go_loopw [16, 3] (fun i v wr => ∃ j : Nat, j ≤ n ∧ i = .int .i64 j ∧ Hid (Cp w0 v (P ++ L.take j) wr)) (fun i _ _ => n - (intOf i).toNat)
      case atStart => exact ⟨0, Nat.zero_le _, rfl, HS⟩
      case round =>
        obtain ⟨j, hj, rfl, HR2⟩ := hrel
        obtain ⟨vs, hrow, hrep, hbq⟩ := HR2.out
        by_cases hjn : j < n
        · obtain ⟨bb, oo, A1, c1, l, rfl, hlt2, hl, d0, h1, h2, hbl⟩ := HL.out.at_ hjn
          have hlen := HLM.out l (List.mem_of_getElem? hl)
          have d0 := (below_cell hbq hlt2).trans d0
          have HTK := hide (show P ++ L.take (j + 1) = (P ++ L.take j) ++ [l] from by rw [List.take_add_one, hl, List.append_assoc]; rfl)
          have HBL := hide (hbl.keep (Keep.of_below hbq))
          have hpl : (P ++ L.take j).length ≤ 1000000 := by rw [List.length_append, List.length_take]; have := HSQ.out; omega
          have HOWN := hide (fun k hk => (hrow.lt k hk))
          have HROW := hide hrow
          have HREP := hide hrep
          have HBQ := hide hbq
          clear hl hbl hrow hrep hbq h1 h2 HR2
          go_wp2_with (at_builtin; first
            | (refine wpList_append_bools rfl _ _ rfl rfl A1 l.length c1 S l rfl HBL.out hlen ?_
               intro A2 c2 w2 hb2 hc1 hc2 hbw
               have X8 := Box.new 47 w2 #[.slice A2 l.length c2]
               have hb3 := hbw.next (bl_alloc w2 (.cells #[.slice A2 l.length c2] 47))
               have ROW := hide (HROW.out.below hb3)
               have REP := hide (HREP.out.keep (Keep.of_below hb3))
               have BL := hide ((hb2.keep (Keep.of_below (bl_alloc w2 (.cells #[.slice A2 l.length c2] 47)))).sub (fun b _ hb => (⟨Nat.le_trans HBQ.out.size hb, fun e => by have := (HOWN.out b e.symm).2; omega⟩ : NotOwn (FromB w0.heap.size) u3 b)))
               have HB8 := hide (HBQ.out.next hb3)
               have HX8 := hide X8
               have hsz8 := HB8.out.size
               clear hb2 hbw hb3 X8)
            | (refine wpList_append_l1 rfl _ _ rfl w0.heap.size u3 (P ++ L.take j) vs rfl ROW.out REP.out w2.heap.size A2 c2 l rfl HX8.out BL.out hc1 hc2 hpl hsz8 ?_
               intro v' w9 us r1 r2 g9))
          have HCP := hide (show Cp w0 v' (P ++ L.take (j + 1)) w9 from by
            rw [HTK.out]
            exact ⟨us, r1, r2, ROW.out.old HB8.out g9 (Nat.le_refl _) (Nat.le_refl _)⟩)
          clear r1 r2 g9 ROW REP BL HX8 HROW HREP HBQ HB8
          go_wp2_with fail
          go_roundw
          case rel => exact ⟨j + 1, by omega, by go_num, HCP⟩
          case measure => simp [intOf]; omega
        · obtain rfl : j = n := by omega
          have HCP := hide (show Cp w0 u3 (LS.take (q + 1)).flatten wr from by
            rw [HFT.out]
            have := HR2.out
            rwa [List.take_of_length_le (by rw [HN.out]; exact Nat.le_refl _)] at this)
          clear hrow hrep hbq HR2
          go_wp2_with fail
          go_roundw
          case rel => exact ⟨q + 1, by omega, by go_num, HCP⟩
          case measure => simp [intOf]; omega
    · obtain rfl : q = m := by omega
      obtain ⟨vs, hr, hp, hb⟩ := HR.out
      rw [List.take_of_length_le (by rw [HLS.out]; exact Nat.le_refl _)] at hr hp
      obtain ⟨A, c, rfl, h1, h2, -⟩ := hr.len
      have HP := hide (show CopyPost LS.flatten w0 (.returned (.slice A LS.flatten.length c)) wr from ⟨A, c, vs, rfl, hp.sub (fun b _ h => h.1), hr, hb⟩)
      clear hr hp hb HR
      go_wp2_with fail
      go_ret
      exact HP.out
end Go.Proofs.Ytljocjjdfgpbaaa
