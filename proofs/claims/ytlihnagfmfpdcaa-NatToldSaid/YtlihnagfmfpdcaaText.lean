/- nat.Text. -/
import Derived.Test.YtlihnagfmfpdcaaBytes
import Derived.Test.YtlihnagfmfpdcaaScale
import Derived.Laws.BytesArg
namespace Go.Proofs.Ytlihnagfmfpdcaa
open Go.RowKit
open Limb (limb limb_lt upto upto_succ upto_all upto_zero)

/-- What stands in the text's row while its last d places hold the lowest d digits of N. -/
def TxRel (gT T N d : Nat) (wr : World) : Prop := ∃ bs : List Nat, bs.length = T ∧ d ≤ T ∧ BRow wr gT bs ∧ bs.drop (T - d) = Dec.low N d
theorem TxRel.step {gT T N d : Nat} {wr : World} (h : TxRel gT T N d wr) (hd : d + 1 ≤ T) : TxRel gT T N (d + 1) (wr.setCell ⟨gT, T - (d + 1), none⟩ (.int .u8 ((48 + N / 10 ^ d % 10 : Nat) : Int))) := by
  obtain ⟨bs, hl, hd0, hr, hv⟩ := h
  refine ⟨bs.set (T - (d + 1)) (48 + N / 10 ^ d % 10), by simp [hl], hd, hr.set_ _ _, ?_⟩
  have hlt : T - (d + 1) < (bs.set (T - (d + 1)) (48 + N / 10 ^ d % 10)).length := by simp [hl]; omega
  rw [List.drop_eq_getElem_cons hlt, List.getElem_set_self, Dec.low]
  congr 1
  have e : T - (d + 1) + 1 = T - d := by omega
  rw [e, List.drop_set_of_lt (by omega), hv]
theorem TxRel.cell {gT T N d : Nat} {wr : World} (h : TxRel gT T N d wr) (i : Nat) (hi : i < T) : ∃ b : Nat, wr.cell? ⟨gT, i, none⟩ = some (.int .u8 (b : Int)) ∧ wr.frozen? ⟨gT, i, none⟩ = false := by
  obtain ⟨bs, hl, hd0, hr, hv⟩ := h
  exact ⟨_, hr.cell (by omega), hr.frozen i⟩
theorem TxRel.digit {gT T N d : Nat} {wr : World} (h : TxRel gT T N d wr) (j : Nat) (hj : j < d) : wr.cell? ⟨gT, T - (j + 1), none⟩ = some (.int .u8 ((48 + N / 10 ^ j % 10 : Nat) : Int)) := by
  obtain ⟨bs, hl, hd0, hr, hv⟩ := h
  rw [hr.cell (by omega)]
  have h1 : bs.getD (T - (j + 1)) 0 = (bs.drop (T - d)).getD (d - (j + 1)) 0 := by
    have e : T - d + (d - (j + 1)) = T - (j + 1) := by omega
    simp [List.getD_eq_getElem?_getD, List.getElem?_drop, e]
  rw [h1, hv, Dec.low_get N d _ (by omega)]
  have e2 : d - 1 - (d - (j + 1)) = j := by omega
  rw [e2]
end Go.Proofs.Ytlihnagfmfpdcaa
