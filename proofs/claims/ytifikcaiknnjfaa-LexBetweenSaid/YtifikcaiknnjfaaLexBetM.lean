/- What 'LexBetween' asks, on plain values. -/
import Derived.Test.YtifikcaiknnjfaaLexSpellsL
namespace Go.Proofs.Ytifikcaiknnjfaa
open Go.RowKit
open Lx

def btw (r : ByteArray) : List ByteArray := [⟨#[32]⟩, ⟨#[9, 9]⟩, ⟨#[10]⟩, (⟨#[32, 35]⟩ ++ r) ++ ⟨#[10]⟩, ⟨#[35, 10, 10, 32]⟩]
def idxB (z : Int) : Nat := (z % 1024 % 5).toNat
def spB (r : ByteArray) (cuts : List Int) (k : Nat) : ByteArray :=
  match cuts[k]? with
  | none => ⟨#[32]⟩
  | some z => (btw r).getD (idxB z) ⟨#[32]⟩
theorem spB_cases (r : ByteArray) (cuts : List Int) (k : Nat) : spB r cuts k = ⟨#[32]⟩ ∨ (k < cuts.length ∧ spB r cuts k ∈ btw r) := by
  unfold spB
  cases h : cuts[k]? with
  | none => exact Or.inl rfl
  | some z =>
    have hk : k < cuts.length := (List.getElem?_eq_some_iff.1 h).1
    dsimp only
    rw [List.getD_eq_getElem?_getD]
    cases h2 : (btw r)[idxB z]? with
    | none => exact Or.inl rfl
    | some b => exact Or.inr ⟨hk, List.mem_of_getElem? h2⟩
theorem rem_bts (r : ByteArray) : bts ((⟨#[32, 35]⟩ ++ r) ++ ⟨#[10]⟩) = 32 :: 35 :: (bts r ++ [10]) := by
  rw [bts_append, bts_append]
  simp [bts]
theorem btw_pass {r : ByteArray} (hr : ∀ c ∈ bts r, c ≠ 10) {b : ByteArray} (h : b ∈ btw r) : pass (bts b) false = true ∧ bts b ≠ [] := by
  unfold btw at h
  simp only [List.mem_cons, List.not_mem_nil, or_false] at h
  rcases h with rfl | rfl | rfl | rfl | rfl
  · exact ⟨by decide +kernel, by decide +kernel⟩
  · exact ⟨by decide +kernel, by decide +kernel⟩
  · exact ⟨by decide +kernel, by decide +kernel⟩
  · rw [rem_bts]
    refine ⟨?_, List.cons_ne_nil _ _⟩
    rw [pass, if_neg (by decide), if_neg (by decide), if_neg (by decide), pass, if_neg (by decide), if_pos rfl, pass_remark _ [] hr]
    rfl
  · exact ⟨by decide +kernel, by decide +kernel⟩
theorem btw_size {r : ByteArray} (hr : r.size ≤ 50) {b : ByteArray} (h : b ∈ btw r) : (bts b).length ≤ 60 := by
  unfold btw at h
  simp only [List.mem_cons, List.not_mem_nil, or_false] at h
  rcases h with rfl | rfl | rfl | rfl | rfl
  · exact (by decide +kernel : (bts ⟨#[32]⟩).length ≤ 60)
  · exact (by decide +kernel : (bts ⟨#[9, 9]⟩).length ≤ 60)
  · exact (by decide +kernel : (bts ⟨#[10]⟩).length ≤ 60)
  · rw [rem_bts]
    simp only [List.length_cons, List.length_append, List.length_nil, bts_len]
    omega
  · exact (by decide +kernel : (bts ⟨#[35, 10, 10, 32]⟩).length ≤ 60)
/-- What has been put together of the first k tokens. -/
def mixB (sp : Nat → ByteArray) (T : List TK) : Nat → ByteArray
  | 0 => ⟨#[]⟩
  | k + 1 => (mixB sp T k ++ sp k) ++ ((T[k]?).map (·.text)).getD ⟨#[]⟩
theorem mixB_mono (sp : Nat → ByteArray) (T : List TK) (q d : Nat) : (mixB sp T q).size ≤ (mixB sp T (q + d)).size := by
  induction d with
  | zero => exact Nat.le_refl _
  | succ d ih =>
    show _ ≤ (mixB sp T (q + d + 1)).size
    rw [mixB, ByteArray.size_append, ByteArray.size_append]
    omega
theorem mixB_bts (sp : Nat → ByteArray) (s : ByteArray) (L : List Tok) (hL : ∀ t ∈ L, t.2.1 ≤ t.2.2 ∧ t.2.2 ≤ s.size) (q : Nat) (hq : q ≤ L.length) : bts (mixB sp (L.map (tk s)) q) = partsL (byteAt s) (layB (fun k => bts (sp k)) 0 (L.take q)) := by
  induction q with
  | zero => rfl
  | succ q ih =>
    have hlt : q < L.length := by omega
    have hu := hL L[q] (List.getElem_mem hlt)
    rw [mixB, bts_append, bts_append, ih (by omega), List.take_add_one, List.getElem?_eq_getElem hlt, Option.toList_some, layB_snoc, List.getElem?_map, List.getElem?_eq_getElem hlt, List.length_take]
    have hm : min q L.length = q := by omega
    rw [hm, Nat.zero_add, List.append_assoc]
    congr 2
    exact bts_extract s L[q].1 L[q].2.1 L[q].2.2 hu.1 hu.2
theorem between_math (s r : ByteArray) (cuts : List Int) (hs : s.size ≤ 2000) (hr : r.size ≤ 50) (hc : cuts.length ≤ 20) (hn : ∀ j, j < r.size → byteAt r j ≠ 10) (hcode : (lexAll (byteAt s) s.size).code = 0) : ∃ (T T' : List TK) (o : ByteArray),
    (lexAll (byteAt s) s.size).toks.map (tk s) = T ∧ (lexAll (byteAt o) o.size).toks.map (tk o) = T' ∧ (lexAll (byteAt o) o.size).code = 0 ∧ mixB (spB r cuts) T T.length = o ∧ T'.map (fun u : TK => (u.kind, u.text)) = T.map (fun u : TK => (u.kind, u.text)) ∧ o.size ≤ 16384 ∧ T.length ≤ 5000 := by
  obtain ⟨-, ts, hts, hg, hasc⟩ := lexAll_toks hcode
  have hl := hasc.lens ts 0 (Nat.zero_le _)
  have hle := good_le hg
  have hfl := full_le hle
  have hrm : ∀ c ∈ bts r, c ≠ 10 := by
    intro c hc
    obtain ⟨j, hj, rfl⟩ := List.mem_iff_getElem.1 hc
    have h2 := hn j (by rw [bts_len] at hj; exact hj)
    rw [byteAt_bts] at h2
    unfold gL at h2
    rwa [List.getD_eq_getElem?_getD, List.getElem?_eq_getElem hj] at h2
  have hsize : ∀ k, ((fun k => bts (spB r cuts k)) k).length ≤ if k < 20 then 60 else 1 := by
    intro k
    rcases spB_cases r cuts k with h | ⟨h1, h2⟩
    · dsimp only; rw [h]; split <;> decide +kernel
    · rw [if_pos (by omega)]; exact btw_size hr h2
  have hpass : ∀ k, pass ((fun k => bts (spB r cuts k)) k) false = true := by
    intro k
    rcases spB_cases r cuts k with h | ⟨h1, h2⟩
    · dsimp only; rw [h]; decide +kernel
    · exact (btw_pass hrm h2).1
  have hne : ∀ k, (fun k => bts (spB r cuts k)) k ≠ [] := by
    intro k
    rcases spB_cases r cuts k with h | ⟨h1, h2⟩
    · dsimp only; rw [h]; decide +kernel
    · exact (btw_pass hrm h2).2
  obtain ⟨o, ho⟩ : ∃ o, mixB (spB r cuts) ((ts ++ [((5, s.size, s.size) : Tok)]).map (tk s)) (ts ++ [((5, s.size, s.size) : Tok)]).length = o := ⟨_, rfl⟩
  have hbo : bts o = partsL (byteAt s) (layB (fun k => bts (spB r cuts k)) 0 ts) ++ (fun k => bts (spB r cuts k)) ts.length := by
    rw [← ho, mixB_bts _ s _ hfl _ (Nat.le_refl _), List.take_length, layB_snoc, textF_end, List.append_nil, Nat.zero_add]
  have hag := between_again hg hasc (by omega) hsize hpass hne
  rw [← hbo, ← byteAt_bts, bts_len] at hag
  obtain ⟨ts', h1, h2, h3⟩ := hag
  have hos : o.size ≤ 16384 := by
    have h4 := layB_len (byteAt s) hsize ts 0
    have h5 := hsize ts.length
    rw [← bts_len, hbo, List.length_append]
    have h6 : ((fun k => bts (spB r cuts k)) ts.length).length ≤ 60 := Nat.le_trans h5 (by split <;> omega)
    omega
  refine ⟨_, _, o, rfl, rfl, by rw [h1], ?_, ?_, hos, ?_⟩
  · rw [hts, List.length_map]; exact ho
  · rw [h1, hts]; exact again_same h2 hle h3
  · rw [hts, List.length_map, List.length_append, List.length_cons, List.length_nil]; omega
theorem i64_low1023 (n : Int) : bits .and .i64 n 1023 = n % 1024 := by
  have key : (BitVec.ofInt 64 n &&& BitVec.ofInt 64 1023).toNat = (n % ((2 ^ 64 : Nat) : Int)).toNat % 1024 := by
    rw [BitVec.toNat_and, BitVec.toNat_ofInt, show (BitVec.ofInt 64 1023).toNat = 2 ^ 10 - 1 by decide, Nat.and_two_pow_sub_one_eq_mod]
  show IntKind.i64.wrap ((BitVec.ofInt 64 n &&& BitVec.ofInt 64 1023).toNat : Nat) = _
  rw [key, IntKind.wrap_i64]
  omega
end Go.Proofs.Ytifikcaiknnjfaa
