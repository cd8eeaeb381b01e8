/- Bytes of a text as plain numbers. -/
import Derived.Test.YtifikcaiknnjfaaLexSpellM
import Derived.Test.YtifikcaiknnjfaaLexS
import Derived.Test.YtifikcaiknnjfaaLexTok
import Derived.Test.YtifikcaiknnjfaaLexU
import Derived.Lib.Join
namespace Go.Proofs.Ytifikcaiknnjfaa
open Go.RowKit
open Lx

def bts (s : ByteArray) : List Nat := s.data.toList.map UInt8.toNat
theorem bts_len (s : ByteArray) : (bts s).length = s.size := by
  rw [bts, List.length_map, Array.length_toList]; rfl
theorem byteAt_bts (s : ByteArray) : byteAt s = gL (bts s) := by
  funext i
  by_cases h : i < s.size
  · rw [byteAt_eq s i h]
    unfold gL bts
    have h2 : i < s.data.toList.length := by rw [Array.length_toList]; exact h
    rw [List.getD_eq_getElem?_getD, List.getElem?_map, List.getElem?_eq_getElem h2]
    simp [ByteArray.getElem_eq_getElem_data]
  · have h2 : (bts s).length ≤ i := by rw [bts_len]; omega
    unfold byteAt gL
    rw [dif_neg h, List.getD_eq_getElem?_getD, List.getElem?_eq_none h2]
    rfl
theorem bts_inj {s t : ByteArray} (h : bts s = bts t) : s = t := by
  apply ByteArray.ext
  apply Array.toList_inj.1
  exact (List.map_inj_right (fun a b hab => UInt8.toNat_inj.1 hab)).1 h
theorem bts_append (a b : ByteArray) : bts (a ++ b) = bts a ++ bts b := by simp [bts]
theorem bts_mk (l : List UInt8) : bts ⟨l.toArray⟩ = l.map UInt8.toNat := by simp [bts]
theorem bts_extract (s : ByteArray) (k a b : Nat) (hab : a ≤ b) (hb : b ≤ s.size) : bts (s.extract a b) = textF (byteAt s) (k, a, b) := by
  apply List.ext_getElem
  · rw [bts_len, textF_len, ext_size s a b hab hb]
  · intro j h1 h2
    rw [bts_len, ext_size s a b hab hb] at h1
    have h3 : (bts (s.extract a b))[j] = gL (bts (s.extract a b)) j := by
      unfold gL; rw [List.getD_eq_getElem?_getD, List.getElem?_eq_getElem]; rfl
    have h4 : (textF (byteAt s) (k, a, b))[j] = gL (textF (byteAt s) (k, a, b)) j := by
      unfold gL; rw [List.getD_eq_getElem?_getD, List.getElem?_eq_getElem]; rfl
    rw [h3, h4, ← byteAt_bts, textF_get _ _ _ h1, ext_byte s a b j hb (by omega)]
/-- What lex.Spell gives. -/
def spellB (xs : List ByteArray) : ByteArray := ⟨(Lib.join (xs.map (·.data.toList)) [32]).toArray⟩
theorem spellB_bts (xs : List ByteArray) : bts (spellB xs) = spellL (xs.map bts) := by
  unfold spellB
  rw [bts_mk]
  cases xs with
  | nil => rfl
  | cons x r =>
    rw [List.map_cons, Lib.join_cons, List.map_append, List.map_cons, spellL]
    congr 1
    unfold Lib.joinTail
    rw [List.map_flatten, List.map_map, List.map_map, List.map_map]
    congr 1
theorem textF_end (f : Nat → Nat) (n : Nat) : textF f (5, n, n) = [] := by simp [textF]
theorem tk_texts (s : ByteArray) (ts : List Tok) (h : ∀ t ∈ ts, t.2.1 ≤ t.2.2 ∧ t.2.2 ≤ s.size) : (ts.map (tk s)).map (fun u : TK => bts u.text) = ts.map (textF (byteAt s)) := by
  rw [List.map_map]
  apply List.map_congr_left
  intro t ht
  exact bts_extract s t.1 t.2.1 t.2.2 (h t ht).1 (h t ht).2
/-- Two texts with the same tokens: kinds and texts agree one by one. -/
theorem again_same {s o : ByteArray} {ts ts' : List Tok} (h : ts'.map (fun t => (t.1, textF (byteAt o) t)) = ts.map (fun t => (t.1, textF (byteAt s) t))) (hs : ∀ t ∈ ts, t.2.1 ≤ t.2.2 ∧ t.2.2 ≤ s.size) (ho : ∀ t ∈ ts', t.2.1 ≤ t.2.2 ∧ t.2.2 ≤ o.size) :
    ((ts' ++ [(5, o.size, o.size)]).map (tk o)).map (fun u : TK => (u.kind, u.text)) = ((ts ++ [(5, s.size, s.size)]).map (tk s)).map (fun u : TK => (u.kind, u.text)) := by
  have e : ∀ (q : ByteArray) (us : List Tok), (∀ t ∈ us, t.2.1 ≤ t.2.2 ∧ t.2.2 ≤ q.size) → us.map (fun t => (t.1, textF (byteAt q) t)) = us.map (fun t => (t.1, bts (q.extract t.2.1 t.2.2))) := fun q us hu =>
    List.map_congr_left (fun t ht => by rw [bts_extract q t.1 t.2.1 t.2.2 (hu t ht).1 (hu t ht).2])
  rw [e o ts' ho, e s ts hs] at h
  have h2 : ts'.map (fun t => (t.1, o.extract t.2.1 t.2.2)) = ts.map (fun t => (t.1, s.extract t.2.1 t.2.2)) := by
    refine (List.map_inj_right (f := fun p : Nat × ByteArray => (p.1, bts p.2)) (fun a b hab => by
      have h1 := (Prod.mk.inj hab).1
      have h2 := bts_inj (Prod.mk.inj hab).2
      exact Prod.ext h1 h2)).1 ?_
    rw [List.map_map, List.map_map]
    exact h
  have h3 : ts'.map ((fun u : TK => (u.kind, u.text)) ∘ tk o) = ts.map ((fun u : TK => (u.kind, u.text)) ∘ tk s) := h2
  have e5 : ∀ q : ByteArray, q.extract q.size q.size = ByteArray.empty := fun q => by
    apply bts_inj
    rw [bts_extract q 5 q.size q.size (Nat.le_refl _) (Nat.le_refl _), textF_end]; rfl
  have e6 : ∀ (q : ByteArray) (us : List Tok), ((us ++ [(5, q.size, q.size)]).map (tk q)).map (fun u : TK => (u.kind, u.text)) = us.map ((fun u : TK => (u.kind, u.text)) ∘ tk q) ++ [(5, ByteArray.empty)] := fun q us => by
    rw [List.map_map, List.map_append]
    simp only [List.map_cons, List.map_nil, Function.comp_def, tk, e5]
  rw [e6, e6, h3]
end Go.Proofs.Ytifikcaiknnjfaa
