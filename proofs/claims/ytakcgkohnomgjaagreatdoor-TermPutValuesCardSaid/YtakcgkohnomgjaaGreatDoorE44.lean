/- Texts of one seat, put together: PutValMath. -/
import Derived.Test.YtakcgkohnomgjaaGreatDoorE43
import Derived.Test.YtakcgkohnomgjaaGreatDoorE37
set_option linter.unusedVariables false
set_option linter.unusedSimpArgs false
/- TermPutValues: what it says, on plain numbers. -/
namespace Go.Proofs.YtakcgkohnomgjaaGreatDoor.Tm

/-- The value of variable i behind the substitution. -/
def innerAt (us : List Int) (ts : List (List (Int × Int) × Int)) (i : Nat) : Int :=
  match ts[i]? with
  | some t => t.2 + val us t.1
  | none => us.getD i 0
theorem place_upto (us : List Int) (ts : List (List (Int × Int) × Int)) (u : Nat) : val us (place (uptoI ts.length) ts u).1 + (place (uptoI ts.length) ts u).2 = innerAt us ts u := by
  unfold place innerAt uptoI
  rw [firstAt_upto]
  by_cases h : u < ts.length
  · rw [if_pos (show 0 ≤ (u : Int) ∧ (u : Int) < (ts.length : Int) by omega), List.getElem?_eq_getElem h]
    simp only [Int.toNat_natCast, List.getD_eq_getElem?_getD, List.getElem?_eq_getElem h, Option.getD_some]
    omega
  · rw [if_neg (show ¬ (0 ≤ (u : Int) ∧ (u : Int) < (ts.length : Int)) by omega), List.getElem?_eq_none (by omega)]
    simp [val]
theorem put_values (us : List Int) (ts : List (List (Int × Int) × Int)) (K : Int) (L : List (Int × Int)) (hL : ∀ p ∈ L, p.1 ≤ 7) :
    (K + putK (uptoI ts.length) ts (norm L)) + val us (norm (putL (uptoI ts.length) ts (norm L))) = K + val ((List.range 8).map (innerAt us ts)) L := by
  have h1 := put_value us (uptoI ts.length) ((List.range 8).map (innerAt us ts)) ts (norm L) (fun p hp => by
    have h2 := norm_range hL p hp
    refine ⟨h2.1, ?_⟩
    obtain ⟨u, hu⟩ := Int.eq_ofNat_of_zero_le h2.1
    have h3 : u < 8 := by have := h2.2; omega
    rw [hu, place_upto, Int.toNat_natCast, List.getD_eq_getElem?_getD, List.getElem?_map, List.getElem?_range h3]
    rfl)
  rw [val_norm, ← val_norm _ L, ← h1]
  omega
end Go.Proofs.YtakcgkohnomgjaaGreatDoor.Tm
