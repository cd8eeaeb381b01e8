/- plumblinelaw01.telling: Parse and Text are alive. -/
import Derived.Test.YtlihnagfmfpdcaaRefText
import Derived.Test.YtlihnagfmfpdcaaRefParse
namespace Go.Proofs.Ytlihnagfmfpdcaa
open Go.RowKit

def big20 : ByteArray := ⟨#[49, 56, 52, 52, 54, 55, 52, 52, 48, 55, 51, 55, 48, 57, 53, 53, 49, 54, 49, 54]⟩
theorem big20_dig : allDig big20 ∧ big20.size ≠ 0 := by
  constructor
  · have h : ∀ i, i < 20 → 48 ≤ byteAt big20 i ∧ byteAt big20 i ≤ 57 := by decide
    exact h
  · decide
theorem big20_num : numOf big20 big20.size = 18446744073709551616 := by decide
theorem isLen_dlen {N k : Nat} (h : Dec.IsLen N k) : Dec.dlen N = k := Dec.isLen_uniq (Dec.dlen_is N) h
theorem big20_text : Dec.text 18446744073709551616 = big20 := by
  unfold Dec.text
  rw [isLen_dlen (k := 20) ⟨by omega, by omega, Or.inr (by omega)⟩]
  apply ByteArray.ext
  decide
theorem zero_text : Dec.text 0 = ⟨#[48]⟩ := by
  unfold Dec.text
  rw [isLen_dlen (k := 1) ⟨by omega, by omega, Or.inl rfl⟩]
  apply ByteArray.ext
  decide
theorem bad_form : ¬ (allDig ⟨#[49, 120]⟩ ∧ (⟨#[49, 120]⟩ : ByteArray).size ≠ 0) := by
  rintro ⟨h, -⟩
  have := (h 1 (by decide)).2
  revert this
  decide
theorem canon_big : Limb.canon 18446744073709551616 = [0, 0, 1] := by decide

def ParseBig (w : World) (e : Ending) (w' : World) : Prop := ∃ N : Nat, N = 18446744073709551616 ∧ LeftPost N w e w'
theorem parse_big (w : World) : Calls Try.prog 16 #[.string ⟨#[49, 56, 52, 52, 54, 55, 52, 52, 48, 55, 51, 55, 48, 57, 53, 53, 49, 54, 49, 54]⟩] w (ParseBig w) := by
  refine (parse_ok big20 w (by decide) big20_dig.1 big20_dig.2).mono ?_
  intro e w' h
  exact ⟨_, big20_num, h⟩
def TextBig (w : World) (e : Ending) (w' : World) : Prop := e = .returned (.string ⟨#[49, 56, 52, 52, 54, 55, 52, 52, 48, 55, 51, 55, 48, 57, 53, 53, 49, 54, 49, 54]⟩) ∧ Below w.heap.size w w'
theorem text_big (A : Option Addr) (n c N : Nat) (w : World) (hN : N = 18446744073709551616) (hx : Nums w A n (Limb.canon N)) (hc : n ≤ c) (hm : c ≤ 9223372036854775807) (hn : n ≤ 1099511627776) : Calls Try.prog 19 #[.slice A n c] w (TextBig w) := by
  refine (natText_any A n c _ w hx hc hm hn).mono ?_
  rintro e w' ⟨rfl, hb⟩
  rw [Limb.val_canon, hN, big20_text]
  exact ⟨rfl, hb⟩
def TextNil (w : World) (e : Ending) (w' : World) : Prop := e = .returned (.string ⟨#[48]⟩) ∧ Below w.heap.size w w'
theorem text_nil (w : World) : Calls Try.prog 19 #[.slice none 0 0] w (TextNil w) := by
  refine (natText_any none 0 0 [] w (Nums.nil _ _) (by omega) (by omega) (by omega)).mono ?_
  rintro e w' ⟨rfl, hb⟩
  rw [show Limb.val [] = 0 from rfl, zero_text]
  exact ⟨rfl, hb⟩
set_option maxHeartbeats 4000000 in
theorem telling_any (w : World) : Calls Try.prog 15 #[] w (YesPost w) := by
  go_enter Try.func15, Try.ntmps15
  go_wp2_with fail
  refine (parse_big w).mono ?_
  rintro e w1 ⟨N, hN, A1, n1, rfl, o1, b1⟩
  have HN := hide hN
  clear hN
  have hn1 : n1 ≤ 3 := short_canon o1.nums (by rw [HN.out]; decide)
  go_wp2_with fail
  refine (parse_form ⟨#[49, 120]⟩ w1 (by decide) bad_form).mono ?_
  rintro e w2 ⟨rfl, b2⟩
  have t2 := b1.next b2
  have o2 := o1.below b2
  clear o1 b1 b2
  go_wp2_with fail
  refine (lsame_yes A1 _ n1 3 n1 3 N _ (o2.nums.alloc _) (by rw [HN.out, canon_big]; exact Nums.new w2 [0, 0, 1] _ (by simp [u32s]) (Limb.Ok.cons (by omega) (Limb.Ok.cons (by omega) (Limb.Ok.cons (by omega) Limb.Ok.nil))) 3 rfl) (by omega)).mono ?_
  rintro e w3 ⟨rfl, b3⟩
  have t3 := (t2.next (bl_alloc w2 _)).next b3
  have o3 := (o2.alloc (.cells #[.int .u32 0, .int .u32 0, .int .u32 1] 59)).below b3
  go_wp2_with fail
  refine (text_big A1 n1 n1 N w3 HN.out o3.nums (Nat.le_refl _) (by omega) (by omega)).mono ?_
  rintro e w4 ⟨rfl, b4⟩
  have t4 := t3.next b4
  go_wp2_with fail
  refine (text_nil w4).mono ?_
  rintro e w5 ⟨rfl, b5⟩
  go_wp2_with fail
  go_ret
  exact ⟨rfl, t4.next b5⟩
end Go.Proofs.Ytlihnagfmfpdcaa
