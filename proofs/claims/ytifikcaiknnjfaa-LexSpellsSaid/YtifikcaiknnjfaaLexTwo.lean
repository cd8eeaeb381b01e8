/- plumblineref10.two. -/
import Derived.Test.YtifikcaiknnjfaaLexH
import Derived.Laws.IdiomStrings
namespace Go.Proofs.Ytifikcaiknnjfaa
open Go.RowKit
open Lx

theorem addr_plus (b o j : Nat) : (⟨b, o, none⟩ : Addr).add j = ⟨b, o + j, none⟩ := by
  by_cases hj0 : j = 0
  · subst hj0; rfl
  · simp [Addr.add, hj0]
set_option maxRecDepth 100000 in
set_option maxHeartbeats 4000000 in
theorem two_any (a b : Nat) (ha : a < 256) (hb : b < 256) (w : World) : Calls Try.prog 29 #[.int .u8 (a : Int), .int .u8 (b : Int)] w (BoolB (twoB a b) w) := by
  have hcv := run_convert_bytes_back (P := Try.prog) (w.alloc (.cells #[.int .u8 (a : Int), .int .u8 (b : Int)] 5)) 60 9 5 ⟨w.heap.size, 0, none⟩ 2 [UInt8.ofNat a, UInt8.ofNat b] Try.underlying60 Try.underlying5 Try.underlying9
    (fun j hj => by
      have hj2 : j < 2 := by simpa using hj
      rw [addr_plus, Nat.zero_add, World.cell?_alloc_mark]
      have h2 : j = 0 ∨ j = 1 := by omega
      rcases h2 with rfl | rfl
      · show some (Value.int .u8 (a : Int)) = some (Value.int .u8 (((UInt8.ofNat a).toNat : Nat) : Int))
        rw [UInt8.toNat_ofNat_of_lt' ha]
      · show some (Value.int .u8 (b : Int)) = some (Value.int .u8 (((UInt8.ofNat b).toNat : Nat) : Int))
        rw [UInt8.toNat_ofNat_of_lt' hb])
  obtain ⟨t, ht⟩ : ∃ t : ByteArray, (⟨[UInt8.ofNat a, UInt8.ofNat b].toArray⟩ : ByteArray) = t := ⟨_, rfl⟩
  rw [ht] at hcv
  have hl : t.toList = [UInt8.ofNat a, UInt8.ofNat b] := by rw [← ht, Lib.toList_data]
  simp only [List.length_cons, List.length_nil, Nat.zero_add, Nat.reduceAdd] at hcv
  clear ht
  have B1 := hide (bl_alloc w (.cells #[.int .u8 (a : Int), .int .u8 (b : Int)] 5))
  by_cases h : twoB a b = true
  · rw [h]
    have hc := two_cases h
    clear h
    have hs : t.toList = [45, 62] ∨ t.toList = [58, 61] ∨ t.toList = [33, 61] ∨ t.toList = [60, 61] ∨ t.toList = [62, 61] ∨ t.toList = [46, 46] := by
      rcases hc with ⟨h1, h2⟩ | ⟨h1, h2⟩ | ⟨h1, h2⟩ | ⟨h1, h2⟩ | ⟨h1, h2⟩ | ⟨h1, h2⟩ <;> rw [h1, h2] at hl
      · exact .inl hl
      · exact .inr (.inl hl)
      · exact .inr (.inr (.inl hl))
      · exact .inr (.inr (.inr (.inl hl)))
      · exact .inr (.inr (.inr (.inr (.inl hl))))
      · exact .inr (.inr (.inr (.inr (.inr hl))))
    clear hc hl
    rcases hs with hl | hl | hl | hl | hl | hl <;> (
      go_enter Try.func29, Try.ntmps29
      go_wp2_with fail
      go_ret
      exact ⟨rfl, B1.out⟩)
  · have hf : twoB a b = false := by simpa using h
    have hne : ∀ x y : Nat, x < 256 → y < 256 → twoB x y = true → (t.toList == [UInt8.ofNat x, UInt8.ofNat y]) = false := by
      intro x y hx hy hxy
      rw [hl, beq_eq_false_iff_ne]
      intro hh
      injection hh with e1 e2
      injection e2 with e2 _
      have e3 : a = x := by have := congrArg UInt8.toNat e1; rwa [UInt8.toNat_ofNat_of_lt' ha, UInt8.toNat_ofNat_of_lt' hx] at this
      have e4 : b = y := by have := congrArg UInt8.toNat e2; rwa [UInt8.toNat_ofNat_of_lt' hb, UInt8.toNat_ofNat_of_lt' hy] at this
      rw [← e3, ← e4] at hxy
      exact h hxy
    have n1 : (t.toList == [45, 62]) = false := hne 45 62 (by decide) (by decide) rfl
    have n2 : (t.toList == [58, 61]) = false := hne 58 61 (by decide) (by decide) rfl
    have n3 : (t.toList == [33, 61]) = false := hne 33 61 (by decide) (by decide) rfl
    have n4 : (t.toList == [60, 61]) = false := hne 60 61 (by decide) (by decide) rfl
    have n5 : (t.toList == [62, 61]) = false := hne 62 61 (by decide) (by decide) rfl
    have n6 : (t.toList == [46, 46]) = false := hne 46 46 (by decide) (by decide) rfl
    rw [hf]
    clear hne h hf hl
    go_enter Try.func29, Try.ntmps29
    go_wp2_with fail
    go_ret
    exact ⟨rfl, B1.out⟩
end Go.Proofs.Ytifikcaiknnjfaa
