/- nat.Of; the statements' own small calls. -/
import Derived.Test.YtlihnagfmfpdcaaAdd
import Derived.Test.YtlihnagfmfpdcaaRefA
namespace Go.Proofs.Ytlihnagfmfpdcaa
open Go.RowKit

theorem Row.new (w : World) (zs : List Nat) (us : Array Value) (h : us = (u32s zs).toArray) : Row (w.alloc (.cells us 59)) w.heap.size zs := by
  unfold Row; rw [h]; exact heap_alloc_new w _

set_option maxHeartbeats 400000 in
theorem of_any (N : Nat) (w : World) (h : N / 4294967296 < 4294967296) :
    Calls Try.prog 50 #[.int .u64 (N : Int)] w (CutPost N w) := by
  go_enter Try.func50, Try.ntmps50
  go_wp2_with fail
  have hr := Row.new w [N % 4294967296, N / 4294967296] #[.int .u32 ((N : Int) % 4294967296), .int .u32 ((N : Int) / 4294967296)] (by simp [u32s])
  refine (trimmed_row w.heap.size 2 2 N w.heap.size _ _ hr (Limb.Ok.cons (by omega) (Limb.Ok.cons h Limb.Ok.nil)) (by simp) (by omega) (by omega) (Nat.le_refl _) (by simp [Limb.val]; omega)).mono ?_
  rintro e w' ⟨A', m, rfl, how, rfl⟩
  go_wp2_with fail
  go_ret
  exact ⟨A', m, rfl, how, (Below.refl _ _).alloc (Nat.le_refl _) _⟩

theorem of_int (v : Int) (N : Nat) (w : World) (hv : v = (N : Int)) (h : N / 4294967296 < 4294967296) : Calls Try.prog 50 #[.int .u64 v] w (CutPost N w) := by
  subst hv; exact of_any N w h

/-- A small list that the statement writes out. -/
theorem Nums.new (w : World) (xs : List Nat) (us : Array Value) (h : us = (u32s xs).toArray) (ho : Limb.Ok xs) (n : Nat) (hn : n = xs.length) : Nums (w.alloc (.cells us 59)) (some ⟨w.heap.size, 0, none⟩) n xs := by
  subst hn
  have := (Row.new w xs us h).nums ho (o := 0) (n := xs.length) (by omega)
  simpa using this

def YesPost (w : World) (e : Ending) (w' : World) : Prop := e = .returned (.bool true) ∧ Below w.heap.size w w'
set_option maxHeartbeats 1000000 in
theorem lsame_yes (A B : Option Addr) (n m c d N : Nat) (w : World) (hx : Nums w A n (Limb.canon N)) (hy : Nums w B m (Limb.canon N)) (hn : n ≤ 9223372036854775807) :
    Calls Try.prog 12 #[.slice A n c, .slice B m d] w (YesPost w) := by
  obtain rfl : n = m := by rw [← hx.len, ← hy.len]
  have hlen := hx.len
  have HT := hide (Limb.tight_canon N)
  have HL := Lib.hid hlen
  clear hlen
  by_cases h0 : n = 0
  · subst h0
    go_enter Try.func12, Try.ntmps12
    go_wp2_with fail
    refine (same_yes A B 0 c d _ w hx hy hn).mono ?_
    rintro e w' ⟨rfl, k, rfl⟩
    go_wp2_with fail
    go_ret
    exact ⟨rfl, bl_drewN w k⟩
  · have h1 : ((n : Int) == 0) = false := by simp; omega
    have hpos : 1 ≤ n := by omega
    clear h0
    obtain ⟨b, o, x, hA, hxl, hxe, hc⟩ := hx.at_ (i := n - 1) (by omega)
    have hx0 : x ≠ 0 := by
      have hne : Limb.canon N ≠ [] := by intro hh; have := HL.out; rw [hh] at this; simp at this; omega
      have ht := HT.out hne
      rw [List.getLast_eq_getElem] at ht
      rw [hxe, List.getD_eq_getElem?_getD, List.getElem?_eq_getElem (by rw [HL.out]; omega)]
      simpa [HL.out] using ht
    have h2 : ((x : Int) != 0) = true := by simp; omega
    subst hA
    clear hxe hx0
    go_enter Try.func12, Try.ntmps12
    go_wp2_with fail
    refine (same_yes _ B n c d _ w hx hy hn).mono ?_
    rintro e w' ⟨rfl, k, rfl⟩
    go_wp2_with fail
    go_ret
    exact ⟨rfl, bl_drewN w k⟩

def short_post (b : Bool) (w : World) (e : Ending) (w' : World) : Prop := e = .returned (.bool b) ∧ w = w'
theorem short_yes (A B : Option Addr) (n c m d : Nat) (k : Int) (w : World) (h1 : (n : Int) ≤ k) (h2 : (m : Int) ≤ k) (hk : k ≤ 4294967296) :
    Calls Try.prog 11 #[.slice A n c, .slice B m d, .int .i64 k] w (short_post true w) := by
  go_enter Try.func11, Try.ntmps11
  go_wp2_with fail
  go_ret
  exact ⟨rfl, rfl⟩
theorem short_no (A B : Option Addr) (n c m d : Nat) (k : Int) (w : World) (hn : n ≤ 9223372036854775807) (hm : m ≤ 9223372036854775807) (h : k < (n : Int) ∨ k < (m : Int)) (hk : k ≤ 4294967296) :
    Calls Try.prog 11 #[.slice A n c, .slice B m d, .int .i64 k] w (short_post false w) := by
  by_cases h1 : (n : Int) ≤ k
  · have h2 : ¬ (m : Int) ≤ k := by omega
    clear h
    go_enter Try.func11, Try.ntmps11
    go_wp2_with fail
    go_ret
    exact ⟨rfl, rfl⟩
  · clear h
    go_enter Try.func11, Try.ntmps11
    go_wp2_with fail
    go_ret
    exact ⟨rfl, rfl⟩
end Go.Proofs.Ytlihnagfmfpdcaa
