/- Texts of one seat, put together: ZShares Open OpenZ. -/
import Derived.Test.YtlihnagfmfpdcaaB34
import Derived.Test.YtlihnagfmfpdcaaB36
import Derived.Test.YtlihnagfmfpdcaaB37
import Derived.Test.YtlihnagfmfpdcaaB03
import Derived.ProofKit
import Derived.OpenShut
import Derived.ShutString
import Derived.ChangeOld
import Derived.Below
import Derived.Lib.SmallJoins
/- plumblinelaw02.ZintShares: the walk. -/
namespace Go.Proofs.Ytlihnagfmfpdcaa
open Go.RowKit

set_option maxRecDepth 100000 in
set_option maxHeartbeats 8000000 in
theorem zintShares_walk (s : Bool) (A : Option Addr) (n c : Nat) (xs : List Nat) (t : Bool) (B : Option Addr) (m d : Nat) (ys : List Nat) (w : World) (hx : Nums w A n xs) (hc : n ≤ c) (hm : c ≤ 9223372036854775807) (hy : Nums w B m ys) (hd : m ≤ d) (hmd : d ≤ 9223372036854775807) :
    Calls Try.prog 6 #[.agg #[.bool s, .slice A n c], .agg #[.bool t, .slice B m d]] w (YesPost w) := by
  obtain ⟨x, y, z2, -⟩ := zstart2 w #[.bool s, .slice A n c] #[.bool t, .slice B m d]
  have K := ((Keeps.nil z2).add y (by omega)).add x (by omega)
  clear x y z2
  by_cases hs : n ≤ 8 ∧ m ≤ 8
  · obtain ⟨hn, hmk⟩ := hs
    have hv : ZIn w (.agg #[.bool s, .slice A n c]) (sg s (Limb.val xs)) 8 := ⟨s, A, n, c, xs, rfl, hx, hc, hm, hn, rfl⟩
    have hu : ZIn w (.agg #[.bool t, .slice B m d]) (sg t (Limb.val ys)) 8 := ⟨t, B, m, d, ys, rfl, hy, hd, hmd, hmk, rfl⟩
    generalize sg s (Limb.val xs) = Z at *
    generalize sg t (Limb.val ys) = Y at *
    have HB := hide (fun W (h1 : ZIn W (.agg #[.bool s, .slice A n c]) Z 8) (h2 : ZIn W (.agg #[.bool t, .slice B m d]) Y 8) => bezout_z _ _ Z Y 8 9 W h1 h2 (by omega) rfl)
    have HC := hide (fun W (h1 : ZIn W (.agg #[.bool s, .slice A n c]) Z 8) (h2 : ZIn W (.agg #[.bool t, .slice B m d]) Y 8) => rbezout_z _ _ Z Y 8 9 W h1 h2 (by omega) rfl)
    have HG := hide (fun W (h1 : ZIn W (.agg #[.bool s, .slice A n c]) Z 8) (h2 : ZIn W (.agg #[.bool t, .slice B m d]) Y 8) => gcd_z _ _ Z Y 8 W h1 h2 (by omega))
    have HH := hide (fun W (h1 : ZIn W (.agg #[.bool s, .slice A n c]) Z 8) (h2 : ZIn W (.agg #[.bool t, .slice B m d]) Y 8) => rgcd_z _ _ Z Y 8 W h1 h2 (by omega))
    have HL := hide (fun W (h1 : ZIn W (.agg #[.bool s, .slice A n c]) Z 8) (h2 : ZIn W (.agg #[.bool t, .slice B m d]) Y 8) => lcm_z _ _ Z Y 8 W h1 h2 (by omega))
    have HM := hide (fun W (h1 : ZIn W (.agg #[.bool s, .slice A n c]) Z 8) (h2 : ZIn W (.agg #[.bool t, .slice B m d]) Y 8) => rlcm_z _ _ Z Y 8 W h1 h2 (by omega))
    unfold BzPost at HB HC
    generalize gcdZ Z Y = g at *
    generalize bzX Z Y = X at *
    generalize bzY Z Y = V at *
    generalize lcmZ Z Y = L at *
    go_enter Try.func6, Try.ntmps6
    go_wp2_with fail
    refine (zsharing_any _).mono ?_
    rintro e w1 ⟨rfl, b1⟩
    replace K := K.call b1
    clear b1
    have cxa := (K.blk (List.Mem.head _)).c0
    have cxb := (K.blk (List.Mem.head _)).c1
    have cya := (K.blk (List.Mem.tail _ (List.Mem.head _))).c0
    have cyb := (K.blk (List.Mem.tail _ (List.Mem.head _))).c1
    go_wp2_with fail
    refine (z2short_yes _ _ Z Y 8 8 w1 (hv.below K.old) (hu.below K.old) (by omega) (by omega)).mono ?_
    rintro e w2 ⟨rfl, b2⟩
    clear cxa cxb cya cyb
    replace K := K.call b2
    clear b2
    have cxa := (K.blk (List.Mem.head _)).c0
    have cxb := (K.blk (List.Mem.head _)).c1
    have cya := (K.blk (List.Mem.tail _ (List.Mem.head _))).c0
    have cyb := (K.blk (List.Mem.tail _ (List.Mem.head _))).c1
    go_wp2_with fail
    refine (HB.out w2 (hv.below K.old) (hu.below K.old)).mono ?_
    rintro e w3 ⟨v3, v5a, v5b, rfl, rg, rx, ry, b3⟩
    clear cxa cxb cya cyb
    replace K := K.call b3
    clear b3
    obtain ⟨sG, AG, nG, cG, rfl⟩ := rg.form
    obtain ⟨sX, AX, nX, cX, rfl⟩ := rx.form
    obtain ⟨sY, AY, nY, cY, rfl⟩ := ry.form
    have tt := ((bl_alloc w3 (.cells #[.bool sG, .slice AG nG cG] 38)).next (bl_alloc _ (.cells #[.bool sX, .slice AX nX cX] 38))).next (bl_alloc _ (.cells #[.bool sY, .slice AY nY cY] 38))
    replace K := K.made3 (a := .bool sG) (b := .slice AG nG cG) (c := .bool sX) (d := .slice AX nX cX) (e := .bool sY) (f := .slice AY nY cY)
    replace rg := rg.below tt
    replace rx := rx.below tt
    replace ry := ry.below tt
    clear tt
    have cxa := (K.blk (List.Mem.tail _ (List.Mem.tail _ (List.Mem.tail _ (List.Mem.head _))))).c0
    have cxb := (K.blk (List.Mem.tail _ (List.Mem.tail _ (List.Mem.tail _ (List.Mem.head _))))).c1
    have cya := (K.blk (List.Mem.tail _ (List.Mem.tail _ (List.Mem.tail _ (List.Mem.tail _ (List.Mem.head _)))))).c0
    have cyb := (K.blk (List.Mem.tail _ (List.Mem.tail _ (List.Mem.tail _ (List.Mem.tail _ (List.Mem.head _)))))).c1
    go_wp2_with fail
    refine (HC.out (((w3.alloc (.cells #[.bool sG, .slice AG nG cG] 38)).alloc (.cells #[.bool sX, .slice AX nX cX] 38)).alloc (.cells #[.bool sY, .slice AY nY cY] 38)) (hv.below K.old) (hu.below K.old)).mono ?_
    rintro e w4 ⟨v4, v6a, v6b, rfl, rh, rs, rt, b4⟩
    clear cxa cxb cya cyb
    replace K := K.call b4
    replace rg := rg.below b4
    replace rx := rx.below b4
    replace ry := ry.below b4
    clear b4
    obtain ⟨sH, AH, nH, cH, rfl⟩ := rh.form
    obtain ⟨sS, AS, nS, cS, rfl⟩ := rs.form
    obtain ⟨sT, AT, nT, cT, rfl⟩ := rt.form
    have tt := ((bl_alloc w4 (.cells #[.bool sH, .slice AH nH cH] 38)).next (bl_alloc _ (.cells #[.bool sS, .slice AS nS cS] 38))).next (bl_alloc _ (.cells #[.bool sT, .slice AT nT cT] 38))
    replace K := K.made3 (a := .bool sH) (b := .slice AH nH cH) (c := .bool sS) (d := .slice AS nS cS) (e := .bool sT) (f := .slice AT nT cT)
    replace rg := rg.below tt
    replace rx := rx.below tt
    replace ry := ry.below tt
    replace rh := rh.below tt
    replace rs := rs.below tt
    replace rt := rt.below tt
    clear tt
    have SOF := hide (show ∀ W, Keeps w [(w4.heap.size + 1 + 1, .bool sT, .slice AT nT cT), (w4.heap.size + 1, .bool sS, .slice AS nS cS), (w4.heap.size, .bool sH, .slice AH nH cH), (w3.heap.size + 1 + 1, .bool sY, .slice AY nY cY), (w3.heap.size + 1, .bool sX, .slice AX nX cX), (w3.heap.size, .bool sG, .slice AG nG cG), (w.heap.size, .bool s, .slice A n c), (w.heap.size + 1, .bool t, .slice B m d)] W → (fun W => Keeps w [(w4.heap.size + 1 + 1, .bool sT, .slice AT nT cT), (w4.heap.size + 1, .bool sS, .slice AS nS cS), (w4.heap.size, .bool sH, .slice AH nH cH), (w3.heap.size + 1 + 1, .bool sY, .slice AY nY cY), (w3.heap.size + 1, .bool sX, .slice AX nX cX), (w3.heap.size, .bool sG, .slice AG nG cG), (w.heap.size, .bool s, .slice A n c), (w.heap.size + 1, .bool t, .slice B m d)] W ∧ W.cell? ⟨w4.heap.size + 1 + 1, 0, none⟩ = some (.bool sT) ∧ W.cell? ⟨w4.heap.size + 1 + 1, 1, none⟩ = some (.slice AT nT cT) ∧ W.cell? ⟨w4.heap.size + 1, 0, none⟩ = some (.bool sS) ∧ W.cell? ⟨w4.heap.size + 1, 1, none⟩ = some (.slice AS nS cS) ∧ W.cell? ⟨w4.heap.size, 0, none⟩ = some (.bool sH) ∧ W.cell? ⟨w4.heap.size, 1, none⟩ = some (.slice AH nH cH) ∧ W.cell? ⟨w3.heap.size + 1 + 1, 0, none⟩ = some (.bool sY) ∧ W.cell? ⟨w3.heap.size + 1 + 1, 1, none⟩ = some (.slice AY nY cY) ∧ W.cell? ⟨w3.heap.size + 1, 0, none⟩ = some (.bool sX) ∧ W.cell? ⟨w3.heap.size + 1, 1, none⟩ = some (.slice AX nX cX) ∧ W.cell? ⟨w3.heap.size, 0, none⟩ = some (.bool sG) ∧ W.cell? ⟨w3.heap.size, 1, none⟩ = some (.slice AG nG cG) ∧ W.cell? ⟨w.heap.size, 0, none⟩ = some (.bool s) ∧ W.cell? ⟨w.heap.size, 1, none⟩ = some (.slice A n c) ∧ W.cell? ⟨w.heap.size + 1, 0, none⟩ = some (.bool t) ∧ W.cell? ⟨w.heap.size + 1, 1, none⟩ = some (.slice B m d)) W from fun W k => ⟨k, (k.blk (List.Mem.head _)).c0, (k.blk (List.Mem.head _)).c1, (k.blk (List.Mem.tail _ (List.Mem.head _))).c0, (k.blk (List.Mem.tail _ (List.Mem.head _))).c1, (k.blk (List.Mem.tail _ (List.Mem.tail _ (List.Mem.head _)))).c0, (k.blk (List.Mem.tail _ (List.Mem.tail _ (List.Mem.head _)))).c1, (k.blk (List.Mem.tail _ (List.Mem.tail _ (List.Mem.tail _ (List.Mem.head _))))).c0, (k.blk (List.Mem.tail _ (List.Mem.tail _ (List.Mem.tail _ (List.Mem.head _))))).c1, (k.blk (List.Mem.tail _ (List.Mem.tail _ (List.Mem.tail _ (List.Mem.tail _ (List.Mem.head _)))))).c0, (k.blk (List.Mem.tail _ (List.Mem.tail _ (List.Mem.tail _ (List.Mem.tail _ (List.Mem.head _)))))).c1, (k.blk (List.Mem.tail _ (List.Mem.tail _ (List.Mem.tail _ (List.Mem.tail _ (List.Mem.tail _ (List.Mem.head _))))))).c0, (k.blk (List.Mem.tail _ (List.Mem.tail _ (List.Mem.tail _ (List.Mem.tail _ (List.Mem.tail _ (List.Mem.head _))))))).c1, (k.blk (List.Mem.tail _ (List.Mem.tail _ (List.Mem.tail _ (List.Mem.tail _ (List.Mem.tail _ (List.Mem.tail _ (List.Mem.head _)))))))).c0, (k.blk (List.Mem.tail _ (List.Mem.tail _ (List.Mem.tail _ (List.Mem.tail _ (List.Mem.tail _ (List.Mem.tail _ (List.Mem.head _)))))))).c1, (k.blk (List.Mem.tail _ (List.Mem.tail _ (List.Mem.tail _ (List.Mem.tail _ (List.Mem.tail _ (List.Mem.tail _ (List.Mem.tail _ (List.Mem.head _))))))))).c0, (k.blk (List.Mem.tail _ (List.Mem.tail _ (List.Mem.tail _ (List.Mem.tail _ (List.Mem.tail _ (List.Mem.tail _ (List.Mem.tail _ (List.Mem.head _))))))))).c1⟩)
    have HK := hide K
    have T5 : Below (((w4.alloc (.cells #[.bool sH, .slice AH nH cH] 38)).alloc (.cells #[.bool sS, .slice AS nS cS] 38)).alloc (.cells #[.bool sT, .slice AT nT cT] 38)).heap.size (((w4.alloc (.cells #[.bool sH, .slice AH nH cH] 38)).alloc (.cells #[.bool sS, .slice AS nS cS] 38)).alloc (.cells #[.bool sT, .slice AT nT cT] 38)) (((w4.alloc (.cells #[.bool sH, .slice AH nH cH] 38)).alloc (.cells #[.bool sS, .slice AS nS cS] 38)).alloc (.cells #[.bool sT, .slice AT nT cT] 38)).drew := bl_drewN (((w4.alloc (.cells #[.bool sH, .slice AH nH cH] 38)).alloc (.cells #[.bool sS, .slice AS nS cS] 38)).alloc (.cells #[.bool sT, .slice AT nT cT] 38)) 1
    clear K
    go_wp2_with fail
    go_region_held3 (fun W => Keeps w [(w4.heap.size + 1 + 1, .bool sT, .slice AT nT cT), (w4.heap.size + 1, .bool sS, .slice AS nS cS), (w4.heap.size, .bool sH, .slice AH nH cH), (w3.heap.size + 1 + 1, .bool sY, .slice AY nY cY), (w3.heap.size + 1, .bool sX, .slice AX nX cX), (w3.heap.size, .bool sG, .slice AG nG cG), (w.heap.size, .bool s, .slice A n c), (w.heap.size + 1, .bool t, .slice B m d)] W ∧ W.cell? ⟨w4.heap.size + 1 + 1, 0, none⟩ = some (.bool sT) ∧ W.cell? ⟨w4.heap.size + 1 + 1, 1, none⟩ = some (.slice AT nT cT) ∧ W.cell? ⟨w4.heap.size + 1, 0, none⟩ = some (.bool sS) ∧ W.cell? ⟨w4.heap.size + 1, 1, none⟩ = some (.slice AS nS cS) ∧ W.cell? ⟨w4.heap.size, 0, none⟩ = some (.bool sH) ∧ W.cell? ⟨w4.heap.size, 1, none⟩ = some (.slice AH nH cH) ∧ W.cell? ⟨w3.heap.size + 1 + 1, 0, none⟩ = some (.bool sY) ∧ W.cell? ⟨w3.heap.size + 1 + 1, 1, none⟩ = some (.slice AY nY cY) ∧ W.cell? ⟨w3.heap.size + 1, 0, none⟩ = some (.bool sX) ∧ W.cell? ⟨w3.heap.size + 1, 1, none⟩ = some (.slice AX nX cX) ∧ W.cell? ⟨w3.heap.size, 0, none⟩ = some (.bool sG) ∧ W.cell? ⟨w3.heap.size, 1, none⟩ = some (.slice AG nG cG) ∧ W.cell? ⟨w.heap.size, 0, none⟩ = some (.bool s) ∧ W.cell? ⟨w.heap.size, 1, none⟩ = some (.slice A n c) ∧ W.cell? ⟨w.heap.size + 1, 0, none⟩ = some (.bool t) ∧ W.cell? ⟨w.heap.size + 1, 1, none⟩ = some (.slice B m d))
      (with_reducible first | exact SOF.out _ HK.out.drew | exact SOF.out _ (Keeps.call (And.left (a := Keeps w _ _) (by assumption)) (by assumption)))
      (first
        | (go_at_call 27; (with_reducible refine (z2same_yes _ _ g 9 9 (((w4.alloc (.cells #[.bool sH, .slice AH nH cH] 38)).alloc (.cells #[.bool sS, .slice AS nS cS] 38)).alloc (.cells #[.bool sT, .slice AT nT cT] 38)).drew (rg.below T5) (rh.below T5) (by omega)).mono ?_); rintro e w6 ⟨rfl, b6⟩; have T6 := T5.next b6)
        | (go_at_call 27; (with_reducible refine (z2same_yes _ _ X 9 9 w6 (rx.below T6) (rs.below T6) (by omega)).mono ?_); rintro e w7 ⟨rfl, b7⟩; have T7 := T6.next b7)
        | (go_at_call 27; (with_reducible refine (z2same_yes _ _ V 9 9 w7 (ry.below T7) (rt.below T7) (by omega)).mono ?_); rintro e w8 ⟨rfl, b8⟩; have T8 := T7.next b8)
        | (go_at_call 28; (with_reducible refine (HG.out w8 (hv.below (HK.out.old.next T8)) (hu.below (HK.out.old.next T8))).mono ?_); rintro e w9 ⟨v9, rfl, r9, b9⟩; have T9 := T8.next b9)
        | (go_at_call 29; (with_reducible refine (HH.out w9 (hv.below (HK.out.old.next T9)) (hu.below (HK.out.old.next T9))).mono ?_); rintro e w10 ⟨v10, rfl, r10, b10⟩; have T10 := T9.next b10; have r9 := r9.below b10)
        | (go_at_call 27; (with_reducible refine (z2same_yes _ _ g 8 8 w10 r9 r10 (by omega)).mono ?_); rintro e w11 ⟨rfl, b11⟩; have T11 := T10.next b11)
        | (go_at_call 30; (with_reducible refine (HL.out w11 (hv.below (HK.out.old.next T11)) (hu.below (HK.out.old.next T11))).mono ?_); rintro e w12 ⟨v12, rfl, r12, b12⟩; have T12 := T11.next b12)
        | (go_at_call 31; (with_reducible refine (HM.out w12 (hv.below (HK.out.old.next T12)) (hu.below (HK.out.old.next T12))).mono ?_); rintro e w13 ⟨v13, rfl, r13, b13⟩; have T13 := T12.next b13; have r12 := r12.below b13)
        | (go_at_call 27; (with_reducible refine (z2same_yes _ _ L 16 16 w13 r12 r13 (by omega)).mono ?_); rintro e w14 ⟨rfl, b14⟩; have T14 := T13.next b14))
    have K := HK.out.call T14
    replace rg := rg.below T14
    replace rx := rx.below T14
    replace ry := ry.below T14
    replace rh := rh.below T14
    replace rs := rs.below T14
    replace rt := rt.below T14
    clear HK SOF T5 T6 T7 T8 T9 T10 T11 T12 T13 T14
    go_wp2_with fail
    go_ret
    exact ⟨rfl, K.old⟩
  · go_enter Try.func6, Try.ntmps6
    go_wp2_with fail
    refine (zsharing_any _).mono ?_
    rintro e w1 ⟨rfl, b1⟩
    replace K := K.call b1
    clear b1
    have cxa := (K.blk (List.Mem.head _)).c0
    have cxb := (K.blk (List.Mem.head _)).c1
    have cya := (K.blk (List.Mem.tail _ (List.Mem.head _))).c0
    have cyb := (K.blk (List.Mem.tail _ (List.Mem.head _))).c1
    go_wp2_with fail
    refine (z2short_no s t A B n c m d 8 w1 (by omega) (by omega) (by omega) (by omega)).mono ?_
    rintro e w2 ⟨rfl, b2⟩
    clear cxa cxb cya cyb
    replace K := K.call b2
    clear b2
    go_wp2_with fail
    go_ret
    exact ⟨rfl, K.old⟩
end Go.Proofs.Ytlihnagfmfpdcaa
/- What the row's arguments are opened to. -/
namespace Go.Proofs.Ytlihnagfmfpdcaa
open Go.ChangeShapes Go.WideShapes Go.ChangeAt Go.RowKit
open Go.ChangeMaps (open_string shut_string)

theorem own : ownKnob Try.prog.godebug = none := by kernel_rfl
theorem laidOut : laidOutB Try.prog = true := by kernel_rfl

theorem wf_u32 {z : Int} (h : (Lit.int .u32 z).wf = true) : 0 ≤ z ∧ z < 4294967296 := by
  have h1 : IntKind.u32.min = 0 := rfl
  have h2 : IntKind.u32.max = 4294967295 := rfl
  simp only [Lit.wf, Bool.and_eq_true, decide_eq_true_eq] at h
  omega

theorem open_nums {H : Type} {enc : TypeId × Value → H} {W : World} {a0 : Option Addr} {len0 cap0 : Nat} {d : DataW H} {p : List MemPlace}
    (h0 : DataW.Trod enc Try.prog W 0 (fun _ => true) true 23 (.slice a0 len0 cap0) d p) : ∃ xs, Nums W a0 len0 xs ∧ len0 ≤ cap0 ∧ cap0 ≤ 9223372036854775807 := by
  obtain ⟨fuel, hf⟩ := h0
  rcases open_ints Try.underlying23 Try.underlying59 (by kernel_rfl) hf with ⟨hcs, _⟩ | ⟨x, l, c, zs, hcs, _, hl, hm, hz, _, hcell, hwz⟩
  · simp [Value.cells] at hcs
    obtain ⟨rfl, rfl, rfl⟩ := hcs
    exact ⟨[], Nums.nil _ _, by omega, by omega⟩
  · simp [Value.cells] at hcs
    obtain ⟨rfl, rfl, rfl⟩ := hcs
    have hz2 : zs.length = cap0 := by simpa using hz
    unfold maxLen at hm
    refine ⟨(zs.take len0).map Int.toNat, ⟨by simp; omega, ?_, ?_⟩, hl, hm⟩
    · intro y hy
      obtain ⟨z, hz1, rfl⟩ := List.mem_map.1 hy
      have := wf_u32 (hwz z (List.mem_of_mem_take hz1))
      omega
    · intro hn
      have h1 := hcell 0 (by omega)
      obtain ⟨b, o, spot⟩ := x
      have hspot : spot = none := by simpa [Addr.add] using World.cell?_spot h1
      subst hspot
      refine ⟨b, o, rfl, fun i hi => ?_⟩
      have h2 := hcell i (by omega)
      have e : (⟨b, o, none⟩ : Addr).add i = ⟨b, o + i, none⟩ := by
        by_cases hi0 : i = 0
        · subst hi0; rfl
        · simp [Addr.add, hi0]
      rw [e] at h2
      rw [h2]
      have hlt : i < zs.length := by omega
      have hw := wf_u32 (hwz zs[i] (List.getElem_mem hlt))
      have e1 : zs.getD i 0 = zs[i] := by rw [List.getD_eq_getElem?_getD, List.getElem?_eq_getElem hlt]; rfl
      have e2 : ((zs.take len0).map Int.toNat).getD i 0 = zs[i].toNat := by
        rw [List.getD_eq_getElem?_getD, List.getElem?_map, List.getElem?_take_of_lt hi, List.getElem?_eq_getElem hlt]; rfl
      rw [e1, e2]
      congr 2
      omega
end Go.Proofs.Ytlihnagfmfpdcaa
/- What a row's argument of type api.Int is opened to. -/
namespace Go.Proofs.Ytlihnagfmfpdcaa
open Go.ChangeShapes Go.WideShapes Go.ChangeAt Go.RowKit
open Go.ChangeMaps (open_string shut_string)

theorem open_nums1 {H : Type} {enc : TypeId × Value → H} {W : World} {v : Value} {x : DataW H × List MemPlace} {f : Nat}
    (hf : DataW.trod enc Try.prog W 0 (fun _ => true) true f 23 [v] = some x) : ∃ a len cap xs, v = .slice a len cap ∧ Nums W a len xs ∧ len ≤ cap ∧ cap ≤ 9223372036854775807 := by
  rcases open_ints Try.underlying23 Try.underlying59 (by kernel_rfl) hf with ⟨hcs, _⟩ | ⟨y, l, c, zs, hcs, _⟩
  · injection hcs with hcs
    subst hcs
    exact ⟨none, 0, 0, [], rfl, Nums.nil _ _, by omega, by omega⟩
  · injection hcs with hcs
    subst hcs
    obtain ⟨xs, h1, h2, h3⟩ := open_nums (a0 := some y) (len0 := l) (cap0 := c) (d := x.1) (p := x.2) (W := W) (enc := enc) ⟨f, hf⟩
    exact ⟨some y, l, c, xs, rfl, h1, h2, h3⟩
set_option maxRecDepth 100000 in
theorem open_zint {H : Type} {enc : TypeId × Value → H} {W : World} {b : Nat} {v : Value} {d : DataW H} {p : List MemPlace} (hv : Value.okWide Try.prog W .any b 38 v)
    (h0 : DataW.Trod enc Try.prog W 0 (fun _ => true) true 38 v d p) : ∃ s a len cap xs, v = .agg #[.bool s, .slice a len cap] ∧ Nums W a len xs ∧ len ≤ cap ∧ cap ≤ 9223372036854775807 := by
  obtain ⟨v0, v1, y0, y1, n, rfl, -, -, t0, t1⟩ := Go.Joins.open_agg2 Try.underlying38 (by kernel_rfl) (by kernel_rfl) hv h0
  obtain ⟨s, e0, -⟩ := DataW.trod_bool Try.underlying4 t0
  injection e0 with e0
  subst e0
  obtain ⟨a, len, cap, xs, rfl, h1, h2, h3⟩ := open_nums1 t1
  exact ⟨s, a, len, cap, xs, rfl, h1, h2, h3⟩
end Go.Proofs.Ytlihnagfmfpdcaa
