/- Texts of one seat, put together: Put TMove. -/
import Derived.Test.YtdeakieenppmiaaGreatB29
set_option linter.unusedVariables false
/- term.Put, Without. -/
namespace Go.Proofs.YtdeakieenppmiaaGreat
open Go.RowKit Go.Maps
open Tm

set_option maxRecDepth 100000 in
set_option maxHeartbeats 2000000 in
theorem tput_any (v u : Value) (L M : List (Int × Int)) (K KM x : Int) (k ku : Nat) (w0 : World) (hv : TIn w0 v L K k) (hu : TIn w0 u M KM ku) (hx1 : -9223372036854775808 ≤ x) (hx2 : x ≤ 9223372036854775807) (hml : M.length ≤ 1000) (hl : L.length ≤ 1000) (hrg : ∀ p ∈ L, p.1 ≤ 9223372036854775807) (hk : k ≤ 100000000) (hku : ku ≤ 100000000) :
    Calls Tryz.prog 8 #[v, .int .i64 x, u] w0 (TPost (norm (putL [x] [(M, KM)] (norm L))) (K + putK [x] [(M, KM)] (norm L)) (k + ku + 1010000) w0) := by
  have hv0 := hv
  have hu0 := hu
  obtain ⟨A, n, c, s, B, m, d, rfl, -⟩ := hv
  obtain ⟨A2, n2, c2, s2, B2, m2, d2, rfl, -⟩ := hu
  obtain ⟨z0, z1, z2, z3, z4⟩ := bstart3 28 28 28 w0 #[.slice A n c, .bool s, .slice B m d] #[.slice A2 n2 c2, .bool s2, .slice B2 m2 d2] #[.slice none 0 0, .bool false, .slice none 0 0]
  have x0 := z0.c0
  have x1 := z0.c1
  have x2 := z0.c2
  have y0 := z1.c0
  have y1 := z1.c1
  have y2 := z1.c2
  go_enter Tryz.func8, Tryz.ntmps8
  generalize hW : (((w0.alloc (.cells #[.slice A n c, .bool s, .slice B m d] 28)).alloc (.cells #[.slice A2 n2 c2, .bool s2, .slice B2 m2 d2] 28)).alloc (.cells #[.slice none 0 0, .bool false, .slice none 0 0] 28)) = W0 at z0 z1 z2 z3 z4
  have a1 := bl_alloc W0 (.cells #[.int .i64 x] 3)
  have a2 := bl_alloc (W0.alloc (.cells #[.int .i64 x] 3)) (.cells #[.slice A2 n2 c2, .bool s2, .slice B2 m2 d2] 28)
  have hvi : IIn ((W0.alloc (.cells #[.int .i64 x] 3)).alloc (.cells #[.slice A2 n2 c2, .bool s2, .slice B2 m2 d2] 28)) (some ⟨W0.heap.size, 0, none⟩) 1 [x] :=
    IIn.below (w := W0.alloc (.cells #[.int .i64 x] 3)) ⟨rfl, fun _ => ⟨W0.heap.size, 0, rfl, fun j u hu => by rw [Nat.zero_add]; exact (Box.new 3 W0 #[.int .i64 x]).cell j u (by simpa [ints] using hu)⟩⟩ a2
  have hbt := Box.new 28 (W0.alloc (.cells #[.int .i64 x] 3)) #[.slice A2 n2 c2, .bool s2, .slice B2 m2 d2]
  rw [size_alloc] at hbt
  have hti := TermsIn.box (T := 28) (k := ku) (ts := [⟨A2, n2, c2, s2, B2, m2, d2, M, KM⟩]) hbt (fun t ht => by simp at ht; subst ht; exact (((hu0.below z3).below a1).below a2))
  have hpa := tputAll_any _ L K k (some ⟨W0.heap.size, 0, none⟩) 1 1 [x] (some ⟨W0.heap.size + 1, 0, none⟩) 1 1 [⟨A2, n2, c2, s2, B2, m2, d2, M, KM⟩] ku _ (((hv0.below z3).below a1).below a2) hvi (by omega) (fun y hy => by simp at hy; subst hy; exact ⟨hx1, hx2⟩) hti (by omega) (fun t ht => by simp at ht; subst ht; exact hml) hl hrg hk hku
  have HT := hide ((z3.next a1).next a2)
  have HR := hide ((z2.next a1).next a2)
  clear hv0 hu0 z0 z1 z2 z3 a1 a2 hvi hbt hti hrg
  subst hW
  simp only [size_alloc] at hpa
  go_wp2_with fail
  refine hpa.mono ?_
  rintro e w1 ⟨v1, rfl, r1, b1⟩
  obtain ⟨A3, n3, c3, s3, B3, m3, d3, rfl⟩ := r1.form
  have k1 := HR.out.next b1
  go_wp2_with (with_reducible refine wpList_store_t rfl _ _ rfl (w0.heap.size + 1 + 1) _ _ _ _ _ _ _ rfl rfl _ _ _ k1 ?_; intro w7 k7 ho7)
  refine bodyPost_t rfl rfl k7 rfl ?_
  exact ⟨_, rfl, r1.only k1 ho7, zback (HT.out.next b1) (by omega) ho7⟩
theorem coef_filter (L : List (Int × Int)) (x v : Int) : coef (L.filter fun p => decide (p.1 ≠ x)) v = if v = x then 0 else coef L v := by
  induction L with
  | nil => simp [coef]
  | cons p ps ih =>
    obtain ⟨u, c⟩ := p
    rw [List.filter_cons]
    by_cases h : u = x
    · rw [if_neg (by simp [h]), ih, coef]
      split
      · rfl
      · rw [if_neg (by omega), Int.zero_add]
    · rw [if_pos (by simp [h]), coef, ih, coef]
      by_cases h2 : v = x
      · rw [if_pos h2, if_pos h2, if_neg (by omega)]; rfl
      · rw [if_neg h2, if_neg h2]
theorem place_one (x u : Int) (M : List (Int × Int)) (KM : Int) : place [x] [(M, KM)] u = if x = u then (M, KM) else ([(u, 1)], 0) := by
  unfold place firstAt
  by_cases h : x = u
  · rw [if_pos h, if_pos h]; rfl
  · rw [if_neg h, if_neg h]; rfl
theorem coef_drop (x : Int) (P : List (Int × Int)) (v : Int) : coef (putL [x] [([], 0)] P) v = if v = x then 0 else coef P v := by
  induction P with
  | nil => simp [putL, coef]
  | cons p ps ih =>
    obtain ⟨u, c⟩ := p
    rw [putL, coef_append, ih, place_one, coef]
    by_cases h : x = u
    · rw [if_pos h]
      by_cases h2 : v = x
      · rw [if_pos h2, if_pos h2]; rfl
      · rw [if_neg h2, if_neg h2, if_neg (by omega)]; rfl
    · rw [if_neg h]
      simp only [List.map_cons, List.map_nil, coef, Int.mul_one, Int.add_zero]
      by_cases h2 : v = x
      · rw [if_pos h2, if_pos h2, if_neg (by omega)]; rfl
      · rw [if_neg h2, if_neg h2]
theorem putK_drop (x : Int) (P : List (Int × Int)) : putK [x] [([], 0)] P = 0 := by
  induction P with
  | nil => rfl
  | cons p ps ih =>
    rw [putK, ih, place_one]
    split <;> simp
/-- A list without a variable. -/
def without (L : List (Int × Int)) (x : Int) : List (Int × Int) := L.filter fun p => decide (p.1 ≠ x)
theorem without_put (L : List (Int × Int)) (x : Int) : norm (putL [x] [([], 0)] (norm L)) = norm (without L x) :=
  norm_same (fun v => by unfold without; rw [coef_drop, coef_filter, norm_coef])
end Go.Proofs.YtdeakieenppmiaaGreat
/- term.Move. -/
namespace Go.Proofs.YtdeakieenppmiaaGreat
open Go.RowKit
open Tm

def clamp (n : Int) : Int := if n < -2147483648 then -2147483648 else if 2147483647 < n then 2147483647 else n
theorem clamp_range (n : Int) : -2147483648 ≤ clamp n ∧ clamp n ≤ 2147483647 := by unfold clamp; split <;> (try split) <;> omega
def moved (sh : Int) (L : List (Int × Int)) : List (Int × Int) := (L.filter fun p => decide (0 ≤ p.1 + sh ∧ p.1 + sh ≤ 2147483647)).map fun p => (p.1 + sh, p.2)
theorem moved_take (sh : Int) (L : List (Int × Int)) (q : Nat) (u c : Int) (h : L[q]? = some (u, c)) : moved sh (L.take (q + 1)) = moved sh (L.take q) ++ (if 0 ≤ u + sh ∧ u + sh ≤ 2147483647 then [(u + sh, c)] else []) := by
  unfold moved
  rw [List.take_add_one, h, List.filter_append, List.map_append]
  by_cases hx : 0 ≤ u + sh ∧ u + sh ≤ 2147483647 <;> simp [hx]
set_option maxRecDepth 100000 in
set_option maxHeartbeats 8000000 in
theorem tmove_any (v : Value) (L : List (Int × Int)) (K x : Int) (k : Nat) (w0 : World) (hv : TIn w0 v L K k) (hx1 : -9223372036854775808 ≤ x) (hx2 : x ≤ 9223372036854775807) (hl : L.length ≤ 1000) (hrg : ∀ p ∈ L, p.1 ≤ 9223372036854775807) (hk : k ≤ 100000000) :
    Calls Tryz.prog 11 #[v, .int .i64 x] w0 (TPost (norm (moved (clamp x) (norm L))) K (k + 1010000) w0) := by
  obtain ⟨A, n, c, s, B, m, d, rfl, hp, hc1, hc2, hK⟩ := hv
  have hn := hp.len
  obtain ⟨z0, z1, z2, z3, z4⟩ := bstart3 28 28 28 w0 #[.slice A n c, .bool s, .slice B m d] #[.slice none 0 0, .bool false, .slice none 0 0] #[.slice none 0 0, .bool s, .slice B m d]
  have y1 := (Box.new 28 w0 #[.slice A n c, .bool s, .slice B m d]).alloc (.cells #[.slice none 0 0, .bool false, .slice none 0 0] 28)
  have x1 := y1.c1
  have x2 := y1.c2
  have x0 := z0.c0
  have hpl := plain_any A n c L k _ (hp.below z3) hc1 hc2 (by omega) (by omega)
  have hsh := clamp_range x
  obtain ⟨sh, hs⟩ : ∃ sh, sh = clamp x := ⟨_, rfl⟩
  rw [← hs] at hsh ⊢
  have HK := hide (hK.below z3)
  have HR := hide z1
  have HB := hide z2
  have HT := hide z3
  have HRG := hide (norm_range hrg)
  have HNL := hide (norm_length L)
  clear z0 z1 z2 z3 z4 y1 hp hK hrg
  have hmm : min (max x (-2147483648)) 2147483647 = sh := by rw [hs]; unfold clamp; split <;> (try split) <;> omega
  clear hs
  rw [hn] at hl
  have HN := hide hn
  clear hn
  go_enter Tryz.func11, Tryz.ntmps11
  go_wp2_with fail
  refine hpl.mono ?_
  rintro e W2 ⟨A1, n1, c1, rfl, p1, h11, h12, b1⟩
  have hn1 : n1 ≤ 1000 := by have := p1.len; have := HNL.out; have := HN.out; omega
  have HP1 := hide p1
  have HR2 := hide (HR.out.next b1)
  have HB2 := hide (HB.out.next b1)
  have HT2 := hide (HT.out.next b1)
  have HT2S := hide HT2.out.size
  have hw2 := hide (Box.lt HB2.out)
  have HS := hide (show PutRel W2 (w0.heap.size + 1 + 1) (moved sh ((norm L).take 0)) K (k + n) 0 W2 from
    ⟨[], none, 0, s, B, m, d, HB2.out, LRow.nil _ _ _ _, fun v => rfl, fun p hp => by simp at hp, (HK.out.below b1).mono (by omega), Only.refl _ _, Nat.le_refl _⟩)
  clear x0 x1 x2 hpl p1 b1
  go_wp2_with fail
  clear hmm
  go_loopw [20] (fun i wr => ∃ q : Nat, q ≤ n1 ∧ i = .int .i64 q ∧ Hid (PutRel W2 (w0.heap.size + 1 + 1) (moved sh ((norm L).take q)) K (k + n) q wr)) (fun i _ => n1 - (intOf i).toNat)
  case atStart => exact ⟨0, Nat.zero_le _, rfl, HS⟩
  case round =>
    obtain ⟨q, hq, rfl, HR⟩ := hrel
    obtain ⟨rs, A4, c4, s4, B4, m4, d4, xg, lr, hco, hrz, zK, oW, hrl⟩ := HR.out
    have hT : Below w0.heap.size w0 wr := HT2.out.trans (oW.below HT2.out.size (by omega))
    by_cases hqn : q < n1
    · obtain ⟨bb, o, p, rfl, hlt, hLp, c0, c1x, c2, hz⟩ := (HP1.out.keep oW (HB2.out.kp (nlT _ _ _ _ _ _ _) oW) (HP1.out.offTerm HB2.out)).at_ hqn
      have hpv := HRG.out _ (List.mem_of_getElem? hLp)
      dsimp only at hpv
      have HMT := hide (moved_take sh (norm L) q _ _ hLp)
      have hw1 : IntKind.i64.wrap (-sh) = -sh := IntWalk.i64_in _ (by omega)
      have hw2' : IntKind.i64.wrap (2147483647 - sh) = 2147483647 - sh := IntWalk.i64_in _ (by omega)
      have XG := hide xg
      have LR := hide lr
      have HRZ := hide hrz
      have ZK := hide zK
      have OW := hide oW
      have HZ := hide hz
      have HCO := hide hco
      have HRL := hide hrl
      by_cases hin : 0 ≤ p.v + sh ∧ p.v + sh ≤ 2147483647
      · have hw3 : IntKind.i64.wrap (p.v + sh) = p.v + sh := IntWalk.i64_in _ (by omega)
        have hi1 : -sh ≤ p.v := by omega
        have hi2 : p.v ≤ 2147483647 - sh := by omega
        obtain ⟨p2, hp2⟩ : ∃ p2 : PV, p2 = ⟨p.v + sh, p.s, p.B, p.m, p.d, p.Z⟩ := ⟨_, rfl⟩
        have hle : rs.length + 1 ≤ 1099511627776 := by omega
        have HE := hide (show ∀ (w2 : World) A2 c2, Box 28 w2 (w0.heap.size + 1 + 1) #[.slice A2 (rs ++ [p2]).length c2, .bool s4, .slice B4 m4 d4] → LRow 51 3 w2 W2.heap.size (.slice A2 (rs ++ [p2]).length c2) (rs ++ [p2]).length (flat (rs ++ [p2])) → (∀ p' ∈ rs ++ [p2], ZIn w2 p'.num p'.Z (k + n)) → ZIn w2 (.agg #[.bool s4, .slice B4 m4 d4]) K (k + n + q) → Only (w0.heap.size + 1 + 1) W2 w2 → PutRel W2 (w0.heap.size + 1 + 1) (moved sh ((norm L).take (q + 1))) K (k + n) (q + 1) w2 from fun w2 A2 c2 a1 a2 a3 a4 a5 => ⟨rs ++ [p2], A2, c2, s4, B4, m4, d4, a1, a2, fun v => by rw [HMT.out, if_pos hin, lin_append, coef_append, coef_append, HCO.out, hp2]; simp [lin, PV.part], a3, a4.mono (by omega), a5, by have := HRL.out; simp; omega⟩)
        have hsz : W2.heap.size ≤ ((wr.alloc (.cells #[.int .i64 p.v, .bool p.s, .slice p.B p.m p.d] 51)).alloc (.cells #[.int .i64 (p.v + sh), .bool p.s, .slice p.B p.m p.d] 51)).heap.size := by rw [size_alloc (w := wr.alloc _), size_alloc]; have := oW.size; omega
        have gx0 := xg.c0
        have gx1 := (xg.next (bl_alloc wr (.cells #[.int .i64 p.v, .bool p.s, .slice p.B p.m p.d] 51))).c0
        clear hco hrz zK oW hz hT HR hLp xg lr hrl
        subst hp2
        go_wp2_with (at_builtin; refine wpList_append_parts rfl _ _ rfl W2.heap.size _ rs rfl ((LR.out.below (bl_alloc _ _)).below (bl_alloc _ _)) _ 0 1 1 [⟨p.v + sh, p.s, p.B, p.m, p.d, p.Z⟩] rfl rfl (cells_newS _ (⟨p.v + sh, p.s, p.B, p.m, p.d, p.Z⟩ : PV) _ (by rw [size_alloc])) hle hsz ?_; intro v2 w2 l2 g2; obtain ⟨A2, c2, rfl, xA, kA, oA, xB, lB, kB, oB⟩ := put_app ((XG.out.next (bl_alloc _ _)).next (bl_alloc _ _)) ((LR.out.below (bl_alloc _ _)).below (bl_alloc _ _)) ((OW.out.next (bl_alloc _ _)).next (bl_alloc _ _)) l2 g2; have u0 := xA.c0; have u1 := xA.fr 0; have HE1 := hide (HE.out _ A2 c2 xB lB (fun p' hp' => by
              rcases List.mem_append.1 hp' with hp' | hp'
              · exact (((HRZ.out p' hp').below (bl_alloc _ _)).below (bl_alloc _ _)).kp kB
              · simp at hp'; subst hp'; exact (((HZ.out.mono (by omega)).below (bl_alloc _ _)).below (bl_alloc _ _)).kp kB) (((ZK.out.below (bl_alloc _ _)).below (bl_alloc _ _)).kp kB) oB); clear xA kA oA xB lB kB oB l2 g2)
        clear u0 u1 gx0 gx1
        simp only [List.length_append, List.length_cons, List.length_nil, Nat.zero_add] at HE1
        go_roundw
        case rel => exact ⟨q + 1, by omega, by go_num, HE1⟩
        case measure => simp [intOf] <;> omega
      · have HE1 := hide (show PutRel W2 (w0.heap.size + 1 + 1) (moved sh ((norm L).take (q + 1))) K (k + n) (q + 1) (wr.alloc (.cells #[.int .i64 p.v, .bool p.s, .slice p.B p.m p.d] 51)) from
          ⟨rs, A4, c4, s4, B4, m4, d4, xg.next (bl_alloc _ _), lr.below (bl_alloc _ _), fun v => by rw [HMT.out, if_neg hin, List.append_nil, HCO.out], fun p' hp' => (hrz p' hp').below (bl_alloc _ _), (zK.below (bl_alloc _ _)).mono (by omega), oW.next (bl_alloc _ _), by omega⟩)
        clear hco hrz zK oW hz hT HR hLp xg lr hrl
        by_cases hi1 : -sh ≤ p.v
        · have hi2 : ¬ p.v ≤ 2147483647 - sh := by omega
          go_wp2_with fail
          go_roundw
          case rel => exact ⟨q + 1, by omega, by go_num, HE1⟩
          case measure => simp [intOf] <;> omega
        · go_wp2_with fail
          go_roundw
          case rel => exact ⟨q + 1, by omega, by go_num, HE1⟩
          case measure => simp [intOf] <;> omega
    · obtain rfl : q = n1 := by omega
      have hall := List.take_of_length_le (l := norm L) (i := q) (by rw [HP1.out.len]; exact Nat.le_refl _)
      rw [hall] at hco
      have hin : PIn wr A4 rs.length (lin rs) (k + n + q) := ⟨rs, lr.parts rfl (fun p hp => (hrz p hp).mono (by omega)), rfl⟩
      obtain ⟨A', c', hv', h41, h42, -⟩ := lr.len
      injection hv' with e1' e2' e3'
      subst e1' e3'
      have hpl := tplain_any (.agg #[.slice A4 rs.length c4, .bool s4, .slice B4 m4 d4]) (lin rs) K (k + n + q) wr ⟨A4, rs.length, c4, s4, B4, m4, d4, rfl, hin, h41, h42, zK⟩ (by rw [hin.len]; omega) (by omega)
      have HLN := hide hin.len
      have HN2 := hide (show norm (lin rs) = norm (moved sh (norm L)) from norm_same hco)
      have hR : Box 28 wr (w0.heap.size + 1) #[.slice none 0 0, .bool false, .slice none 0 0] := HR2.out.other oW (by omega)
      have x0 := xg.c0
      have x1 := xg.c1
      have x2 := xg.c2
      have HTT := hide hT
      have HRR := hide hR
      clear hall hin hco zK hrz lr xg oW HR hT hR
      go_wp2_with fail
      refine hpl.mono ?_
      rintro e w5 ⟨v5, rfl, r5, b5⟩
      obtain ⟨A5, n5, c5, s5, B5, m5, d5, rfl⟩ := r5.form
      have k5 := HRR.out.next b5
      go_wp2_with (with_reducible refine wpList_store_t rfl _ _ rfl (w0.heap.size + 1) _ _ _ _ _ _ _ rfl rfl _ _ _ k5 ?_; intro w7 k7 ho7)
      refine bodyPost_t rfl rfl k7 rfl ?_
      refine TPost.mono ⟨_, rfl, ?_, zback (HTT.out.next b5) (by omega) ho7⟩ (show k + n + q + (lin rs).length ≤ _ by have := HLN.out; omega)
      rw [← HN2.out]
      exact r5.only k5 ho7
end Go.Proofs.YtdeakieenppmiaaGreat
