/- Texts of one seat, put together: TMove Putting. -/
import Derived.Test.YtakcgkohnomgjaaGreatDoorE38
import Derived.Test.YtakcgkohnomgjaaGreatDoorE27
import Derived.Test.YtakcgkohnomgjaaGreatDoorE23
import Derived.Test.YtakcgkohnomgjaaGreatDoorE26
import Derived.Test.YtakcgkohnomgjaaGreatDoorE28
set_option linter.unusedVariables false
set_option linter.unusedSimpArgs false
/- term.Move. -/
namespace Go.Proofs.YtakcgkohnomgjaaGreatDoor
open Go.RowKit
open Tm

def clamp (n : Int) : Int := if n < -2147483648 then -2147483648 else if 2147483647 < n then 2147483647 else n
theorem clamp_range (n : Int) : -2147483648 ≤ clamp n ∧ clamp n ≤ 2147483647 := by unfold clamp; split <;> (try split) <;> omega
def moved (sh : Int) (L : List (Int × Int)) : List (Int × Int) := (L.filter fun p => decide (0 ≤ p.1 + sh ∧ p.1 + sh ≤ 2147483647)).map fun p => (p.1 + sh, p.2)
theorem moved_take (sh : Int) (L : List (Int × Int)) (q : Nat) (u c : Int) (h : L[q]? = some (u, c)) : moved sh (L.take (q + 1)) = moved sh (L.take q) ++ (if 0 ≤ u + sh ∧ u + sh ≤ 2147483647 then [(u + sh, c)] else []) := by
  unfold moved
  rw [List.take_add_one, h, List.filter_append, List.map_append]
  by_cases hx : 0 ≤ u + sh ∧ u + sh ≤ 2147483647 <;> simp [hx]
set_option maxRecDepth 100000 in
set_option maxHeartbeats 8000000 in
theorem tmove_any (v : Value) (L : List (Int × Int)) (K x : Int) (k : Nat) (w0 : World) (hv : TIn w0 v L K k) (hx1 : -9223372036854775808 ≤ x) (hx2 : x ≤ 9223372036854775807) (hl : L.length ≤ 1000) (hrg : ∀ p ∈ L, p.1 ≤ 9223372036854775807) (hk : k ≤ 100000000) :
    Calls Tryz.prog 74 #[v, .int .i64 x] w0 (TPost (norm (moved (clamp x) (norm L))) K (k + 1010000) w0) := by
  obtain ⟨A, n, c, s, B, m, d, rfl, hp, hc1, hc2, hK⟩ := hv
  have hn := hp.len
  obtain ⟨z0, z1, z2, z3, z4⟩ := bstart3 28 28 28 w0 #[.slice A n c, .bool s, .slice B m d] #[.slice none 0 0, .bool false, .slice none 0 0] #[.slice none 0 0, .bool s, .slice B m d]
  have y1 := (Box.new 28 w0 #[.slice A n c, .bool s, .slice B m d]).alloc (.cells #[.slice none 0 0, .bool false, .slice none 0 0] 28)
  have x1 := y1.c1
  have x2 := y1.c2
  have x0 := z0.c0
  have hpl := plain_any A n c L k _ (hp.below z3) hc1 hc2 (by omega) (by omega)
  have hsh := clamp_range x
  obtain ⟨sh, hs⟩ : ∃ sh, sh = clamp x := ⟨_, rfl⟩
  rw [← hs] at hsh ⊢
  have HK := hide (hK.below z3)
  have HR := hide z1
  have HB := hide z2
  have HT := hide z3
  have HRG := hide (norm_range hrg)
  have HNL := hide (norm_length L)
  clear z0 z1 z2 z3 z4 y1 hp hK hrg
  have hmm : min (max x (-2147483648)) 2147483647 = sh := by rw [hs]; unfold clamp; split <;> (try split) <;> omega
  clear hs
  rw [hn] at hl
  have HN := hide hn
  clear hn
  go_enter Tryz.func74, Tryz.ntmps74
  go_wp2_with fail
  refine hpl.mono ?_
  rintro e W2 ⟨A1, n1, c1, rfl, p1, h11, h12, b1⟩
  have hn1 : n1 ≤ 1000 := by have := p1.len; have := HNL.out; have := HN.out; omega
  have HP1 := hide p1
  have HR2 := hide (HR.out.next b1)
  have HB2 := hide (HB.out.next b1)
  have HT2 := hide (HT.out.next b1)
  have HT2S := hide HT2.out.size
  have hw2 := hide (Box.lt HB2.out)
  have HS := hide (show PutRel W2 (w0.heap.size + 1 + 1) (moved sh ((norm L).take 0)) K (k + n) 0 W2 from
    ⟨[], none, 0, s, B, m, d, HB2.out, LRow.nil _ _ _ _, fun v => rfl, fun p hp => by simp at hp, (HK.out.below b1).mono (by omega), Only.refl _ _, Nat.le_refl _⟩)
  clear x0 x1 x2 hpl p1 b1
  go_wp2_with fail
  clear hmm
  go_loopw [20] (fun i wr => ∃ q : Nat, q ≤ n1 ∧ i = .int .i64 q ∧ Hid (PutRel W2 (w0.heap.size + 1 + 1) (moved sh ((norm L).take q)) K (k + n) q wr)) (fun i _ => n1 - (intOf i).toNat)
  case atStart => exact ⟨0, Nat.zero_le _, rfl, HS⟩
  case round =>
    obtain ⟨q, hq, rfl, HR⟩ := hrel
    obtain ⟨rs, A4, c4, s4, B4, m4, d4, xg, lr, hco, hrz, zK, oW, hrl⟩ := HR.out
    have hT : Below w0.heap.size w0 wr := HT2.out.trans (oW.below HT2.out.size (by omega))
    by_cases hqn : q < n1
    · obtain ⟨bb, o, p, rfl, hlt, hLp, c0, c1x, c2, hz⟩ := (HP1.out.keep oW (HB2.out.kp (nlT _ _ _ _ _ _ _) oW) (HP1.out.offTerm HB2.out)).at_ hqn
      have hpv := HRG.out _ (List.mem_of_getElem? hLp)
      dsimp only at hpv
      have HMT := hide (moved_take sh (norm L) q _ _ hLp)
      have hw1 : IntKind.i64.wrap (-sh) = -sh := IntWalk.i64_in _ (by omega)
      have hw2' : IntKind.i64.wrap (2147483647 - sh) = 2147483647 - sh := IntWalk.i64_in _ (by omega)
      have XG := hide xg
      have LR := hide lr
      have HRZ := hide hrz
      have ZK := hide zK
      have OW := hide oW
      have HZ := hide hz
      have HCO := hide hco
      have HRL := hide hrl
      by_cases hin : 0 ≤ p.v + sh ∧ p.v + sh ≤ 2147483647
      · have hw3 : IntKind.i64.wrap (p.v + sh) = p.v + sh := IntWalk.i64_in _ (by omega)
        have hi1 : -sh ≤ p.v := by omega
        have hi2 : p.v ≤ 2147483647 - sh := by omega
        obtain ⟨p2, hp2⟩ : ∃ p2 : PV, p2 = ⟨p.v + sh, p.s, p.B, p.m, p.d, p.Z⟩ := ⟨_, rfl⟩
        have hle : rs.length + 1 ≤ 1099511627776 := by omega
        have HE := hide (show ∀ (w2 : World) A2 c2, Box 28 w2 (w0.heap.size + 1 + 1) #[.slice A2 (rs ++ [p2]).length c2, .bool s4, .slice B4 m4 d4] → LRow 55 3 w2 W2.heap.size (.slice A2 (rs ++ [p2]).length c2) (rs ++ [p2]).length (flat (rs ++ [p2])) → (∀ p' ∈ rs ++ [p2], ZIn w2 p'.num p'.Z (k + n)) → ZIn w2 (.agg #[.bool s4, .slice B4 m4 d4]) K (k + n + q) → Only (w0.heap.size + 1 + 1) W2 w2 → PutRel W2 (w0.heap.size + 1 + 1) (moved sh ((norm L).take (q + 1))) K (k + n) (q + 1) w2 from fun w2 A2 c2 a1 a2 a3 a4 a5 => ⟨rs ++ [p2], A2, c2, s4, B4, m4, d4, a1, a2, fun v => by rw [HMT.out, if_pos hin, lin_append, coef_append, coef_append, HCO.out, hp2]; simp [lin, PV.part], a3, a4.mono (by omega), a5, by have := HRL.out; simp; omega⟩)
        have hsz : W2.heap.size ≤ ((wr.alloc (.cells #[.int .i64 p.v, .bool p.s, .slice p.B p.m p.d] 55)).alloc (.cells #[.int .i64 (p.v + sh), .bool p.s, .slice p.B p.m p.d] 55)).heap.size := by rw [size_alloc (w := wr.alloc _), size_alloc]; have := oW.size; omega
        have gx0 := xg.c0
        have gx1 := (xg.next (bl_alloc wr (.cells #[.int .i64 p.v, .bool p.s, .slice p.B p.m p.d] 55))).c0
        clear hco hrz zK oW hz hT HR hLp xg lr hrl
        subst hp2
        go_wp2_with (at_builtin; refine wpList_append_parts rfl _ _ rfl W2.heap.size _ rs rfl ((LR.out.below (bl_alloc _ _)).below (bl_alloc _ _)) _ 0 1 1 [⟨p.v + sh, p.s, p.B, p.m, p.d, p.Z⟩] rfl rfl (cells_newS _ (⟨p.v + sh, p.s, p.B, p.m, p.d, p.Z⟩ : PV) _ (by rw [size_alloc])) hle hsz ?_; intro v2 w2 l2 g2; obtain ⟨A2, c2, rfl, xA, kA, oA, xB, lB, kB, oB⟩ := put_app ((XG.out.next (bl_alloc _ _)).next (bl_alloc _ _)) ((LR.out.below (bl_alloc _ _)).below (bl_alloc _ _)) ((OW.out.next (bl_alloc _ _)).next (bl_alloc _ _)) l2 g2; have u0 := xA.c0; have u1 := xA.fr 0; have HE1 := hide (HE.out _ A2 c2 xB lB (fun p' hp' => by
              rcases List.mem_append.1 hp' with hp' | hp'
              · exact (((HRZ.out p' hp').below (bl_alloc _ _)).below (bl_alloc _ _)).kp kB
              · simp at hp'; subst hp'; exact (((HZ.out.mono (by omega)).below (bl_alloc _ _)).below (bl_alloc _ _)).kp kB) (((ZK.out.below (bl_alloc _ _)).below (bl_alloc _ _)).kp kB) oB); clear xA kA oA xB lB kB oB l2 g2)
        clear u0 u1 gx0 gx1
        simp only [List.length_append, List.length_cons, List.length_nil, Nat.zero_add] at HE1
        go_roundw
        case rel => exact ⟨q + 1, by omega, by go_num, HE1⟩
        case measure => simp [intOf] <;> omega
      · have HE1 := hide (show PutRel W2 (w0.heap.size + 1 + 1) (moved sh ((norm L).take (q + 1))) K (k + n) (q + 1) (wr.alloc (.cells #[.int .i64 p.v, .bool p.s, .slice p.B p.m p.d] 55)) from
          ⟨rs, A4, c4, s4, B4, m4, d4, xg.next (bl_alloc _ _), lr.below (bl_alloc _ _), fun v => by rw [HMT.out, if_neg hin, List.append_nil, HCO.out], fun p' hp' => (hrz p' hp').below (bl_alloc _ _), (zK.below (bl_alloc _ _)).mono (by omega), oW.next (bl_alloc _ _), by omega⟩)
        clear hco hrz zK oW hz hT HR hLp xg lr hrl
        by_cases hi1 : -sh ≤ p.v
        · have hi2 : ¬ p.v ≤ 2147483647 - sh := by omega
          go_wp2_with fail
          go_roundw
          case rel => exact ⟨q + 1, by omega, by go_num, HE1⟩
          case measure => simp [intOf] <;> omega
        · go_wp2_with fail
          go_roundw
          case rel => exact ⟨q + 1, by omega, by go_num, HE1⟩
          case measure => simp [intOf] <;> omega
    · obtain rfl : q = n1 := by omega
      have hall := List.take_of_length_le (l := norm L) (i := q) (by rw [HP1.out.len]; exact Nat.le_refl _)
      rw [hall] at hco
      have hin : PIn wr A4 rs.length (lin rs) (k + n + q) := ⟨rs, lr.parts rfl (fun p hp => (hrz p hp).mono (by omega)), rfl⟩
      obtain ⟨A', c', hv', h41, h42, -⟩ := lr.len
      injection hv' with e1' e2' e3'
      subst e1' e3'
      have hpl := tplain_any (.agg #[.slice A4 rs.length c4, .bool s4, .slice B4 m4 d4]) (lin rs) K (k + n + q) wr ⟨A4, rs.length, c4, s4, B4, m4, d4, rfl, hin, h41, h42, zK⟩ (by rw [hin.len]; omega) (by omega)
      have HLN := hide hin.len
      have HN2 := hide (show norm (lin rs) = norm (moved sh (norm L)) from norm_same hco)
      have hR : Box 28 wr (w0.heap.size + 1) #[.slice none 0 0, .bool false, .slice none 0 0] := HR2.out.other oW (by omega)
      have x0 := xg.c0
      have x1 := xg.c1
      have x2 := xg.c2
      have HTT := hide hT
      have HRR := hide hR
      clear hall hin hco zK hrz lr xg oW HR hT hR
      go_wp2_with fail
      refine hpl.mono ?_
      rintro e w5 ⟨v5, rfl, r5, b5⟩
      obtain ⟨A5, n5, c5, s5, B5, m5, d5, rfl⟩ := r5.form
      have k5 := HRR.out.next b5
      go_wp2_with (with_reducible refine wpList_store_t rfl _ _ rfl (w0.heap.size + 1) _ _ _ _ _ _ _ rfl rfl _ _ _ k5 ?_; intro w7 k7 ho7)
      refine bodyPost_t rfl rfl k7 rfl ?_
      refine TPost.mono ⟨_, rfl, ?_, zback (HTT.out.next b5) (by omega) ho7⟩ (show k + n + q + (lin rs).length ≤ _ by have := HLN.out; omega)
      rw [← HN2.out]
      exact r5.only k5 ho7
end Go.Proofs.YtakcgkohnomgjaaGreatDoor
/- plumblinelaw03.putting: the calls that put are alive. -/
namespace Go.Proofs.YtakcgkohnomgjaaGreatDoor
open Go.RowKit
open Tm

theorem TermsIn.two {w : World} {g n1 c1 m1 d1 n2 c2 m2 d2 k : Nat} {s1 s2 : Bool} {A1 B1 A2 B2 : Option Addr} {L M : List (Int × Int)} {K J : Int} (x : Box 28 w g #[.slice A1 n1 c1, .bool s1, .slice B1 m1 d1, .slice A2 n2 c2, .bool s2, .slice B2 m2 d2])
    (h1 : TRes w (.agg #[.slice A1 n1 c1, .bool s1, .slice B1 m1 d1]) L K k) (h2 : TRes w (.agg #[.slice A2 n2 c2, .bool s2, .slice B2 m2 d2]) M J k) :
    TermsIn w (some ⟨g, 0, none⟩) 2 [⟨A1, n1, c1, s1, B1, m1, d1, L, K⟩, ⟨A2, n2, c2, s2, B2, m2, d2, M, J⟩] k :=
  TermsIn.box (ts := [⟨A1, n1, c1, s1, B1, m1, d1, L, K⟩, ⟨A2, n2, c2, s2, B2, m2, d2, M, J⟩]) x (fun t ht => by
    simp only [List.mem_cons, List.not_mem_nil, or_false] at ht
    rcases ht with rfl | rfl
    · exact h1.in_
    · exact h2.in_)
set_option maxRecDepth 100000 in
set_option maxHeartbeats 16000000 in
theorem putting_yes (w0 : World) : Calls Tryz.prog 39 #[] w0 (YesPost w0) := by
  go_enter Tryz.func39, Tryz.ntmps39
  go_wp2_with fail
  refine (tvar_any 1 _).mono ?_
  rintro e w1 ⟨v1, rfl, r1, b1⟩
  go_wp2_with fail
  refine (rof_z 1 _ (by decide) (by decide)).mono ?_
  rintro e w2 ⟨v2, rfl, r2, b2⟩
  have hnm := number_t v2 1 2 w2 r2.in_ (by decide)
  have HR1 := hide (r1.below b2)
  have HB2 := hide (b1.next b2)
  clear r1 r2 b1 b2
  go_wp2_with fail
  refine hnm.mono ?_
  rintro e w3 ⟨v3, rfl, r3, b3⟩
  have hsb := tsub_any v1 v3 (norm [(1, 1)]) [] 0 1 3 w3 (HR1.out.below b3).in_ (r3.in_.mono (by decide)) (by decide +kernel) (by decide) (by decide)
  have HB3 := hide (HB2.out.next b3)
  clear hnm r3 b3
  go_wp2_with fail
  refine hsb.mono ?_
  rintro e w4 ⟨v4, rfl, r4, b4⟩
  obtain ⟨At, nt, ct, st, Bt, mt, dt, rfl⟩ := r4.form
  obtain ⟨q0, a1, -⟩ := bstart1 28 w4 #[.slice At nt ct, .bool st, .slice Bt mt dt]
  obtain ⟨ky, hky, HY0⟩ : ∃ ky, ky ≤ 100 ∧ TRes (w4.alloc (.cells #[.slice At nt ct, .bool st, .slice Bt mt dt] 28)) (.agg #[.slice At nt ct, .bool st, .slice Bt mt dt]) [(1, 1)] (-1) ky := ⟨_, by decide +kernel, TRes.ofEq (r4.below a1) (by decide +kernel) (by decide)⟩
  have HY := hide HY0
  have HB5 := hide ((HB3.out.next b4).next a1)
  have Q0 := hide q0
  clear hsb r4 b4 HY0 q0 a1
  go_wp2_with fail
  generalize hW5 : w4.alloc (.cells #[.slice At nt ct, .bool st, .slice Bt mt dt] 28) = W5 at *
  clear hW5
  have SOF := hide (show ∀ W, Below W5.heap.size W5 W → (W.cell? ⟨w4.heap.size, 0, none⟩ = some (.slice At nt ct) ∧ W.cell? ⟨w4.heap.size, 1, none⟩ = some (.bool st) ∧ W.cell? ⟨w4.heap.size, 2, none⟩ = some (.slice Bt mt dt)) from fun W h => ⟨(Q0.out.next h).c0, (Q0.out.next h).c1, (Q0.out.next h).c2⟩)
  refine wp_drawn (by kernel_rfl) (by kernel_rfl) (by kernel_rfl) (fun w w' => Below w.heap.size w w') (fun j v w => match j with | 0 => ∃ g, v = .slice (some ⟨g, 0, none⟩) 1 1 ∧ Box 2 w g (ints [2]).toArray | 1 => TRes w v (ofs [2]) 3 2 | 2 => v = .agg #[.slice At nt ct, .bool st, .slice Bt mt dt] | 3 => TRes w v [(1, 2)] 1 (2 + ky + 1010000) | 4 => ∃ g, v = .slice (some ⟨g, 0, none⟩) 2 2 ∧ Box 2 w g (ints [0, 2]).toArray | 5 => TRes w v (ofs [0, 2]) 1 2 | 6 => TRes w v [(1, 2)] 1 4 | 7 => v = .bool true | 8 => v = .bool true | 9 => ∃ g, v = .slice (some ⟨g, 0, none⟩) 2 2 ∧ Box 2 w g (ints [1, 1]).toArray | 10 => TRes w v (ofs [1, 1]) 0 2 | 11 => ∃ g, v = .slice (some ⟨g, 0, none⟩) 2 2 ∧ Box 3 w g (ints [0, 1]).toArray | 12 => TRes w v [(1, 1)] 0 3 | 13 => TRes w v [(0, 1)] 0 3 | 14 => ∃ g A1 n1 c1 s1 B1 m1 d1 A2 n2 c2 s2 B2 m2 d2, v = .slice (some ⟨g, 0, none⟩) 2 2 ∧ Box 28 w g #[.slice A1 n1 c1, .bool s1, .slice B1 m1 d1, .slice A2 n2 c2, .bool s2, .slice B2 m2 d2] ∧ TRes w (.agg #[.slice A1 n1 c1, .bool s1, .slice B1 m1 d1]) [(1, 1)] 0 3 ∧ TRes w (.agg #[.slice A2 n2 c2, .bool s2, .slice B2 m2 d2]) [(0, 1)] 0 3 | 15 => TRes w v [(0, 1), (1, 1)] 0 1010005 | 16 => ∃ g, v = .slice (some ⟨g, 0, none⟩) 2 2 ∧ Box 2 w g (ints [1, 1]).toArray | 17 => TRes w v [(0, 1), (1, 1)] 0 2 | 18 => v = .bool true | 19 => v = .bool true | 20 => v = .bool true | 21 => ∃ g, v = .slice (some ⟨g, 0, none⟩) 1 1 ∧ Box 2 w g (ints [1]).toArray | 22 => TRes w v (ofs [1]) 0 2 | 23 => TRes w v [(1, 1)] 0 1010002 | 24 => ∃ g, v = .slice (some ⟨g, 0, none⟩) 2 2 ∧ Box 2 w g (ints [0, 1]).toArray | 25 => TRes w v (ofs [0, 1]) 0 2 | 26 => TRes w v [(1, 1)] 0 4 | 27 => v = .bool true | 28 => v = .bool true | 29 => v = .bool true | _ => True) (fun _ _ w => Below W5.heap.size W5 w) ?_ (fun _ => bl_drewN W5 1) ?_ ?_
  · intro j v w w' hT h
    match j, h with
    | 0, h => exact (by obtain ⟨g, e, h1⟩ := h; exact ⟨g, e, h1.next hT⟩)
    | 1, h => exact h.below hT
    | 2, h => exact h
    | 3, h => exact h.below hT
    | 4, h => exact (by obtain ⟨g, e, h1⟩ := h; exact ⟨g, e, h1.next hT⟩)
    | 5, h => exact h.below hT
    | 6, h => exact h.below hT
    | 7, h => exact h
    | 8, h => exact h
    | 9, h => exact (by obtain ⟨g, e, h1⟩ := h; exact ⟨g, e, h1.next hT⟩)
    | 10, h => exact h.below hT
    | 11, h => exact (by obtain ⟨g, e, h1⟩ := h; exact ⟨g, e, h1.next hT⟩)
    | 12, h => exact h.below hT
    | 13, h => exact h.below hT
    | 14, h => exact (by obtain ⟨g, A1, n1, c1, s1, B1, m1, d1, A2, n2, c2, s2, B2, m2, d2, e, h1, h2, h3⟩ := h; exact ⟨g, A1, n1, c1, s1, B1, m1, d1, A2, n2, c2, s2, B2, m2, d2, e, h1.next hT, h2.below hT, h3.below hT⟩)
    | 15, h => exact h.below hT
    | 16, h => exact (by obtain ⟨g, e, h1⟩ := h; exact ⟨g, e, h1.next hT⟩)
    | 17, h => exact h.below hT
    | 18, h => exact h
    | 19, h => exact h
    | 20, h => exact h
    | 21, h => exact (by obtain ⟨g, e, h1⟩ := h; exact ⟨g, e, h1.next hT⟩)
    | 22, h => exact h.below hT
    | 23, h => exact h.below hT
    | 24, h => exact (by obtain ⟨g, e, h1⟩ := h; exact ⟨g, e, h1.next hT⟩)
    | 25, h => exact h.below hT
    | 26, h => exact h.below hT
    | 27, h => exact h
    | 28, h => exact h
    | 29, h => exact h
    | j + 30, h => trivial
  · refine ⟨?_, ?_, ?_, ?_, ?_, ?_, ?_, ?_, ?_, ?_, ?_, ?_, ?_, ?_, ?_, ?_, ?_, ?_, ?_, ?_, ?_, ?_, ?_, ?_, ?_, ?_, ?_, ?_, ?_, ?_, trivial⟩
    · intro listed σ w a hin hout hl hc hp hG hF
      refine Guarded.none rfl ?_
      refine Does.val (.slice (some ⟨w.heap.size, 0, none⟩) 1 1) (w' := w.alloc (.cells #[.int .i64 2] 2)) ?_ ⟨bl_alloc w _, ⟨w.heap.size, rfl, Box.new _ _ _⟩, hG.next (bl_alloc w _)⟩
      go_simp
    · intro listed σ w a hin hout hl hc hp hG hF
      refine Guarded.none rfl ?_
      have e6 := hin 0 6 rfl (hp ⟨0, .data⟩ (by simp) rfl)
      obtain ⟨g0, ev0, x0⟩ := hF 0 (hp ⟨0, .data⟩ (by simp) rfl)
      rw [ev0] at e6
      refine Does.call ?_ (lof_any 3 (some ⟨g0, 0, none⟩) 1 1 [2] w x0.ints (by decide) (by decide) (by decide) (by decide)) ?_
      · go_simp
      · rintro e w' ⟨v, rfl, z, hb⟩
        exact ⟨_, rfl, hb, z, hG.next hb⟩
    · intro listed σ w a hin hout hl hc hp hG hF
      refine Guarded.none rfl ?_
      have e1 : a.tmps.getD 1 undef = .pointer (some ⟨w4.heap.size, 0, none⟩) := hout 1 (outB_spec (by kernel_rfl))
      have CC := SOF.out w hG; obtain ⟨C0, C1, C2⟩ := CC
      refine Does.val (.agg #[.slice At nt ct, .bool st, .slice Bt mt dt]) (w' := w) ?_ ⟨Below.refl _ _, rfl, hG⟩
      go_simp
    · intro listed σ w a hin hout hl hc hp hG hF
      refine Guarded.none rfl ?_
      have e7 := hin 1 7 rfl (hp ⟨1, .data⟩ (by simp) rfl)
      have z1 := hF 1 (hp ⟨1, .data⟩ (by simp) rfl)
      have e8 : a.tmps.getD 8 undef = .agg #[.slice At nt ct, .bool st, .slice Bt mt dt] := (hin 2 8 rfl (hp ⟨2, .data⟩ (by simp) rfl)).trans (hF 2 (hp ⟨2, .data⟩ (by simp) rfl))
      refine Does.call ?_ (tput_any _ _ (ofs [2]) [(1, 1)] 3 (-1) 0 2 ky w z1.in_ (HY.out.below hG).in_ (by decide) (by decide) (by decide) (by decide) (by decide) (by decide) (by omega)) ?_
      · go_simp
      · rintro e w' ⟨v, rfl, z, hb⟩
        exact ⟨_, rfl, hb, (TRes.ofEq z (by decide +kernel) (by decide +kernel)), hG.next hb⟩
    · intro listed σ w a hin hout hl hc hp hG hF
      refine Guarded.none rfl ?_
      refine Does.val (.slice (some ⟨w.heap.size, 0, none⟩) 2 2) (w' := w.alloc (.cells #[.int .i64 0, .int .i64 2] 2)) ?_ ⟨bl_alloc w _, ⟨w.heap.size, rfl, Box.new _ _ _⟩, hG.next (bl_alloc w _)⟩
      go_simp
    · intro listed σ w a hin hout hl hc hp hG hF
      refine Guarded.none rfl ?_
      have e10 := hin 4 10 rfl (hp ⟨4, .data⟩ (by simp) rfl)
      obtain ⟨g4, ev4, x4⟩ := hF 4 (hp ⟨4, .data⟩ (by simp) rfl)
      rw [ev4] at e10
      refine Does.call ?_ (lof_any 1 (some ⟨g4, 0, none⟩) 2 2 [0, 2] w x4.ints (by decide) (by decide) (by decide) (by decide)) ?_
      · go_simp
      · rintro e w' ⟨v, rfl, z, hb⟩
        exact ⟨_, rfl, hb, z, hG.next hb⟩
    · intro listed σ w a hin hout hl hc hp hG hF
      refine Guarded.none rfl ?_
      have e11 := hin 5 11 rfl (hp ⟨5, .data⟩ (by simp) rfl)
      have z5 := hF 5 (hp ⟨5, .data⟩ (by simp) rfl)
      refine Does.call ?_ (rplain_any _ (ofs [0, 2]) 1 2 w z5.in_ (by decide) (by decide)) ?_
      · go_simp
      · rintro e w' ⟨v, rfl, z, hb⟩
        exact ⟨_, rfl, hb, (TRes.ofEq z (by decide +kernel) (rfl)), hG.next hb⟩
    · intro listed σ w a hin hout hl hc hp hG hF
      refine Guarded.none rfl ?_
      have e9 := hin 3 9 rfl (hp ⟨3, .data⟩ (by simp) rfl)
      have z3 := hF 3 (hp ⟨3, .data⟩ (by simp) rfl)
      have e12 := hin 6 12 rfl (hp ⟨6, .data⟩ (by simp) rfl)
      have z6 := hF 6 (hp ⟨6, .data⟩ (by simp) rfl)
      refine Does.call ?_ (rtsame_yes _ _ [(1, 2)] 1 (2 + ky + 1010000) 4 w z3 z6 (by decide)) ?_
      · go_simp
      · rintro e w' ⟨rfl, hb⟩
        exact ⟨_, rfl, hb, rfl, hG.next hb⟩
    · intro listed σ w a hin hout hl hc hp hG hF
      refine Guarded.none rfl ?_
      have e13 : a.tmps.getD 13 undef = .bool true := (hin 7 13 rfl (hp ⟨7, .data⟩ (by simp) rfl)).trans (hF 7 (hp ⟨7, .data⟩ (by simp) rfl))
      refine Does.val (.bool true) (w' := w) ?_ ⟨Below.refl _ _, rfl, hG⟩
      simp only [Array.getD_eq_getD_getElem?] at e13
      go_simp
    · intro listed σ w a hin hout hl hc hp hG hF
      refine Guarded.some (d := 14) (b := true) rfl rfl ((hin 8 14 rfl (hp ⟨8, .guard⟩ (by simp) rfl)).trans (hF 8 (hp ⟨8, .guard⟩ (by simp) rfl))) ?_
      refine Or.inl ⟨rfl, ?_⟩
      refine Does.val (.slice (some ⟨w.heap.size, 0, none⟩) 2 2) (w' := w.alloc (.cells #[.int .i64 1, .int .i64 1] 2)) ?_ ⟨bl_alloc w _, ⟨w.heap.size, rfl, Box.new _ _ _⟩, hG.next (bl_alloc w _)⟩
      go_simp
    · intro listed σ w a hin hout hl hc hp hG hF
      refine Guarded.some (d := 14) (b := true) rfl rfl ((hin 8 14 rfl (hp ⟨8, .guard⟩ (by simp) rfl)).trans (hF 8 (hp ⟨8, .guard⟩ (by simp) rfl))) ?_
      refine Or.inl ⟨rfl, ?_⟩
      have e15 := hin 9 15 rfl (hp ⟨9, .data⟩ (by simp) rfl)
      obtain ⟨g9, ev9, x9⟩ := hF 9 (hp ⟨9, .data⟩ (by simp) rfl)
      rw [ev9] at e15
      refine Does.call ?_ (lof_any 0 (some ⟨g9, 0, none⟩) 2 2 [1, 1] w x9.ints (by decide) (by decide) (by decide) (by decide)) ?_
      · go_simp
      · rintro e w' ⟨v, rfl, z, hb⟩
        exact ⟨_, rfl, hb, z, hG.next hb⟩
    · intro listed σ w a hin hout hl hc hp hG hF
      refine Guarded.some (d := 14) (b := true) rfl rfl ((hin 8 14 rfl (hp ⟨8, .guard⟩ (by simp) rfl)).trans (hF 8 (hp ⟨8, .guard⟩ (by simp) rfl))) ?_
      refine Or.inl ⟨rfl, ?_⟩
      refine Does.val (.slice (some ⟨w.heap.size, 0, none⟩) 2 2) (w' := w.alloc (.cells #[.int .i64 0, .int .i64 1] 3)) ?_ ⟨bl_alloc w _, ⟨w.heap.size, rfl, Box.new _ _ _⟩, hG.next (bl_alloc w _)⟩
      go_simp
    · intro listed σ w a hin hout hl hc hp hG hF
      refine Guarded.some (d := 14) (b := true) rfl rfl ((hin 8 14 rfl (hp ⟨8, .guard⟩ (by simp) rfl)).trans (hF 8 (hp ⟨8, .guard⟩ (by simp) rfl))) ?_
      refine Or.inl ⟨rfl, ?_⟩
      refine Does.call ?_ (tvar_any 1 w) ?_
      · go_simp
      · rintro e w' ⟨v, rfl, z, hb⟩
        exact ⟨_, rfl, hb, (TRes.ofEq z (by decide +kernel) (rfl)), hG.next hb⟩
    · intro listed σ w a hin hout hl hc hp hG hF
      refine Guarded.some (d := 14) (b := true) rfl rfl ((hin 8 14 rfl (hp ⟨8, .guard⟩ (by simp) rfl)).trans (hF 8 (hp ⟨8, .guard⟩ (by simp) rfl))) ?_
      refine Or.inl ⟨rfl, ?_⟩
      refine Does.call ?_ (tvar_any 0 w) ?_
      · go_simp
      · rintro e w' ⟨v, rfl, z, hb⟩
        exact ⟨_, rfl, hb, (TRes.ofEq z (by decide +kernel) (rfl)), hG.next hb⟩
    · intro listed σ w a hin hout hl hc hp hG hF
      refine Guarded.some (d := 14) (b := true) rfl rfl ((hin 8 14 rfl (hp ⟨8, .guard⟩ (by simp) rfl)).trans (hF 8 (hp ⟨8, .guard⟩ (by simp) rfl))) ?_
      refine Or.inl ⟨rfl, ?_⟩
      have e18 := hin 12 18 rfl (hp ⟨12, .data⟩ (by simp) rfl)
      have z12 := hF 12 (hp ⟨12, .data⟩ (by simp) rfl)
      have e19 := hin 13 19 rfl (hp ⟨13, .data⟩ (by simp) rfl)
      have z13 := hF 13 (hp ⟨13, .data⟩ (by simp) rfl)
      obtain ⟨A1, n1, c1, s1, B1, m1, d1, ev1⟩ := TRes.form z12
      obtain ⟨A2, n2, c2, s2, B2, m2, d2, ev2⟩ := TRes.form z13
      rw [ev1] at e18 z12
      rw [ev2] at e19 z13
      refine Does.val (.slice (some ⟨w.heap.size, 0, none⟩) 2 2) (w' := w.alloc (.cells #[.slice A1 n1 c1, .bool s1, .slice B1 m1 d1, .slice A2 n2 c2, .bool s2, .slice B2 m2 d2] 28)) ?_ ⟨bl_alloc w _, ⟨w.heap.size, A1, n1, c1, s1, B1, m1, d1, A2, n2, c2, s2, B2, m2, d2, rfl, Box.new _ _ _, z12.below (bl_alloc w _), z13.below (bl_alloc w _)⟩, hG.next (bl_alloc w _)⟩
      simp only [Array.getD_eq_getD_getElem?] at e18 e19
      go_simp
    · intro listed σ w a hin hout hl hc hp hG hF
      refine Guarded.some (d := 14) (b := true) rfl rfl ((hin 8 14 rfl (hp ⟨8, .guard⟩ (by simp) rfl)).trans (hF 8 (hp ⟨8, .guard⟩ (by simp) rfl))) ?_
      refine Or.inl ⟨rfl, ?_⟩
      have e16 := hin 10 16 rfl (hp ⟨10, .data⟩ (by simp) rfl)
      have z10 := hF 10 (hp ⟨10, .data⟩ (by simp) rfl)
      have e17 := hin 11 17 rfl (hp ⟨11, .data⟩ (by simp) rfl)
      obtain ⟨g11, ev11, x11⟩ := hF 11 (hp ⟨11, .data⟩ (by simp) rfl)
      rw [ev11] at e17
      have e20 := hin 14 20 rfl (hp ⟨14, .data⟩ (by simp) rfl)
      obtain ⟨g14, A1, n1, c1, s1, B1, m1, d1, A2, n2, c2, s2, B2, m2, d2, ev14, x14, za14, zb14⟩ := hF 14 (hp ⟨14, .data⟩ (by simp) rfl)
      rw [ev14] at e20
      refine Does.call ?_ (tputAll_any _ (ofs [1, 1]) 0 2 (some ⟨g11, 0, none⟩) 2 2 [0, 1] (some ⟨g14, 0, none⟩) 2 2 [⟨A1, n1, c1, s1, B1, m1, d1, [(1, 1)], 0⟩, ⟨A2, n2, c2, s2, B2, m2, d2, [(0, 1)], 0⟩] 3 w z10.in_ x11.ints (by decide) (by decide) (TermsIn.two x14 za14 zb14) (by decide) (fun t ht => by simp only [List.mem_cons, List.not_mem_nil, or_false] at ht; rcases ht with rfl | rfl <;> exact (by decide : (1 : Nat) ≤ 1000)) (by decide) (by decide) (by decide) (by decide)) ?_
      · go_simp
      · rintro e w' ⟨v, rfl, z, hb⟩
        exact ⟨_, rfl, hb, (TRes.ofEq (show TRes _ _ (norm (putL [0, 1] [([(1, 1)], 0), ([(0, 1)], 0)] (norm (ofs [1, 1])))) (0 + putK [0, 1] [([(1, 1)], 0), ([(0, 1)], 0)] (norm (ofs [1, 1]))) 1010005 from z) (by decide +kernel) (by decide +kernel)), hG.next hb⟩
    · intro listed σ w a hin hout hl hc hp hG hF
      refine Guarded.some (d := 14) (b := true) rfl rfl ((hin 8 14 rfl (hp ⟨8, .guard⟩ (by simp) rfl)).trans (hF 8 (hp ⟨8, .guard⟩ (by simp) rfl))) ?_
      refine Or.inl ⟨rfl, ?_⟩
      refine Does.val (.slice (some ⟨w.heap.size, 0, none⟩) 2 2) (w' := w.alloc (.cells #[.int .i64 1, .int .i64 1] 2)) ?_ ⟨bl_alloc w _, ⟨w.heap.size, rfl, Box.new _ _ _⟩, hG.next (bl_alloc w _)⟩
      go_simp
    · intro listed σ w a hin hout hl hc hp hG hF
      refine Guarded.some (d := 14) (b := true) rfl rfl ((hin 8 14 rfl (hp ⟨8, .guard⟩ (by simp) rfl)).trans (hF 8 (hp ⟨8, .guard⟩ (by simp) rfl))) ?_
      refine Or.inl ⟨rfl, ?_⟩
      have e22 := hin 16 22 rfl (hp ⟨16, .data⟩ (by simp) rfl)
      obtain ⟨g16, ev16, x16⟩ := hF 16 (hp ⟨16, .data⟩ (by simp) rfl)
      rw [ev16] at e22
      refine Does.call ?_ (lof_any 0 (some ⟨g16, 0, none⟩) 2 2 [1, 1] w x16.ints (by decide) (by decide) (by decide) (by decide)) ?_
      · go_simp
      · rintro e w' ⟨v, rfl, z, hb⟩
        exact ⟨_, rfl, hb, (TRes.ofEq z (by decide) rfl), hG.next hb⟩
    · intro listed σ w a hin hout hl hc hp hG hF
      refine Guarded.some (d := 14) (b := true) rfl rfl ((hin 8 14 rfl (hp ⟨8, .guard⟩ (by simp) rfl)).trans (hF 8 (hp ⟨8, .guard⟩ (by simp) rfl))) ?_
      refine Or.inl ⟨rfl, ?_⟩
      have e21 := hin 15 21 rfl (hp ⟨15, .data⟩ (by simp) rfl)
      have z15 := hF 15 (hp ⟨15, .data⟩ (by simp) rfl)
      have e23 := hin 17 23 rfl (hp ⟨17, .data⟩ (by simp) rfl)
      have z17 := hF 17 (hp ⟨17, .data⟩ (by simp) rfl)
      refine Does.call ?_ (rtsame_yes _ _ [(0, 1), (1, 1)] 0 1010005 2 w z15 z17 (by decide)) ?_
      · go_simp
      · rintro e w' ⟨rfl, hb⟩
        exact ⟨_, rfl, hb, rfl, hG.next hb⟩
    · intro listed σ w a hin hout hl hc hp hG hF
      refine Guarded.none rfl ?_
      have e14 : a.tmps.getD 14 undef = .bool true := (hin 8 14 rfl (hp ⟨8, .data⟩ (by simp) rfl)).trans (hF 8 (hp ⟨8, .data⟩ (by simp) rfl))
      have e24 : a.tmps.getD 24 undef = .bool true := (hin 18 24 rfl (hp ⟨18, .data⟩ (by simp) rfl)).trans (hF 18 (hp ⟨18, .data⟩ (by simp) rfl))
      refine Does.val (.bool true) (w' := w) ?_ ⟨Below.refl _ _, rfl, hG⟩
      simp only [Array.getD_eq_getD_getElem?] at e14 e24
      go_simp
    · intro listed σ w a hin hout hl hc hp hG hF
      refine Guarded.none rfl ?_
      have e25 : a.tmps.getD 25 undef = .bool true := (hin 19 25 rfl (hp ⟨19, .data⟩ (by simp) rfl)).trans (hF 19 (hp ⟨19, .data⟩ (by simp) rfl))
      refine Does.val (.bool true) (w' := w) ?_ ⟨Below.refl _ _, rfl, hG⟩
      simp only [Array.getD_eq_getD_getElem?] at e25
      go_simp
    · intro listed σ w a hin hout hl hc hp hG hF
      refine Guarded.some (d := 26) (b := true) rfl rfl ((hin 20 26 rfl (hp ⟨20, .guard⟩ (by simp) rfl)).trans (hF 20 (hp ⟨20, .guard⟩ (by simp) rfl))) ?_
      refine Or.inl ⟨rfl, ?_⟩
      refine Does.val (.slice (some ⟨w.heap.size, 0, none⟩) 1 1) (w' := w.alloc (.cells #[.int .i64 1] 2)) ?_ ⟨bl_alloc w _, ⟨w.heap.size, rfl, Box.new _ _ _⟩, hG.next (bl_alloc w _)⟩
      go_simp
    · intro listed σ w a hin hout hl hc hp hG hF
      refine Guarded.some (d := 26) (b := true) rfl rfl ((hin 20 26 rfl (hp ⟨20, .guard⟩ (by simp) rfl)).trans (hF 20 (hp ⟨20, .guard⟩ (by simp) rfl))) ?_
      refine Or.inl ⟨rfl, ?_⟩
      have e27 := hin 21 27 rfl (hp ⟨21, .data⟩ (by simp) rfl)
      obtain ⟨g21, ev21, x21⟩ := hF 21 (hp ⟨21, .data⟩ (by simp) rfl)
      rw [ev21] at e27
      refine Does.call ?_ (lof_any 0 (some ⟨g21, 0, none⟩) 1 1 [1] w x21.ints (by decide) (by decide) (by decide) (by decide)) ?_
      · go_simp
      · rintro e w' ⟨v, rfl, z, hb⟩
        exact ⟨_, rfl, hb, z, hG.next hb⟩
    · intro listed σ w a hin hout hl hc hp hG hF
      refine Guarded.some (d := 26) (b := true) rfl rfl ((hin 20 26 rfl (hp ⟨20, .guard⟩ (by simp) rfl)).trans (hF 20 (hp ⟨20, .guard⟩ (by simp) rfl))) ?_
      refine Or.inl ⟨rfl, ?_⟩
      have e28 := hin 22 28 rfl (hp ⟨22, .data⟩ (by simp) rfl)
      have z22 := hF 22 (hp ⟨22, .data⟩ (by simp) rfl)
      refine Does.call ?_ (tmove_any _ (ofs [1]) 0 1 2 w z22.in_ (by decide) (by decide) (by decide) (by decide) (by decide)) ?_
      · go_simp
      · rintro e w' ⟨v, rfl, z, hb⟩
        exact ⟨_, rfl, hb, (TRes.ofEq z (by decide +kernel) (rfl)), hG.next hb⟩
    · intro listed σ w a hin hout hl hc hp hG hF
      refine Guarded.some (d := 26) (b := true) rfl rfl ((hin 20 26 rfl (hp ⟨20, .guard⟩ (by simp) rfl)).trans (hF 20 (hp ⟨20, .guard⟩ (by simp) rfl))) ?_
      refine Or.inl ⟨rfl, ?_⟩
      refine Does.val (.slice (some ⟨w.heap.size, 0, none⟩) 2 2) (w' := w.alloc (.cells #[.int .i64 0, .int .i64 1] 2)) ?_ ⟨bl_alloc w _, ⟨w.heap.size, rfl, Box.new _ _ _⟩, hG.next (bl_alloc w _)⟩
      go_simp
    · intro listed σ w a hin hout hl hc hp hG hF
      refine Guarded.some (d := 26) (b := true) rfl rfl ((hin 20 26 rfl (hp ⟨20, .guard⟩ (by simp) rfl)).trans (hF 20 (hp ⟨20, .guard⟩ (by simp) rfl))) ?_
      refine Or.inl ⟨rfl, ?_⟩
      have e30 := hin 24 30 rfl (hp ⟨24, .data⟩ (by simp) rfl)
      obtain ⟨g24, ev24, x24⟩ := hF 24 (hp ⟨24, .data⟩ (by simp) rfl)
      rw [ev24] at e30
      refine Does.call ?_ (lof_any 0 (some ⟨g24, 0, none⟩) 2 2 [0, 1] w x24.ints (by decide) (by decide) (by decide) (by decide)) ?_
      · go_simp
      · rintro e w' ⟨v, rfl, z, hb⟩
        exact ⟨_, rfl, hb, z, hG.next hb⟩
    · intro listed σ w a hin hout hl hc hp hG hF
      refine Guarded.some (d := 26) (b := true) rfl rfl ((hin 20 26 rfl (hp ⟨20, .guard⟩ (by simp) rfl)).trans (hF 20 (hp ⟨20, .guard⟩ (by simp) rfl))) ?_
      refine Or.inl ⟨rfl, ?_⟩
      have e31 := hin 25 31 rfl (hp ⟨25, .data⟩ (by simp) rfl)
      have z25 := hF 25 (hp ⟨25, .data⟩ (by simp) rfl)
      refine Does.call ?_ (rplain_any _ (ofs [0, 1]) 0 2 w z25.in_ (by decide) (by decide)) ?_
      · go_simp
      · rintro e w' ⟨v, rfl, z, hb⟩
        exact ⟨_, rfl, hb, (TRes.ofEq z (by decide +kernel) (rfl)), hG.next hb⟩
    · intro listed σ w a hin hout hl hc hp hG hF
      refine Guarded.some (d := 26) (b := true) rfl rfl ((hin 20 26 rfl (hp ⟨20, .guard⟩ (by simp) rfl)).trans (hF 20 (hp ⟨20, .guard⟩ (by simp) rfl))) ?_
      refine Or.inl ⟨rfl, ?_⟩
      have e29 := hin 23 29 rfl (hp ⟨23, .data⟩ (by simp) rfl)
      have z23 := hF 23 (hp ⟨23, .data⟩ (by simp) rfl)
      have e32 := hin 26 32 rfl (hp ⟨26, .data⟩ (by simp) rfl)
      have z26 := hF 26 (hp ⟨26, .data⟩ (by simp) rfl)
      refine Does.call ?_ (rtsame_yes _ _ [(1, 1)] 0 1010002 4 w z23 z26 (by decide)) ?_
      · go_simp
      · rintro e w' ⟨rfl, hb⟩
        exact ⟨_, rfl, hb, rfl, hG.next hb⟩
    · intro listed σ w a hin hout hl hc hp hG hF
      refine Guarded.none rfl ?_
      have e26 : a.tmps.getD 26 undef = .bool true := (hin 20 26 rfl (hp ⟨20, .data⟩ (by simp) rfl)).trans (hF 20 (hp ⟨20, .data⟩ (by simp) rfl))
      have e33 : a.tmps.getD 33 undef = .bool true := (hin 27 33 rfl (hp ⟨27, .data⟩ (by simp) rfl)).trans (hF 27 (hp ⟨27, .data⟩ (by simp) rfl))
      refine Does.val (.bool true) (w' := w) ?_ ⟨Below.refl _ _, rfl, hG⟩
      simp only [Array.getD_eq_getD_getElem?] at e26 e33
      go_simp
    · intro listed σ w a hin hout hl hc hp hG hF
      refine Guarded.none rfl ?_
      have e34 : a.tmps.getD 34 undef = .bool true := (hin 28 34 rfl (hp ⟨28, .data⟩ (by simp) rfl)).trans (hF 28 (hp ⟨28, .data⟩ (by simp) rfl))
      refine Does.val (.bool true) (w' := w) ?_ ⟨Below.refl _ _, rfl, hG⟩
      simp only [Array.getD_eq_getD_getElem?] at e34
      go_simp
  · intro listed σ W9 hall hG hF
    rw [show mid _ σ listed _ = (Act.put (Act.put (Act.put (Act.put (Act.put (Act.put (Act.put (Act.put (Act.put (Act.put (Act.put (Act.put (Act.put (Act.put (Act.put (Act.put (Act.put (Act.put (Act.put (Act.put (Act.put (Act.put (Act.put (Act.put (Act.put (Act.put (Act.put (Act.put (Act.put (Act.put _ (some 6) (σ 0)) (some 7) (σ 1)) (some 8) (σ 2)) (some 9) (σ 3)) (some 10) (σ 4)) (some 11) (σ 5)) (some 12) (σ 6)) (some 13) (σ 7)) (some 14) (σ 8)) (some 15) (σ 9)) (some 16) (σ 10)) (some 17) (σ 11)) (some 18) (σ 12)) (some 19) (σ 13)) (some 20) (σ 14)) (some 21) (σ 15)) (some 22) (σ 16)) (some 23) (σ 17)) (some 24) (σ 18)) (some 25) (σ 19)) (some 26) (σ 20)) (some 27) (σ 21)) (some 28) (σ 22)) (some 29) (σ 23)) (some 30) (σ 24)) (some 31) (σ 25)) (some 32) (σ 26)) (some 33) (σ 27)) (some 34) (σ 28)) (some 0) (σ 29)) from (mid_all hall).trans rfl]
    generalize σ 0 = tt0
    generalize σ 1 = tt1
    generalize σ 2 = tt2
    generalize σ 3 = tt3
    generalize σ 4 = tt4
    generalize σ 5 = tt5
    generalize σ 6 = tt6
    generalize σ 7 = tt7
    generalize σ 8 = tt8
    generalize σ 9 = tt9
    generalize σ 10 = tt10
    generalize σ 11 = tt11
    generalize σ 12 = tt12
    generalize σ 13 = tt13
    generalize σ 14 = tt14
    generalize σ 15 = tt15
    generalize σ 16 = tt16
    generalize σ 17 = tt17
    generalize σ 18 = tt18
    generalize σ 19 = tt19
    generalize σ 20 = tt20
    generalize σ 21 = tt21
    generalize σ 22 = tt22
    generalize σ 23 = tt23
    generalize σ 24 = tt24
    generalize σ 25 = tt25
    generalize σ 26 = tt26
    generalize σ 27 = tt27
    generalize σ 28 = tt28
    rw [show σ 29 = .bool true from hF 29 (by decide)]
    simp only [Act.put, List.setIfInBounds_toArray, List.set_cons_zero, List.set_cons_succ]
    have TG := hG
    clear hF hG hall
    clear σ
    have HE := hide (HB5.out.next TG)
    clear TG SOF HY
    go_wp2_with fail
    go_ret
    exact ⟨rfl, HE.out⟩
end Go.Proofs.YtakcgkohnomgjaaGreatDoor
