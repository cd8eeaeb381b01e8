/- Texts of one seat, put together: RelsIn RNumber RBoth RAdd. -/
import Derived.Test.YtdeakieenppmiaaGreatDoorC25
import Derived.Test.YtdeakieenppmiaaGreatDoorC23
set_option linter.unusedVariables false
set_option linter.unusedSimpArgs false
set_option maxRecDepth 100000
set_option maxHeartbeats 16000000
/- Slices of relations: what they read as. -/
namespace Go.Proofs.YtdeakieenppmiaaGreatDoor
open Go.RowKit

/-- A relation as its cells hold it, and what it reads as. -/
structure RV where
 A : Option Addr
 n : Nat
 c : Nat
 s : Bool
 B : Option Addr
 m : Nat
 d : Nat
 f : Bool
 L : List (Int × Int)
 K : Int
def RV.cells (r : RV) : List Value := [.slice r.A r.n r.c, .bool r.s, .slice r.B r.m r.d, .bool r.f]
def RV.agg (r : RV) : Value := .agg #[.slice r.A r.n r.c, .bool r.s, .slice r.B r.m r.d, .bool r.f]
def RV.trm (r : RV) : Value := .agg #[.slice r.A r.n r.c, .bool r.s, .slice r.B r.m r.d]
def RV.rd (r : RV) : List (Int × Int) × Int × Bool := (r.L, r.K, r.f)
def flatR (rs : List RV) : List Value := (rs.map RV.cells).flatten
theorem flatR_cons (r : RV) (rs : List RV) : flatR (r :: rs) = r.cells ++ flatR rs := rfl
theorem flatR_get (rs : List RV) (i : Nat) (r : RV) (h : rs[i]? = some r) : (flatR rs)[4 * i]? = some (.slice r.A r.n r.c) ∧ (flatR rs)[4 * i + 1]? = some (.bool r.s) ∧ (flatR rs)[4 * i + 2]? = some (.slice r.B r.m r.d) ∧ (flatR rs)[4 * i + 3]? = some (.bool r.f) := by
 induction rs generalizing i with
 | nil => simp at h
 | cons q rs ih =>
  rw [flatR_cons]
  cases i with
  | zero =>
   simp at h; subst h
   exact ⟨rfl, rfl, rfl, rfl⟩
  | succ i =>
   have h2 := ih i (by simpa using h)
   have hl : q.cells.length = 4 := rfl
   rw [show 4 * (i + 1) = q.cells.length + 4 * i by rw [hl]; omega, show q.cells.length + 4 * i + 1 = q.cells.length + (4 * i + 1) by omega, show q.cells.length + 4 * i + 2 = q.cells.length + (4 * i + 2) by omega, show q.cells.length + 4 * i + 3 = q.cells.length + (4 * i + 3) by omega, List.getElem?_append_right (by omega), List.getElem?_append_right (by omega), List.getElem?_append_right (by omega), List.getElem?_append_right (by omega)]
   simpa using h2
/-- The slice's cells. -/
def RelsAt (w : World) (A : Option Addr) (n : Nat) (rs : List RV) : Prop :=
 rs.length = n ∧ (0 < n → ∃ b o, A = some ⟨b, o, none⟩ ∧ ∀ j u, (flatR rs)[j]? = some u → w.cell? ⟨b, o + j, none⟩ = some u)
def RelsIn (w : World) (A : Option Addr) (n : Nat) (rs : List RV) (k : Nat) : Prop := RelsAt w A n rs ∧ ∀ r ∈ rs, TIn w r.trm r.L r.K k
def RelsRes (w : World) (A : Option Addr) (n : Nat) (rs : List RV) (k : Nat) : Prop := RelsAt w A n rs ∧ ∀ r ∈ rs, TRes w r.trm r.L r.K k
theorem RelsAt.below {w w' : World} {A : Option Addr} {n : Nat} {rs : List RV} (h : RelsAt w A n rs) (hb : Below w.heap.size w w') : RelsAt w' A n rs := by
 refine ⟨h.1, fun hn => ?_⟩
 obtain ⟨b, o, e, hc⟩ := h.2 hn
 refine ⟨b, o, e, fun j u hu => ?_⟩
 have h1 := hc j u hu
 have hlt := World.block_lt_of_cell? w _ h1
 exact (World.cell?_of_block (w := w) (a := ⟨b, o + j, none⟩) (hb.block b hlt)).trans h1
theorem RelsRes.below {w w' : World} {A : Option Addr} {n k : Nat} {rs : List RV} (h : RelsRes w A n rs k) (hb : Below w.heap.size w w') : RelsRes w' A n rs k := ⟨h.1.below hb, fun p hp => (h.2 p hp).below hb⟩
theorem RelsAt.at_ {w : World} {A : Option Addr} {n i : Nat} {rs : List RV} (h : RelsAt w A n rs) (hi : i < n) : ∃ b o r, A = some ⟨b, o, none⟩ ∧ rs[i]? = some r ∧ w.cell? ⟨b, o + i * 4, none⟩ = some (.slice r.A r.n r.c) ∧ w.cell? ⟨b, o + i * 4 + 1, none⟩ = some (.bool r.s) ∧ w.cell? ⟨b, o + i * 4 + 2, none⟩ = some (.slice r.B r.m r.d) ∧ w.cell? ⟨b, o + i * 4 + 3, none⟩ = some (.bool r.f) := by
 obtain ⟨b, o, e, hc⟩ := h.2 (by omega)
 have hl : i < rs.length := by rw [h.1]; exact hi
 obtain ⟨g0, g1, g2, g3⟩ := flatR_get rs i rs[i] (List.getElem?_eq_getElem hl)
 refine ⟨b, o, rs[i], e, List.getElem?_eq_getElem hl, ?_, ?_, ?_, ?_⟩
 · rw [show o + i * 4 = o + 4 * i by omega]; exact hc _ _ g0
 · rw [show o + i * 4 + 1 = o + (4 * i + 1) by omega]; exact hc _ _ g1
 · rw [show o + i * 4 + 2 = o + (4 * i + 2) by omega]; exact hc _ _ g2
 · rw [show o + i * 4 + 3 = o + (4 * i + 3) by omega]; exact hc _ _ g3
/-- The relations of a literal. -/
theorem RelsAt.box {T : TypeId} {w : World} {g : Nat} {rs : List RV} (h : Box T w g (flatR rs).toArray) : RelsAt w (some ⟨g, 0, none⟩) rs.length rs :=
 ⟨rfl, fun _ => ⟨g, 0, rfl, fun j u hu => by rw [Nat.zero_add]; exact h.cell j u (by simpa using hu)⟩⟩
/-- A list of relations is answered, which reads as ds. -/
def RelsPost (ds : List (List (Int × Int) × Int × Bool)) (k : Nat) (w : World) (en : Ending) (w' : World) : Prop :=
 ∃ A c rs, en = .returned (.slice A ds.length c) ∧ RelsRes w' A ds.length rs k ∧ rs.map RV.rd = ds ∧ ds.length ≤ c ∧ c ≤ 9223372036854775807 ∧ Below w.heap.size w w'
/-- What Deny answers. -/
def negL (L : List (Int × Int)) : List (Int × Int) := Tm.norm (L.map fun p => (p.1, -1 * p.2))
def den (L : List (Int × Int)) (K : Int) (e : Bool) : List (List (Int × Int) × Int × Bool) :=
 if e then [(Tm.norm L, K - 1, false), (negL L, -K - 1, false)] else [(negL L, -K - 1, false)]
theorem relsPost_one {w0 w : World} {A B : Option Addr} {n c m d k g : Nat} {s f : Bool} {L : List (Int × Int)} {K : Int} (x : Box 30 w g #[.slice A n c, .bool s, .slice B m d, .bool f]) (h : TRes w (.agg #[.slice A n c, .bool s, .slice B m d]) L K k) (hb : Below w0.heap.size w0 w) :
  RelsPost [(L, K, f)] k w0 (.returned (.slice (some ⟨g, 0, none⟩) 1 1)) w :=
 ⟨_, _, [⟨A, n, c, s, B, m, d, f, L, K⟩], rfl, ⟨RelsAt.box (rs := [⟨A, n, c, s, B, m, d, f, L, K⟩]) x, fun r hr => by simp only [List.mem_cons, List.not_mem_nil, or_false] at hr; subst hr; exact h⟩, rfl, Nat.le_refl _, by simp, hb⟩
theorem relsPost_two {w0 w : World} {A B A2 B2 : Option Addr} {n c m d n2 c2 m2 d2 k g : Nat} {s f s2 f2 : Bool} {L M : List (Int × Int)} {K J : Int} (x : Box 30 w g #[.slice A n c, .bool s, .slice B m d, .bool f, .slice A2 n2 c2, .bool s2, .slice B2 m2 d2, .bool f2]) (h : TRes w (.agg #[.slice A n c, .bool s, .slice B m d]) L K k) (h2 : TRes w (.agg #[.slice A2 n2 c2, .bool s2, .slice B2 m2 d2]) M J k) (hb : Below w0.heap.size w0 w) :
  RelsPost [(L, K, f), (M, J, f2)] k w0 (.returned (.slice (some ⟨g, 0, none⟩) 2 2)) w :=
 ⟨_, _, [⟨A, n, c, s, B, m, d, f, L, K⟩, ⟨A2, n2, c2, s2, B2, m2, d2, f2, M, J⟩], rfl, ⟨RelsAt.box (rs := [⟨A, n, c, s, B, m, d, f, L, K⟩, ⟨A2, n2, c2, s2, B2, m2, d2, f2, M, J⟩]) x, fun r hr => by
  simp only [List.mem_cons, List.not_mem_nil, or_false] at hr
  rcases hr with rfl | rfl
  · exact h
  · exact h2⟩, rfl, Nat.le_refl _, by simp, hb⟩
end Go.Proofs.YtdeakieenppmiaaGreatDoor
/- plumblineref03.Number. -/
namespace Go.Proofs.YtdeakieenppmiaaGreatDoor
open Go.RowKit

theorem rnumber_t (v : Value) (Z : Int) (k : Nat) (w : World) (hv : ZIn w v Z k) (hk : k ≤ 1099511627776) : Calls Tryz.prog 51 #[v] w (TPost [] Z k w) := by
 have hv0 := hv
 obtain ⟨s, A, n, c, xs, rfl, -⟩ := hv
 obtain ⟨z0, z1, z2, -⟩ := bstart2 26 28 w #[.bool s, .slice A n c] #[.slice none 0 0, .bool false, .slice none 0 0]
 have hf := clean_z _ Z k _ (hv0.below z2) hk
 have c0 := Blk.c0 z0
 have c1 := Blk.c1 z0
 go_enter Tryz.func51, Tryz.ntmps51
 go_wp2_with fail
 refine hf.mono ?_
 rintro e w1 ⟨v1, rfl, r1, b1⟩
 obtain ⟨s1, A1, n1, c1, rfl⟩ := r1.form
 have k1 := z1.next b1
 go_wp2_with (with_reducible refine wpList_store_t rfl _ _ rfl (w.heap.size + 1) _ _ _ _ _ _ _ rfl rfl _ _ _ k1 ?_; intro w3 k3 ho3)
 refine bodyPost_t rfl rfl k3 rfl ?_
 exact ⟨_, rfl, (TRes.number r1 (w' := w) (v := undef)).only k1 ho3, zback (z2.next b1) (by omega) ho3⟩
end Go.Proofs.YtdeakieenppmiaaGreatDoor
/- plumblineref03.both. -/
namespace Go.Proofs.YtdeakieenppmiaaGreatDoor
open Go.RowKit
open Tm

def BothRel (w0 : World) (os : List PV) (s : Value) (wr : World) : Prop := LRow 60 3 wr w0.heap.size s os.length (flat os) ∧ Below w0.heap.size w0 wr
theorem both_any (A B : Option Addr) (n c m d k : Nat) (ps qs : List PV) (w0 : World) (hp : PartsIn w0 A n ps k) (hq : PartsIn w0 B m qs k) (hn : n ≤ 500000) (hm : m ≤ 500000) :
  Calls Tryz.prog 131 #[.slice A n c, .slice B m d] w0 (ConcatPost ps qs k w0) := by
 have hpl := hide hp.1
 have hql := hide hq.1
 have HPP := hide hp
 have HQQ := hide hq
 have hpn : ps.length = n := hp.1
 have hqn' : qs.length = m := hq.1
 obtain ⟨y0, y1, -⟩ := bstart1 60 w0 #[]
 have HS := hide (show BothRel w0 (ps.take 0) (.slice (some ⟨w0.heap.size, 0, none⟩) 0 0) (w0.alloc (.cells #[] 60)) from ⟨LRow.made #[] 0 (Nat.le_refl _) (by unfold maxLen; omega) rfl (fun u hu => by simp at hu), y1⟩)
 clear y0 y1 hp hq
 go_enter Tryz.func131, Tryz.ntmps131
 go_wp2_with fail
 go_loopw [5, 6] (fun s i wr => ∃ q : Nat, q ≤ n ∧ i = .int .i64 q ∧ Hid (BothRel w0 (ps.take q) s wr)) (fun _ i _ => n - (intOf i).toNat)
 case atStart => exact ⟨0, Nat.zero_le _, rfl, HS⟩
 case round =>
  obtain ⟨q, hq, rfl, HR⟩ := hrel
  obtain ⟨lr, hB⟩ := HR.out
  have HL := hide lr
  have HB := hide hB
  have hsz := hB.size
  have hle : (ps.take q).length + 1 ≤ 1099511627776 := by simp; omega
  by_cases hqn : q < n
  · obtain ⟨bb, o, p, rfl, hlt, hu, c0, c1, c2, hz⟩ := (HPP.out.below hB).at3 hqn
    have HE := hide (show ∀ v' w', LRow 60 3 w' w0.heap.size v' (ps.take q ++ [p]).length (flat (ps.take q ++ [p])) → Below w0.heap.size w0 w' → BothRel w0 (ps.take (q + 1)) v' w' from fun v' w' h1 h2 => by
     have e : ps.take (q + 1) = ps.take q ++ [p] := by rw [List.take_add_one, hu]; simp
     rw [e]
     exact ⟨h1, h2⟩)
    clear hz hu HR lr hB
    go_wp2_with (at_builtin; refine wpList_append_parts rfl _ _ rfl w0.heap.size _ (ps.take q) rfl (HL.out.below (bl_alloc _ _)) _ 0 1 1 [p] rfl rfl (cells_newS _ p _ rfl) hle (by simp; omega) ?_; intro v' w1 l1 g1)
    have HE1 := hide (HE.out v' w1 l1 ((HL.out.below (bl_alloc wr (.cells #[.int .i64 p.v, .bool p.s, .slice p.B p.m p.d] 60))).old (HB.out.trans ((bl_alloc wr (.cells #[.int .i64 p.v, .bool p.s, .slice p.B p.m p.d] 60)).mono hsz)) g1 (Nat.le_refl _) (Nat.le_refl _)))
    clear l1 g1 c0 c1 c2
    go_wp2_with fail
    go_roundw
    case rel => exact ⟨q + 1, by omega, by go_num, HE1⟩
    case measure => simp [intOf] <;> omega
  · obtain rfl : q = n := by omega
    have HS1 := hide (show BothRel w0 (ps ++ qs.take 0) _ wr from by have h := HR.out; rw [List.take_of_length_le (by omega)] at h; simpa using h)
    clear HR lr hB HL HB hle hsz HS
    go_wp2_with fail
    go_loopw [5, 7] (fun s i wr => ∃ q : Nat, q ≤ m ∧ i = .int .i64 q ∧ Hid (BothRel w0 (ps ++ qs.take q) s wr)) (fun _ i _ => m - (intOf i).toNat)
    case atStart => exact ⟨0, Nat.zero_le _, rfl, HS1⟩
    case round =>
     obtain ⟨q, hq, rfl, HR⟩ := hrel
     obtain ⟨lr, hB⟩ := HR.out
     have HL := hide lr
     have HB := hide hB
     have hsz := hB.size
     have hle : (ps ++ qs.take q).length + 1 ≤ 1099511627776 := by simp; omega
     by_cases hqn : q < m
     · obtain ⟨bb, o, p, rfl, hlt, hu, c0, c1, c2, hz⟩ := (HQQ.out.below hB).at3 hqn
       have HE := hide (show ∀ v' w', LRow 60 3 w' w0.heap.size v' (ps ++ qs.take q ++ [p]).length (flat (ps ++ qs.take q ++ [p])) → Below w0.heap.size w0 w' → BothRel w0 (ps ++ qs.take (q + 1)) v' w' from fun v' w' h1 h2 => by
        have e : ps ++ qs.take (q + 1) = ps ++ qs.take q ++ [p] := by rw [List.take_add_one, hu]; simp
        rw [e]
        exact ⟨h1, h2⟩)
       clear hz hu HR lr hB
       go_wp2_with (at_builtin; refine wpList_append_parts rfl _ _ rfl w0.heap.size _ (ps ++ qs.take q) rfl (HL.out.below (bl_alloc _ _)) _ 0 1 1 [p] rfl rfl (cells_newS _ p _ rfl) hle (by simp; omega) ?_; intro v' w1 l1 g1)
       have HE1 := hide (HE.out v' w1 l1 ((HL.out.below (bl_alloc wr (.cells #[.int .i64 p.v, .bool p.s, .slice p.B p.m p.d] 60))).old (HB.out.trans ((bl_alloc wr (.cells #[.int .i64 p.v, .bool p.s, .slice p.B p.m p.d] 60)).mono hsz)) g1 (Nat.le_refl _) (Nat.le_refl _)))
       clear l1 g1 c0 c1 c2
       go_wp2_with fail
       go_roundw
       case rel => exact ⟨q + 1, by omega, by go_num, HE1⟩
       case measure => simp [intOf] <;> omega
     · obtain rfl : q = m := by omega

       have HE := hide (show LRow 60 3 wr w0.heap.size _ (ps ++ qs).length (flat (ps ++ qs)) from by have h := HL.out; rwa [List.take_of_length_le (by omega)] at h)
       obtain ⟨A9, c9, hv9, h91, h92, -⟩ := HE.out.len
       subst hv9
       have HP9 := hide (HE.out.parts (k := k) rfl (fun p hp => by
        rcases List.mem_append.1 hp with h | h
        · exact (HPP.out.2.2 p h).below HB.out
        · exact (HQQ.out.2.2 p h).below HB.out))
       clear HR lr hB HL hle hsz
       go_wp2_with fail
       go_ret
       exact ⟨A9, _, c9, rfl, HP9.out, h91, h92, HB.out⟩
end Go.Proofs.YtdeakieenppmiaaGreatDoor
/- plumblineref03.Add. -/
namespace Go.Proofs.YtdeakieenppmiaaGreatDoor
open Go.RowKit
open Tm

theorem rtadd_any (v u : Value) (L M : List (Int × Int)) (K KM : Int) (k : Nat) (w0 : World) (hv : TIn w0 v L K k) (hu : TIn w0 u M KM k) (hl : L.length ≤ 500000) (hm : M.length ≤ 500000) (hk : k ≤ 109951162) :
   Calls Tryz.prog 91 #[v, u] w0 (TPost (norm (L ++ M)) (K + KM) (k + 1 + (L.length + M.length)) w0) := by
 obtain ⟨A, n, c, s, B, m, d, rfl, ⟨ps, hps, rfl⟩, hc1, hc2, hK⟩ := hv
 obtain ⟨A2, n2, c2, s2, B2, m2, d2, rfl, ⟨qs, hqs, rfl⟩, hc3, hc4, hK2⟩ := hu
 have hn : n ≤ 500000 := by have := hps.1; unfold lin at hl; rw [List.length_map] at hl; omega
 have hn2 : n2 ≤ 500000 := by have := hqs.1; unfold lin at hm; rw [List.length_map] at hm; omega
 have HLL := hide (show (lin ps).length = ps.length ∧ (lin qs).length = qs.length from ⟨by simp [lin], by simp [lin]⟩)
 obtain ⟨z0, z1, z2, z3, z4⟩ := bstart3 28 28 28 w0 #[.slice A n c, .bool s, .slice B m d] #[.slice A2 n2 c2, .bool s2, .slice B2 m2 d2] #[.slice none 0 0, .bool false, .slice none 0 0]
 go_enter Tryz.func91, Tryz.ntmps91
 go_wp2_with fail
 generalize hW0 : (((w0.alloc (.cells #[.slice A n c, .bool s, .slice B m d] 28)).alloc (.cells #[.slice A2 n2 c2, .bool s2, .slice B2 m2 d2] 28)).alloc (.cells #[.slice none 0 0, .bool false, .slice none 0 0] 28)) = W0 at *
 clear hW0
 have HPA := hide (hps.below z3)
 have HPB := hide (hqs.below z3)
 have HKA := hide (hK.below z3)
 have HKB := hide (hK2.below z3)
 have R0 := hide z2
 have T0 := hide z3
 have HPL := hide (fun W v (h : TIn W v (lin (ps ++ qs)) (K + KM) (k + 1)) => (show Calls Tryz.prog 13 #[v] W (TPost (norm (lin (ps ++ qs))) (K + KM) (k + 1 + (ps.length + qs.length)) W) from by
   have h1 := rplain_any v _ _ (k + 1) W h (by rw [lin_append, List.length_append, HLL.out.1, HLL.out.2]; have := hps.1; have := hqs.1; omega) (by omega)
   rw [lin_append, List.length_append, HLL.out.1, HLL.out.2] at h1
   rw [lin_append]
   exact h1))
 unfold TPost at HPL
 have SOF := hide (show ∀ W, Below W0.heap.size W0 W → (W.cell? ⟨w0.heap.size, 0, none⟩ = some (.slice A n c) ∧ W.cell? ⟨w0.heap.size, 1, none⟩ = some (.bool s) ∧ W.cell? ⟨w0.heap.size, 2, none⟩ = some (.slice B m d) ∧ W.cell? ⟨w0.heap.size + 1, 0, none⟩ = some (.slice A2 n2 c2) ∧ W.cell? ⟨w0.heap.size + 1, 1, none⟩ = some (.bool s2) ∧ W.cell? ⟨w0.heap.size + 1, 2, none⟩ = some (.slice B2 m2 d2)) from fun W h => ⟨(z0.next h).c0, (z0.next h).c1, (z0.next h).c2, (z1.next h).c0, (z1.next h).c1, (z1.next h).c2⟩)
 clear z0 z1 z2 z3 z4 hps hqs hK hK2
 refine wp_drawnL (by kernel_rfl) (by kernel_rfl) (by kernel_rfl) (by kernel_rfl) (fun w w' => Below w.heap.size w w') (fun j v w => match j with | 0 => v = .pointer (some ⟨w0.heap.size, 0, none⟩) | 1 => v = .slice A n c | 2 => v = .pointer (some ⟨w0.heap.size + 1, 0, none⟩) | 3 => v = .slice A2 n2 c2 | 4 => ∃ A n c, v = .slice A n c ∧ PartsIn w A n (ps ++ qs) k ∧ n ≤ c ∧ c ≤ 9223372036854775807 | 5 => v = .pointer (some ⟨w0.heap.size, 1, none⟩) | 6 => v = .agg #[.bool s, .slice B m d] | 7 => v = .pointer (some ⟨w0.heap.size + 1, 1, none⟩) | 8 => v = .agg #[.bool s2, .slice B2 m2 d2] | 9 => ∃ s B m d, v = .agg #[.bool s, .slice B m d] ∧ ZRes w (.agg #[.bool s, .slice B m d]) (K + KM) (k + 1) | 10 => TIn w v (lin (ps ++ qs)) (K + KM) (k + 1) | 11 => TRes w v (norm (lin (ps ++ qs))) (K + KM) (k + 1 + (ps.length + qs.length)) | _ => True) (fun _ _ w => Below W0.heap.size W0 w) ?_ (fun _ => bl_drewN W0 1) ?_ ?_
 · intro j v w w' hT h
   match j, h with
   | 0, h => exact h
   | 1, h => exact h
   | 2, h => exact h
   | 3, h => exact h
   | 4, h => exact (by obtain ⟨A, n, c, e, h1, h2, h3⟩ := h; exact ⟨A, n, c, e, h1.below hT, h2, h3⟩)
   | 5, h => exact h
   | 6, h => exact h
   | 7, h => exact h
   | 8, h => exact h
   | 9, h => exact (by obtain ⟨s, B, m, d, e, z⟩ := h; exact ⟨s, B, m, d, e, z.below hT⟩)
   | 10, h => exact h.below hT
   | 11, h => exact h.below hT
   | j + 12, h => trivial
 · refine ⟨?_, ?_, ?_, ?_, ?_, ?_, ?_, ?_, ?_, ?_, ?_, ?_, trivial⟩
   · intro listed σ w a hin hout hl hla hs hc hp hG hF
     refine Guarded.none rfl ?_
     have e2 : a.tmps.getD 2 undef = .pointer (some ⟨w0.heap.size, 0, none⟩) := hout 2 (outB_spec (by kernel_rfl))
     refine Does.val (.pointer (some ⟨w0.heap.size, 0, none⟩)) (w' := w) ?_ ⟨Below.refl _ _, rfl, hG⟩
     simp only [Array.getD_eq_getD_getElem?] at e2
     go_simp
   · intro listed σ w a hin hout hl hla hs hc hp hG hF
     refine Guarded.none rfl ?_
     have e5 : a.tmps.getD 5 undef = .pointer (some ⟨w0.heap.size, 0, none⟩) := (hin 0 5 rfl (hp ⟨0, .data⟩ (by simp) rfl)).trans (hF 0 (hp ⟨0, .data⟩ (by simp) rfl))
     have CC := SOF.out w hG; obtain ⟨C0, C1, C2, D0, D1, D2⟩ := CC
     refine Does.val (.slice A n c) (w' := w) ?_ ⟨Below.refl _ _, rfl, hG⟩
     go_simp
   · intro listed σ w a hin hout hl hla hs hc hp hG hF
     refine Guarded.none rfl ?_
     have e3 : a.tmps.getD 3 undef = .pointer (some ⟨w0.heap.size + 1, 0, none⟩) := hout 3 (outB_spec (by kernel_rfl))
     refine Does.val (.pointer (some ⟨w0.heap.size + 1, 0, none⟩)) (w' := w) ?_ ⟨Below.refl _ _, rfl, hG⟩
     simp only [Array.getD_eq_getD_getElem?] at e3
     go_simp
   · intro listed σ w a hin hout hl hla hs hc hp hG hF
     refine Guarded.none rfl ?_
     have e7 : a.tmps.getD 7 undef = .pointer (some ⟨w0.heap.size + 1, 0, none⟩) := (hin 2 7 rfl (hp ⟨2, .data⟩ (by simp) rfl)).trans (hF 2 (hp ⟨2, .data⟩ (by simp) rfl))
     have CC := SOF.out w hG; obtain ⟨C0, C1, C2, D0, D1, D2⟩ := CC
     refine Does.val (.slice A2 n2 c2) (w' := w) ?_ ⟨Below.refl _ _, rfl, hG⟩
     go_simp
   · intro listed σ w a hin hout hl hla hs hc hp hG hF
     refine Guarded.none rfl ?_
     have e6 : a.tmps.getD 6 undef = .slice A n c := (hin 1 6 rfl (hp ⟨1, .data⟩ (by simp) rfl)).trans (hF 1 (hp ⟨1, .data⟩ (by simp) rfl))
     have e8 : a.tmps.getD 8 undef = .slice A2 n2 c2 := (hin 3 8 rfl (hp ⟨3, .data⟩ (by simp) rfl)).trans (hF 3 (hp ⟨3, .data⟩ (by simp) rfl))
     refine Does.call ?_ (both_any A A2 n c n2 c2 k ps qs w (HPA.out.below hG) (HPB.out.below hG) hn hn2) ?_
     · go_simp
     · rintro e w' ⟨A, n, c, rfl, hp, h1, h2, hb⟩
       exact ⟨_, rfl, hb, ⟨A, n, c, rfl, hp, h1, h2⟩, hG.next hb⟩
   · intro listed σ w a hin hout hl hla hs hc hp hG hF
     refine Guarded.none rfl ?_
     have e2 : a.tmps.getD 2 undef = .pointer (some ⟨w0.heap.size, 0, none⟩) := hout 2 (outB_spec (by kernel_rfl))
     refine Does.val (.pointer (some ⟨w0.heap.size, 1, none⟩)) (w' := w) ?_ ⟨Below.refl _ _, rfl, hG⟩
     simp only [Array.getD_eq_getD_getElem?] at e2
     go_simp
   · intro listed σ w a hin hout hl hla hs hc hp hG hF
     refine Guarded.none rfl ?_
     have e10 : a.tmps.getD 10 undef = .pointer (some ⟨w0.heap.size, 1, none⟩) := (hin 5 10 rfl (hp ⟨5, .data⟩ (by simp) rfl)).trans (hF 5 (hp ⟨5, .data⟩ (by simp) rfl))
     have CC := SOF.out w hG; obtain ⟨C0, C1, C2, D0, D1, D2⟩ := CC
     refine Does.val (.agg #[.bool s, .slice B m d]) (w' := w) ?_ ⟨Below.refl _ _, rfl, hG⟩
     go_simp
   · intro listed σ w a hin hout hl hla hs hc hp hG hF
     refine Guarded.none rfl ?_
     have e3 : a.tmps.getD 3 undef = .pointer (some ⟨w0.heap.size + 1, 0, none⟩) := hout 3 (outB_spec (by kernel_rfl))
     refine Does.val (.pointer (some ⟨w0.heap.size + 1, 1, none⟩)) (w' := w) ?_ ⟨Below.refl _ _, rfl, hG⟩
     simp only [Array.getD_eq_getD_getElem?] at e3
     go_simp
   · intro listed σ w a hin hout hl hla hs hc hp hG hF
     refine Guarded.none rfl ?_
     have e12 : a.tmps.getD 12 undef = .pointer (some ⟨w0.heap.size + 1, 1, none⟩) := (hin 7 12 rfl (hp ⟨7, .data⟩ (by simp) rfl)).trans (hF 7 (hp ⟨7, .data⟩ (by simp) rfl))
     have CC := SOF.out w hG; obtain ⟨C0, C1, C2, D0, D1, D2⟩ := CC
     refine Does.val (.agg #[.bool s2, .slice B2 m2 d2]) (w' := w) ?_ ⟨Below.refl _ _, rfl, hG⟩
     go_simp
   · intro listed σ w a hin hout hl hla hs hc hp hG hF
     refine Guarded.none rfl ?_
     have e11 : a.tmps.getD 11 undef = .agg #[.bool s, .slice B m d] := (hin 6 11 rfl (hp ⟨6, .data⟩ (by simp) rfl)).trans (hF 6 (hp ⟨6, .data⟩ (by simp) rfl))
     have e13 : a.tmps.getD 13 undef = .agg #[.bool s2, .slice B2 m2 d2] := (hin 8 13 rfl (hp ⟨8, .data⟩ (by simp) rfl)).trans (hF 8 (hp ⟨8, .data⟩ (by simp) rfl))
     refine Does.call ?_ (rzadd_z (.agg #[.bool s, .slice B m d]) (.agg #[.bool s2, .slice B2 m2 d2]) K KM k w (HKA.out.below hG) (HKB.out.below hG) (by omega)) ?_
     · go_simp
     · rintro e w' ⟨v, rfl, z, hb⟩
       exact ⟨_, rfl, hb, (by obtain ⟨s, B, m, d, rfl⟩ := z.form; exact ⟨s, B, m, d, rfl, z⟩), hG.next hb⟩
   · intro listed σ w a hin hout hl hla hs hc hp hG hF
     refine Guarded.none rfl ?_
     have e9 := hin 4 9 rfl (hp ⟨4, .data⟩ (by simp) rfl)
     obtain ⟨A5, n5, c5, ev4, p5, q5, r5⟩ := hF 4 (hp ⟨4, .data⟩ (by simp) rfl)
     rw [ev4] at e9
     have e14 := hin 9 14 rfl (hp ⟨9, .data⟩ (by simp) rfl)
     obtain ⟨s10, B10, m10, d10, ev9, z10⟩ := hF 9 (hp ⟨9, .data⟩ (by simp) rfl)
     rw [ev9] at e14
     refine Does.val (.agg #[.slice A5 n5 c5, .bool s10, .slice B10 m10 d10]) (w' := w) ?_ ⟨Below.refl _ _, ⟨A5, n5, c5, s10, B10, m10, d10, rfl, ⟨_, p5.mono (by omega), rfl⟩, q5, r5, z10.in_⟩, hG⟩
     simp only [Array.getD_eq_getD_getElem?] at e9 e14
     go_simp
   · intro listed σ w a hin hout hl hla hs hc hp hG hF
     refine Guarded.none rfl ?_
     have e15 := hin 10 15 rfl (hp ⟨10, .data⟩ (by simp) rfl)
     have z10 := hF 10 (hp ⟨10, .data⟩ (by simp) rfl)
     refine Does.call ?_ (HPL.out w _ z10) ?_
     · go_simp
     · rintro e w' ⟨v, rfl, z, hb⟩
       exact ⟨_, rfl, hb, z, hG.next hb⟩
 · intro o ho
   injection ho with ho; subst ho
   intro listed σ w a hall hin hout hG hF
   refine Guarded.none rfl ?_
   have e4 : a.tmps.getD 4 undef = .pointer (some ⟨w0.heap.size + 1 + 1, 0, none⟩) := hout 4 (outL (by kernel_rfl))
   have e16 := hin 11 16 rfl (by decide)
   have z11 := hF 11 (by decide)
   have z11 := hF 11 (by decide)
   obtain ⟨A8, n8, c8, s8, B8, m8, d8, ev8⟩ := TRes.form z11
   rw [ev8] at e16 z11
   have HR8 := hide (R0.out.next hG)
   have HT8 := hide (T0.out.next hG)
   refine Does.store_box (T := 28) (cells := #[.slice A8 n8 c8, .bool s8, .slice B8 m8 d8]) rfl e4 e16 HR8.out (by kernel_rfl) rfl (by simp [Value.oneCell']) (fun w2 x9 o9 => ?_)
   rw [show fin _ σ undef _ = (Act.put (Act.put (Act.put (Act.put (Act.put (Act.put (Act.put (Act.put (Act.put (Act.put (Act.put (Act.put (Act.put _ (some 5) (σ 0)) (some 6) (σ 1)) (some 7) (σ 2)) (some 8) (σ 3)) (some 9) (σ 4)) (some 10) (σ 5)) (some 11) (σ 6)) (some 12) (σ 7)) (some 13) (σ 8)) (some 14) (σ 9)) (some 15) (σ 10)) (some 16) (σ 11)) none undef) from (fin_all hall).trans rfl]
   simp only [Act.put, List.setIfInBounds_toArray, List.set_cons_zero, List.set_cons_succ]
   have HZ8 := hide (z11.only HR8.out o9)
   have HO := hide o9
   generalize σ 0 = tt0 at *; generalize σ 1 = tt1 at *; generalize σ 2 = tt2 at *; generalize σ 3 = tt3 at *; generalize σ 4 = tt4 at *; generalize σ 5 = tt5 at *; generalize σ 6 = tt6 at *; generalize σ 7 = tt7 at *; generalize σ 8 = tt8 at *; generalize σ 9 = tt9 at *; generalize σ 10 = tt10 at *; generalize σ 11 = tt11 at *
   clear hF hG hall hin hout SOF z11 o9 e4 e16 ev8
   go_wp2_with fail
   refine bodyPost_t rfl rfl x9 rfl ?_
   exact TPost.eq (TPost.mono ⟨_, rfl, HZ8.out, zback HT8.out (by omega) HO.out⟩ (by have := HLL.out; omega)) (by rw [lin_append]) rfl
end Go.Proofs.YtdeakieenppmiaaGreatDoor
