/- Texts of one seat, put together: ExprC10 ExprC11. -/
import Derived.Test.YtneiajkcikcnnaaDoorB13
set_option linter.unusedVariables false
/- A cursor's Compare; what a parser of trees hands back. -/
namespace Go.Proofs.YtneiajkcikcnnaaDoor
open Go.RowKit
open Lx Ex

theorem results_tr {fn : Func} {p t : Tmp} (h : fn.results = #[.cell p 45, .tmp t]) (tmps : Array Value) (w : World) (g : Nat) (a b c d x y z : Value)
    (hq : tmps.getD p undef = .pointer (some ⟨g, 0, none⟩)) (hg : Box 45 w g #[a, b, c, d, x, y, z]) : (results fn tmps).run Tryd.prog w = .ok (.tuple #[.agg #[a, b, c, d, x, y, z], tmps.getD t undef]) w := by
  have hq' : tmps[p]?.getD undef = .pointer (some ⟨g, 0, none⟩) := by simpa using hq
  simp [results, h, hq', asAddr, run_loadVar_row w g 45 45 #[a, b, c, d, x, y, z] (0, 0) _ hg Tryd.underlying45 rfl (by kernel_rfl)]
theorem bodyPost_tr {fn : Func} {R : Ending → World → Prop} {ac : Act} {w : World} {g p t : Nat} {a b c d x y z v : Value} (hres : fn.results = #[.cell p 45, .tmp t]) (hp : ac.tmps.getD p undef = .pointer (some ⟨g, 0, none⟩))
    (hv : ac.tmps.getD t undef = v) (hb : Box 45 w g #[a, b, c, d, x, y, z]) (hd : ac.defers = []) (hR : R (.returned (.tuple #[.agg #[a, b, c, d, x, y, z], v])) w) : bodyPost Tryd.prog fn R .ret ac w :=
  bodyPost_ret (by rw [results_tr hres _ _ g a b c d x y z hp hb, hv]) hd hR
/-- What a parser of trees hands back. -/
def PPost (D : CD) (g : Nat) (o : Out Tr) (i : Nat) (w : World) (e : Ending) (w' : World) : Prop :=
  match o with
  | .ok t r1 => ∃ (i' : Nat) (kd : Int) (Al : Option Addr) (nl cl : Nat) (Ar : Option Addr) (nr cr : Nat) (op : Int) (p q : ByteArray) (A : Option Addr) (n c : Nat),
      e = .returned (.tuple #[.agg #[.int .i64 kd, .slice Al nl cl, .slice Ar nr cr, .int .i64 op, .string p, .string q, .slice A n c], .int .i64 0]) ∧
      TIn (From w.heap.size) w' (gt t) [.int .i64 kd, .slice Al nl cl, .slice Ar nr cr, .int .i64 op, .string p, .string q, .slice A n c] ∧ Stands D i r1 i' ∧ Went D g i' w w'
  | .err c r1 => ∃ i' : Nat, e = .returned (.tuple #[.agg #[.int .i64 0, .slice none 0 0, .slice none 0 0, .int .i64 0, .string ⟨#[]⟩, .string ⟨#[]⟩, .slice none 0 0], .int .i64 (c : Nat)]) ∧ c ≠ 0 ∧ Stands D i r1 i' ∧ Went D g i' w w'
  | .fuel => False
theorem PPost.ok {D : CD} {g i i' : Nat} {o : Out Tr} {t : Tr} {r1 : List PT} {w w' : World} {vs : Array Value} (h : o = .ok t r1) (hT : TIn (From w.heap.size) w' (gt t) vs.toList) (hs : Stands D i r1 i') (hw : Went D g i' w w') : PPost D g o i w (.returned (.tuple #[.agg vs, .int .i64 0])) w' := by
  subst h
  obtain ⟨l⟩ := vs
  have hT2 := hT
  dsimp only at hT2
  cases hg : gt t with
  | mk kd l' r' op p q kids =>
    rw [hg] at hT2
    cases hT2 with
    | mk k op l r p q kids Al Ar A nl cl nr cr n c b o cs =>
      exact ⟨i', kd, Al, nl, cl, Ar, nr, cr, op, p, q, A, n, c, rfl, hT, hs, hw⟩
theorem PPost.err {D : CD} {g i i' c : Nat} {o : Out Tr} {r1 : List PT} {w w' : World} (h : o = .err c r1) (hc : c ≠ 0) (hs : Stands D i r1 i') (hw : Went D g i' w w') : PPost D g o i w (.returned (.tuple #[.agg #[.int .i64 0, .slice none 0 0, .slice none 0 0, .int .i64 0, .string ⟨#[]⟩, .string ⟨#[]⟩, .slice none 0 0], .int .i64 (c : Nat)])) w' := by
  subst h; exact ⟨i', rfl, hc, hs, hw⟩
theorem err_ne {c : Nat} (h : c ≠ 0) : ((c : Int) != 0) = true := by simp; omega
theorem err_ne2 {c : Nat} (h : c ≠ 0) : ((c : Int) == 0) = false := by simp; omega
set_option maxRecDepth 100000 in
set_option maxHeartbeats 8000000 in
theorem compare_any (D : CD) (g i : Nat) (w : World) (h : Cur D g w i) (htab : OpTab w) : Calls Tryd.prog 62 #[.pointer (some ⟨g, 0, none⟩)] w (PPost D g (cmpP D.kn (rd D.ts i)) i w) := by
  have HH := hide h
  have HB := hide (bl_alloc w (.cells #[.int .i64 0, .slice none 0 0, .slice none 0 0, .int .i64 0, .string ⟨#[]⟩, .string ⟨#[]⟩, .slice none 0 0] 45))
  have hsz : (w.alloc (.cells #[.int .i64 0, .slice none 0 0, .slice none 0 0, .int .i64 0, .string ⟨#[]⟩, .string ⟨#[]⟩, .slice none 0 0] 45)).heap.size = w.heap.size + 1 := World.size_alloc _ _
  have X0 := hide (Box.new 45 w #[.int .i64 0, .slice none 0 0, .slice none 0 0, .int .i64 0, .string ⟨#[]⟩, .string ⟨#[]⟩, .slice none 0 0])
  have HTB := hide (htab.below HB.out)
  have hgw := h.lt
  have HC0 := hide (h.below HB.out)
  have s1 := sum_any D g i _ HC0.out
  unfold SumPost at s1
  have HP := hide (show cmpP D.kn (rd D.ts i) = (match sumP D.kn (rd D.ts i) with | .fuel => Out.fuel | .err c r1 => .err c r1 | .ok l r1 => (match opP r1 with | none => .err 101 r1 | some op => (match sumP D.kn r1.tail with | .fuel => .fuel | .err c r2 => .err c r2 | .ok x r2 => .ok (.cmp l op x) r2))) from rfl)
  generalize cmpP D.kn (rd D.ts i) = O at *
  clear h htab
  cases hs1 : sumP D.kn (rd D.ts i) with
  | fuel => exact absurd hs1 (sumP_fuel _ _)
  | err cd r1 =>
    rw [hs1] at s1 HP
    clear hs1
    go_enter Tryd.func62, Tryd.ntmps62
    go_wp2_with fail
    generalize hW0 : w.alloc (.cells #[.int .i64 0, .slice none 0 0, .slice none 0 0, .int .i64 0, .string ⟨#[]⟩, .string ⟨#[]⟩, .slice none 0 0] 45) = W0 at *
    clear hW0
    refine s1.mono ?_
    rintro e w2 ⟨i2, rfl, hcd, st2, q2⟩
    have gc := err_ne hcd
    have x2 := X0.out.other q2.1 (Nat.ne_of_gt hgw)
    have HQ := hide (fun w9 ho => PPost.err HP.out hcd st2 (Went.fresh (c := w9) HH.out ((Went.of_below HH.out HB.out).trans q2) ho (Nat.le_refl _)))
    clear st2 q2 hcd
    go_wp2_with (with_reducible refine wpList_store_box rfl 45 _ _ rfl w.heap.size #[.int .i64 0, .slice none 0 0, .slice none 0 0, .int .i64 0, .string ⟨#[]⟩, .string ⟨#[]⟩, .slice none 0 0] rfl rfl _ x2 (by kernel_rfl) rfl (by simp [Value.oneCell']) ?_; intro w9 k3 ho3)
    refine bodyPost_tr rfl rfl rfl k3 rfl ?_
    exact HQ.out _ ho3
  | ok l r1 =>
    rw [hs1] at s1 HP
    dsimp only at HP
    have HO := hide (fun W j (c : Cur D g W j) (t : OpTab W) => operator_any D g j W c t)
    have HS := hide (fun W j (c : Cur D g W j) => sum_any D g j W c)
    unfold OpPost at HO
    unfold SumPost at HS
    clear hs1
    go_enter Tryd.func62, Tryd.ntmps62
    go_wp2_with fail
    generalize hW0 : w.alloc (.cells #[.int .i64 0, .slice none 0 0, .slice none 0 0, .int .i64 0, .string ⟨#[]⟩, .string ⟨#[]⟩, .slice none 0 0] 45) = W0 at *
    clear hW0
    refine s1.mono ?_
    rintro e w2 ⟨i2, A, c, rfl, hc1, hc2, m2, st2, q2⟩
    have hw2 := q2.1.size
    have X2 := hide (X0.out.other q2.1 (Nat.ne_of_gt hgw))
    have Q2 := hide ((Went.of_below HH.out HB.out).trans q2)
    have T2 := hide (HTB.out.went HC0.out q2)
    have ST2 := hide st2
    have M2 := hide m2
    generalize hnl : l.length = nl at hc1 M2 ⊢
    have HNL := hide hnl
    have hrd := st2.1
    have ho := HO.out w2 i2 q2.2 T2.out
    rw [hrd] at ho
    clear m2 st2 q2 s1 hnl
    cases hop : opP r1 with
    | none =>
      rw [hop] at ho HP
      clear hop
      go_wp2_with fail
      refine ho.mono ?_
      rintro e w3 ⟨rfl, q3⟩
      have x3 := X2.out.other q3.1 (Nat.ne_of_gt hgw)
      have HQ := hide (fun w9 ho => PPost.err (c := 101) HP.out (by decide) ST2.out (Went.fresh (c := w9) HH.out (Q2.out.trans q3) ho (Nat.le_refl _)))
      clear q3 ho
      go_wp2_with (with_reducible refine wpList_store_box rfl 45 _ _ rfl w.heap.size #[.int .i64 0, .slice none 0 0, .slice none 0 0, .int .i64 0, .string ⟨#[]⟩, .string ⟨#[]⟩, .slice none 0 0] rfl rfl _ x3 (by kernel_rfl) rfl (by simp [Value.oneCell']) ?_; intro w9 k4 ho4)
      refine bodyPost_tr rfl rfl rfl k4 rfl ?_
      exact HQ.out _ ho4
    | some op =>
      rw [hop] at ho HP
      dsimp only at HP
      clear hop
      go_wp2_with fail
      refine ho.mono ?_
      rintro e w3 ⟨rfl, hop6, st3, q3⟩
      have hw3 := q3.1.size
      have X3 := hide (X2.out.other q3.1 (Nat.ne_of_gt hgw))
      have Q3 := hide (Q2.out.trans q3)
      have hrd3 := st3.1
      have ST3 := hide (ST2.out.trans st3)
      have M3 := hide (M2.out.keep (Keep.of_only q3.1 (by omega)))
      have hs := HS.out w3 (i2 + 1) q3.2
      rw [hrd3] at hs
      clear q3 ho st3
      cases hs2 : sumP D.kn r1.tail with
      | fuel => exact absurd hs2 (sumP_fuel _ _)
      | err cd r2 =>
        rw [hs2] at hs HP
        clear hs2
        go_wp2_with fail
        refine hs.mono ?_
        rintro e w4 ⟨i4, rfl, hcd, st4, q4⟩
        have gc := err_ne hcd
        have x4 := X3.out.other q4.1 (Nat.ne_of_gt hgw)
        have HQ := hide (fun w9 ho => PPost.err HP.out hcd (ST3.out.trans st4) (Went.fresh (c := w9) HH.out (Q3.out.trans q4) ho (Nat.le_refl _)))
        clear q4 hs hcd st4
        go_wp2_with (with_reducible refine wpList_store_box rfl 45 _ _ rfl w.heap.size #[.int .i64 0, .slice none 0 0, .slice none 0 0, .int .i64 0, .string ⟨#[]⟩, .string ⟨#[]⟩, .slice none 0 0] rfl rfl _ x4 (by kernel_rfl) rfl (by simp [Value.oneCell']) ?_; intro w9 k5 ho5)
        refine bodyPost_tr rfl rfl rfl k5 rfl ?_
        exact HQ.out _ ho5
      | ok x r2 =>
        rw [hs2] at hs HP
        clear hs2
        go_wp2_with fail
        refine hs.mono ?_
        rintro e w4 ⟨i4, B, d, rfl, hd1, hd2, m4, st4, q4⟩
        have x4 := X3.out.other q4.1 (Nat.ne_of_gt hgw)
        have hw34 := Q3.out.1.size
        have M4 := hide (M3.out.keep (Keep.of_only q4.1 (by omega)))
        have N4 := hide m4
        generalize hnx : x.length = nx at hd1 N4 ⊢
        have Q4 := hide (Q3.out.trans q4)
        have ST4 := hide (ST3.out.trans st4)
        clear q4 hs st4 m4 hnx
        go_wp2_with (with_reducible refine wpList_store_box rfl 45 _ _ rfl w.heap.size #[.int .i64 2, .slice A nl c, .slice B nx d, .int .i64 (op : Nat), .string ⟨#[]⟩, .string ⟨#[]⟩, .slice none 0 0] rfl rfl _ x4 (by kernel_rfl) rfl (by simp [Value.oneCell']) ?_; intro w9 k5 ho5)
        refine bodyPost_tr rfl rfl rfl k5 rfl ?_
        refine PPost.ok (vs := #[.int .i64 2, .slice A nl c, .slice B nx d, .int .i64 (op : Nat), .string ⟨#[]⟩, .string ⟨#[]⟩, .slice none 0 0]) HP.out ?_ ST4.out (Went.fresh HH.out Q4.out ho5 (Nat.le_refl _))
        have hk : Keep (From (w.heap.size + 1)) w4 w9 := Keep.of_only ho5 (by omega)
        exact (TIn.cmp 2 (op : Int) ((M4.out.mono (by omega)).keep hk) ((N4.out.mono (by omega)).keep hk) hc1 hc2 hd1 hd2).mono (by omega)
end Go.Proofs.YtneiajkcikcnnaaDoor
/- A cursor's chain. -/
namespace Go.Proofs.YtneiajkcikcnnaaDoor
open Go.RowKit
open Lx Ex

/-- The cursor's I, read off the world. -/
def curI (w : World) (g : Nat) : Nat := match w.cell? ⟨g, 1, none⟩ with | some (.int _ z) => z.toNat | _ => 0
theorem curI_of {D : CD} {g i : Nat} {w : World} (h : Cur D g w i) : curI w g = i := by unfold curI; rw [h.c1]; simp
/-- What is counted down: nothing behind an error. -/
def mz (z : Int) (n : Nat) : Nat := if z = 0 then n else 0
theorem mz_lt {z : Int} {a b : Nat} (h : z = 0 → a < b) (hb : 0 < b) : mz z a < mz 0 b := by
  unfold mz
  rw [if_pos rfl]
  split
  · rename_i hz; exact h hz
  · exact hb
/-- The call's own blocks but one. -/
def But (B q b : Nat) : Prop := B ≤ b ∧ b ≠ q
theorem TIn.old {S : Nat → Prop} {w : World} {t : GT} {vs : List Value} (h : TIn S w t vs) : TIn (fun b => S b ∧ b < w.heap.size) w t vs := by
  induction h with
  | mk kd op l r p q kids Al Ar A nl cl nr cr n c b o cs h1 h2 h3 h4 h5 h6 h7 h8 h9 h10 h11 h12 ih =>
    have hm : ∀ {A : Option Addr} {n : Nat} {l : List Mn}, MIn S w A n l → MIn (fun b => S b ∧ b < w.heap.size) w A n l := by
      intro A n l h
      refine ⟨h.1, fun hn => ?_⟩
      obtain ⟨b, o, e, hB, hlt, hc⟩ := h.2 hn
      exact ⟨b, o, e, ⟨hB, hlt⟩, hlt, hc⟩
    exact TIn.mk kd op l r p q kids Al Ar A nl cl nr cr n c b o cs (hm h1) (hm h2) h3 h4 h5 h6 h7 h8 h9 (fun hn => ⟨(h10 hn).1, ⟨(h10 hn).2.1, (h10 hn).2.2⟩, (h10 hn).2.2⟩) h11 ih
/-- Both kinds of answers of a parser, in one. -/
theorem PPost.any {D : CD} {g i : Nat} {o : Out Tr} {w w' : World} {e : Ending} (h : PPost D g o i w e w') : ∃ (i' : Nat) (code : Int) (kd : Int) (Al : Option Addr) (nl cl : Nat) (Ar : Option Addr) (nr cr : Nat) (op : Int) (p q : ByteArray) (A : Option Addr) (n c : Nat),
    e = .returned (.tuple #[.agg #[.int .i64 kd, .slice Al nl cl, .slice Ar nr cr, .int .i64 op, .string p, .string q, .slice A n c], .int .i64 code]) ∧ Went D g i' w w' ∧
      ((code = 0 ∧ ∃ t r1, o = .ok t r1 ∧ TIn (From w.heap.size) w' (gt t) [.int .i64 kd, .slice Al nl cl, .slice Ar nr cr, .int .i64 op, .string p, .string q, .slice A n c] ∧ Stands D i r1 i') ∨ (∃ cd r1, code = ((cd : Nat) : Int) ∧ cd ≠ 0 ∧ o = .err cd r1 ∧ Stands D i r1 i')) := by
  cases o with
  | fuel => exact h.elim
  | ok t r1 =>
    obtain ⟨i', kd, Al, nl, cl, Ar, nr, cr, op, p, q, A, n, c, rfl, hT, hs, hw⟩ := h
    exact ⟨i', 0, kd, Al, nl, cl, Ar, nr, cr, op, p, q, A, n, c, rfl, hw, Or.inl ⟨rfl, t, r1, rfl, hT, hs⟩⟩
  | err cd r1 =>
    obtain ⟨i', rfl, hc, hs, hw⟩ := h
    exact ⟨i', cd, 0, none, 0, 0, none, 0, 0, 0, ⟨#[]⟩, ⟨#[]⟩, none, 0, 0, rfl, hw, Or.inr ⟨cd, r1, rfl, hc, rfl, hs⟩⟩
/-- Between two rounds of chain. -/
def ChRel (D : CD) (g gT i lv : Nat) (go : Tr → Md) (O : Out Tr) (w wr : World) (code : Int) : Prop :=
  ∃ (i' : Nat) (kd : Int) (Al : Option Addr) (nl cl : Nat) (Ar : Option Addr) (nr cr : Nat) (op : Int) (p q : ByteArray) (A : Option Addr) (n c : Nat),
    Box 45 wr gT #[.int .i64 kd, .slice Al nl cl, .slice Ar nr cr, .int .i64 op, .string p, .string q, .slice A n c] ∧ Box 45 wr w.heap.size #[.int .i64 0, .slice none 0 0, .slice none 0 0, .int .i64 0, .string ⟨#[]⟩, .string ⟨#[]⟩, .slice none 0 0] ∧ Went D g i' w wr ∧
      ((code = 0 ∧ ∃ t, TIn (But (w.heap.size + 1) gT) wr (gt t) [.int .i64 kd, .slice Al nl cl, .slice Ar nr cr, .int .i64 op, .string p, .string q, .slice A n c] ∧ Stands D i (rd D.ts i') i' ∧ O = parsF D.kn (go t) lv (rd D.ts i') ∧ (rd D.ts i').length ≤ (rd D.ts i).length) ∨
       (∃ cd r1, code = ((cd : Nat) : Int) ∧ cd ≠ 0 ∧ Stands D i r1 i' ∧ O = .err cd r1))
set_option maxRecDepth 100000 in
set_option maxHeartbeats 16000000 in
theorem chain_any (D : CD) (g i lv : Nat) (w : World) (F kind : Nat) (sign : ByteArray) (next : Md) (go : Tr → Md) (mk : Tr → Tr → Tr) (h : Cur D g w i) (htab : OpTab w) (hlv : lv ≤ 60)
    (hF : ∀ args W, (callFunc F args).run Tryd.prog W = .ok (.enter F args) W)
    (hpart : ∀ W j, Cur D g W j → OpTab W → (rd D.ts j).length ≤ (rd D.ts i).length → Calls Tryd.prog F #[.pointer (some ⟨g, 0, none⟩), .int .i64 (lv : Int)] W (PPost D g (parsF D.kn next lv (rd D.ts j)) j W))
    (heq : ∀ t r, parsF D.kn (go t) lv r = if isT sign r = true then bind (parsF D.kn next lv r.tail) (fun k r1 => parsF D.kn (go (mk t k)) lv r1) else .ok t r)
    (hgt : ∀ t k, gt (mk t k) = .mk (kind : Int) [] [] 0 ⟨#[]⟩ ⟨#[]⟩ [gt t, gt k]) :
    Calls Tryd.prog 47 #[.pointer (some ⟨g, 0, none⟩), .int .i64 (kind : Int), .string sign, .int .i64 (lv : Int), .func (.func F) #[.pointer (some ⟨g, 0, none⟩)] #[]] w (PPost D g (bind (parsF D.kn next lv (rd D.ts i)) (fun t r1 => parsF D.kn (go t) lv r1)) i w) := by
  have HH := hide h
  have HB := hide (bl_alloc w (.cells #[.int .i64 0, .slice none 0 0, .slice none 0 0, .int .i64 0, .string ⟨#[]⟩, .string ⟨#[]⟩, .slice none 0 0] 45))
  have hsz : (w.alloc (.cells #[.int .i64 0, .slice none 0 0, .slice none 0 0, .int .i64 0, .string ⟨#[]⟩, .string ⟨#[]⟩, .slice none 0 0] 45)).heap.size = w.heap.size + 1 := World.size_alloc _ _
  have X0 := hide (Box.new 45 w #[.int .i64 0, .slice none 0 0, .slice none 0 0, .int .i64 0, .string ⟨#[]⟩, .string ⟨#[]⟩, .slice none 0 0])
  have HTB := hide (htab.below HB.out)
  have hgw := h.lt
  have HC0 := hide (h.below HB.out)
  have HPA := hide hpart
  have s1 := (hpart _ i HC0.out HTB.out (Nat.le_refl _)).mono (fun _ _ hh => PPost.any hh)
  have HEQ := hide heq
  have HGT := hide hgt
  have HTAB := hide htab
  have hg2 := htab.ne h
  obtain ⟨O, hO⟩ : ∃ O, O = bind (parsF D.kn next lv (rd D.ts i)) (fun t r1 => parsF D.kn (go t) lv r1) := ⟨_, rfl⟩
  rw [← hO]
  have HO := hide hO
  clear h htab hpart heq hgt hO
  go_enter Tryd.func47, Tryd.ntmps47
  go_wp2_with fail
  generalize hW0 : w.alloc (.cells #[.int .i64 0, .slice none 0 0, .slice none 0 0, .int .i64 0, .string ⟨#[]⟩, .string ⟨#[]⟩, .slice none 0 0] 45) = W0 at *
  clear hW0
  refine s1.mono ?_
  rintro e w2 ⟨i2, code, kd, Al, nl, cl, Ar, nr, cr, op, p, q, A, n, c, rfl, q2, hor⟩
  have hw2 := q2.1.size
  have R1 := hide (show ChRel D g w2.heap.size i lv go O w (w2.alloc (.cells #[.int .i64 kd, .slice Al nl cl, .slice Ar nr cr, .int .i64 op, .string p, .string q, .slice A n c] 45)) code from by
    refine ⟨i2, kd, Al, nl, cl, Ar, nr, cr, op, p, q, A, n, c, Box.new _ _ _, (X0.out.other q2.1 (Nat.ne_of_gt hgw)).alloc _, ((Went.of_below HH.out HB.out).trans q2).below (bl_alloc _ _), ?_⟩
    rcases hor with ⟨h0, t, r1, ho, hT, hs⟩ | ⟨cd, r1, h0, hc, ho, hs⟩
    · refine Or.inl ⟨h0, t, ((hT.old.sub (fun b hb => ⟨by have := hb.1; unfold From at this; omega, Nat.ne_of_lt hb.2⟩)).keep (Keep.of_below (bl_alloc _ _))), ?_, ?_⟩
      · rw [hs.1]; exact hs
      · exact ⟨by rw [HO.out, ho, hs.1]; rfl, by rw [hs.1]; exact parsF_len ho⟩
    · exact Or.inr ⟨cd, r1, h0, hc, hs, by rw [HO.out, ho]; rfl⟩)
  clear hor s1 q2
  go_wp2_with fail
  go_loopw [13] (fun ec wr => ∃ code : Int, ec = .int .i64 code ∧ Hid (ChRel D g w2.heap.size i lv go O w wr code)) (fun ec wr => mz (intOf ec) (i + (rd D.ts i).length - curI wr g + 1))
  case atStart => exact ⟨_, rfl, R1⟩
  case round =>
    obtain ⟨code, rfl, HR⟩ := hrel
    obtain ⟨i', kd1, Al1, nl1, cl1, Ar1, nr1, cr1, op1, p1, q1, A1, n1, c1, x1, x0, q1, hor⟩ := HR.out
    rcases hor with ⟨h0, t, hT, hs, ho, hle⟩ | ⟨cd, r1, h0, hcd, hs, ho⟩
    · subst h0
      have X1 := hide x1
      have Q1 := hide q1
      have XZ := hide x0
      have T1 := hide hT
      have ht := take_any D g i' sign wr q1.2
      unfold TakePost at ht
      cases hsg : isT sign (rd D.ts i') with
      | false =>
        rw [hsg] at ht
        simp only [Bool.false_eq_true, if_false] at ht
        have ho2 := HEQ.out t (rd D.ts i')
        rw [if_neg (by rw [hsg]; decide), ← ho] at ho2
        have HO2 := hide ho2
        have HST := hide hs
        clear hs ho ho2 hsg hT x1 x0 q1
        go_wp2_with fail
        refine ht.mono ?_
        rintro e w3 ⟨rfl, q3⟩
        have x3 := XZ.out.other q3.1 (Nat.ne_of_gt hgw)
        have Y3 := X1.out.other q3.1 (by omega)
        have l0 := Y3.cell 0 _ rfl
        have l1 := Y3.cell 1 _ rfl
        have l2 := Y3.cell 2 _ rfl
        have l3 := Y3.cell 3 _ rfl
        have l4 := Y3.cell 4 _ rfl
        have l5 := Y3.cell 5 _ rfl
        have l6 := Y3.cell 6 _ rfl
        have T3 := hide (T1.out.keep (Keep.of_only' q3.1 (fun hh => by have := hh.1; omega)))
        have Q3 := hide (Q1.out.trans q3)
        clear q3 ht Y3
        go_wp2_with (with_reducible refine wpList_store_box rfl 45 _ _ rfl w.heap.size #[.int .i64 kd1, .slice Al1 nl1 cl1, .slice Ar1 nr1 cr1, .int .i64 op1, .string p1, .string q1, .slice A1 n1 c1] rfl rfl _ x3 (by kernel_rfl) rfl (by simp [Value.oneCell']) ?_; intro w9 k9 ho9)
        refine bodyPost_tr rfl rfl rfl k9 rfl ?_
        exact PPost.ok (vs := #[.int .i64 kd1, .slice Al1 nl1 cl1, .slice Ar1 nr1 cr1, .int .i64 op1, .string p1, .string q1, .slice A1 n1 c1]) HO2.out ((T3.out.keep (Keep.of_only' ho9 (fun hh => by have := hh.1; omega))).sub (fun b hb => by have := hb.1; unfold From; omega)) HST.out (Went.fresh HH.out Q3.out ho9 (Nat.le_refl _))
      | true =>
        rw [hsg] at ht
        simp only [if_true] at ht
        have hst := isT_step HH.out.good.ends hsg
        have hol := HEQ.out t (rd D.ts i')
        rw [if_pos hsg, ← ho, ← hst.1] at hol
        have HOL := hide hol
        have HST := hide (hs.trans' (i2 := i' + 1) rfl (by omega))
        have hl1 := hst.2.1
        have hlen : (rd D.ts (i' + 1)).length ≤ (rd D.ts i).length := by omega
        have HL := hide (show i' + (rd D.ts i').length = i + (rd D.ts i).length from hs.2)
        have hc1 := curI_of q1.2
        have HTB1 := hide (HTAB.out.went HH.out q1)
        clear hs ho hsg hT x1 x0 q1 hol hst
        go_wp2_with fail
        refine ht.mono ?_
        rintro e w3 ⟨rfl, q3⟩
        have XZ3 := hide (XZ.out.other q3.1 (Nat.ne_of_gt hgw))
        have X3 := hide (X1.out.other q3.1 (by omega))
        have T3 := hide (T1.out.old.keep (Keep.of_only' q3.1 (fun hh => by have := hh.1.1; omega)))
        have hs3 := q3.1.size
        have Q3 := hide (Q1.out.trans q3)
        have HTB3 := hide (HTB1.out.only q3.1 hg2)
        have hwt := X1.out.lt
        have hb3 := bl_alloc w3 (.cells #[.int .i64 0, .slice none 0 0, .slice none 0 0, .int .i64 0, .string ⟨#[]⟩, .string ⟨#[]⟩, .slice none 0 0] 45)
        have hz4 : (w3.alloc (.cells #[.int .i64 0, .slice none 0 0, .slice none 0 0, .int .i64 0, .string ⟨#[]⟩, .string ⟨#[]⟩, .slice none 0 0] 45)).heap.size = w3.heap.size + 1 := World.size_alloc _ _
        have Q4 := hide (Q3.out.below hb3)
        have XZ4 := hide (XZ3.out.next hb3)
        have X4 := hide (X3.out.next hb3)
        have K4 := hide (Box.new 45 w3 #[.int .i64 0, .slice none 0 0, .slice none 0 0, .int .i64 0, .string ⟨#[]⟩, .string ⟨#[]⟩, .slice none 0 0])
        have T4 := hide (T3.out.keep (Keep.of_below hb3))
        have hp := (HPA.out _ (i' + 1) Q4.out.2 (HTB3.out.below hb3) hlen).mono (fun _ _ hh => PPost.any hh)
        clear q3 ht hb3
        go_wp2_with fail
        generalize hW4 : w3.alloc (.cells #[.int .i64 0, .slice none 0 0, .slice none 0 0, .int .i64 0, .string ⟨#[]⟩, .string ⟨#[]⟩, .slice none 0 0] 45) = W4 at *
        clear hW4
        refine hp.mono ?_
        rintro e w5 ⟨i5, code2, kd2, Al2, nl2, cl2, Ar2, nr2, cr2, op2, p2, q2, A2, n2, c2, rfl, q5, hor⟩
        have XZ5 := hide (XZ4.out.other q5.1 (Nat.ne_of_gt hgw))
        have X5 := hide (X4.out.other q5.1 (by omega))
        have k5 := K4.out.other q5.1 (by omega)
        have T5 := hide (T4.out.keep (Keep.of_only' q5.1 (fun hh => by have := hh.1.1; omega)))
        have hs5 := q5.1.size
        have Q5 := hide (Q4.out.trans q5)
        have HOR := hide hor
        clear q5 hp hor
        go_upto_region 5 with (with_reducible refine wpList_store_box rfl 45 _ _ rfl w3.heap.size #[.int .i64 kd2, .slice Al2 nl2 cl2, .slice Ar2 nr2 cr2, .int .i64 op2, .string p2, .string q2, .slice A2 n2 c2] rfl rfl _ k5 (by kernel_rfl) rfl (by simp [Value.oneCell']) ?_; intro w6 k6 ho6)
        have K6 := hide k6
        have XZ6 := hide (XZ5.out.other ho6 (by omega))
        have x6 := X5.out.other ho6 (by omega)
        have T6 := hide (T5.out.keep (Keep.of_only' ho6 (fun hh => by have := hh.2; omega)))
        have Q6 := hide (Went.fresh HH.out Q5.out ho6 (by omega))
        have HOR6 := hide (show (code2 = 0 ∧ ∃ t r1, parsF D.kn next lv (rd D.ts (i' + 1)) = .ok t r1 ∧ TIn (From W4.heap.size) w6 (gt t) [.int .i64 kd2, .slice Al2 nl2 cl2, .slice Ar2 nr2 cr2, .int .i64 op2, .string p2, .string q2, .slice A2 n2 c2] ∧ Stands D (i' + 1) r1 i5) ∨ (∃ cd r1, code2 = ((cd : Nat) : Int) ∧ cd ≠ 0 ∧ parsF D.kn next lv (rd D.ts (i' + 1)) = .err cd r1 ∧ Stands D (i' + 1) r1 i5) from by
          rcases HOR.out with ⟨h0, t, r1, h1, h2, h3⟩ | hh
          · exact Or.inl ⟨h0, t, r1, h1, h2.keep (Keep.of_only ho6 (by omega)), h3⟩
          · exact Or.inr hh)
        have hs6 := ho6.size
        have a0 := k6.cell 0 _ rfl
        have a1 := k6.cell 1 _ rfl
        have a2 := k6.cell 2 _ rfl
        have a3 := k6.cell 3 _ rfl
        have a4 := k6.cell 4 _ rfl
        have a5 := k6.cell 5 _ rfl
        have a6 := k6.cell 6 _ rfl
        have l0 := x6.cell 0 _ rfl
        have l1 := x6.cell 1 _ rfl
        have l2 := x6.cell 2 _ rfl
        have l3 := x6.cell 3 _ rfl
        have l4 := x6.cell 4 _ rfl
        have l5 := x6.cell 5 _ rfl
        have l6 := x6.cell 6 _ rfl
        clear HOR k6 ho6 k5
        have hb7 := bl_alloc w6 (.cells #[.int .i64 kd1, .slice Al1 nl1 cl1, .slice Ar1 nr1 cr1, .int .i64 op1, .string p1, .string q1, .slice A1 n1 c1, .int .i64 kd2, .slice Al2 nl2 cl2, .slice Ar2 nr2 cr2, .int .i64 op2, .string p2, .string q2, .slice A2 n2 c2] 45)
        have x7 := x6.next hb7
        have XZ7 := hide (XZ6.out.next hb7)
        have G7 := hide (Box.new 45 w6 #[.int .i64 kd1, .slice Al1 nl1 cl1, .slice Ar1 nr1 cr1, .int .i64 op1, .string p1, .string q1, .slice A1 n1 c1, .int .i64 kd2, .slice Al2 nl2 cl2, .slice Ar2 nr2 cr2, .int .i64 op2, .string p2, .string q2, .slice A2 n2 c2])
        have T7 := hide (T6.out.keep (Keep.of_below hb7))
        have Q7 := hide (Q6.out.below hb7)
        have HOR7 := hide (show (code2 = 0 ∧ ∃ t r1, parsF D.kn next lv (rd D.ts (i' + 1)) = .ok t r1 ∧ TIn (From W4.heap.size) (w6.alloc (.cells #[.int .i64 kd1, .slice Al1 nl1 cl1, .slice Ar1 nr1 cr1, .int .i64 op1, .string p1, .string q1, .slice A1 n1 c1, .int .i64 kd2, .slice Al2 nl2 cl2, .slice Ar2 nr2 cr2, .int .i64 op2, .string p2, .string q2, .slice A2 n2 c2] 45)) (gt t) [.int .i64 kd2, .slice Al2 nl2 cl2, .slice Ar2 nr2 cr2, .int .i64 op2, .string p2, .string q2, .slice A2 n2 c2] ∧ Stands D (i' + 1) r1 i5) ∨ (∃ cd r1, code2 = ((cd : Nat) : Int) ∧ cd ≠ 0 ∧ parsF D.kn next lv (rd D.ts (i' + 1)) = .err cd r1 ∧ Stands D (i' + 1) r1 i5) from by
          rcases HOR6.out with ⟨h0, t, r1, h1, h2, h3⟩ | hh
          · exact Or.inl ⟨h0, t, r1, h1, h2.keep (Keep.of_below hb7), h3⟩
          · exact Or.inr hh)
        clear hb7 x6
        go_wp2_with (with_reducible refine wpList_store_box rfl 45 _ _ rfl w2.heap.size #[.int .i64 (kind : Int), .slice none 0 0, .slice none 0 0, .int .i64 0, .string ⟨#[]⟩, .string ⟨#[]⟩, .slice (some ⟨w6.heap.size, 0, none⟩) 2 2] rfl rfl _ x7 (by kernel_rfl) rfl (by simp [Value.oneCell']) ?_; intro w8 k8 ho8)
        have XZ8 := XZ7.out.other ho8 (by omega)
        have G8 := G7.out.other ho8 (by omega)
        have T8 := T7.out.keep (Keep.of_only' ho8 (fun hh => by have := hh.1.2; omega))
        have Q8 := Went.fresh HH.out Q7.out ho8 (by omega)
        have hc8 := curI_of Q8.2
        have HRR := hide (show ChRel D g w2.heap.size i lv go O w w8 code2 ∧ (code2 = 0 → i' < i5 ∧ i5 < i + (rd D.ts i).length) from by
          rcases HOR7.out with ⟨h0, k, r1, h1, h2, h3⟩ | ⟨cd, r1, h0, hcd, h1, h3⟩
          · have hlk := parsF_len h1
            have h4 := h3.2
            have h5 : 0 < r1.length := by rw [← h3.1]; exact rd_pos _ _
            refine ⟨⟨i5, _, none, 0, 0, none, 0, 0, _, _, _, _, _, _, k8, XZ8, Q8, Or.inl ⟨h0, mk t k, ?_, ?_, ?_, ?_⟩⟩, fun _ => by have := HL.out; omega⟩
            · rw [HGT.out]
              refine TIn.kids (T := 45) (kind : Int) [gt t, gt k] [[.int .i64 kd1, .slice Al1 nl1 cl1, .slice Ar1 nr1 cr1, .int .i64 op1, .string p1, .string q1, .slice A1 n1 c1], [.int .i64 kd2, .slice Al2 nl2 cl2, .slice Ar2 nr2 cr2, .int .i64 op2, .string p2, .string q2, .slice A2 n2 c2]] rfl ⟨by omega, by omega⟩ G8 (fun j x hx => ?_) (by simp)
              have h2' := h2.keep (Keep.of_only ho8 (by omega) : Keep (From W4.heap.size) _ w8)
              match j, hx with
              | 0, hx =>
                injection hx with hx; subst hx
                exact ⟨_, rfl, T8.sub (fun b hb => hb.1)⟩
              | 1, hx =>
                injection hx with hx; subst hx
                exact ⟨_, rfl, h2'.sub (fun b hb => ⟨by unfold From at hb; omega, by unfold From at hb; omega⟩)⟩
              | j + 2, hx => simp at hx
            · rw [h3.1]; exact HST.out.trans h3
            · rw [HOL.out, h1, h3.1]; rfl
            · rw [h3.1]; omega
          · refine ⟨⟨i5, _, none, 0, 0, none, 0, 0, _, _, _, _, _, _, k8, XZ8, Q8, Or.inr ⟨cd, r1, h0, hcd, HST.out.trans h3, ?_⟩⟩, fun h => by omega⟩
            rw [HOL.out, h1]; rfl)
        clear XZ8 G8 T8 Q8 k8 ho8 l0 l1 l2 l3 l4 l5 l6 a0 a1 a2 a3 a4 a5 a6 x7
        simp only [Act.put]
        go_roundw
        case rel => exact ⟨_, rfl, hide HRR.out.1⟩
        case measure =>
          have hm := HRR.out.2
          refine mz_lt (fun hz => ?_) (by omega)
          have h9 := hm hz
          rw [hc8, hc1]
          omega
    · have gc := err_ne2 hcd
      have gc2 := err_ne hcd
      subst h0
      have HP := hide (fun w9 ho9 => PPost.err (w' := w9) ho hcd hs (Went.fresh HH.out q1 ho9 (Nat.le_refl _)))
      clear hs ho hcd q1 x1
      go_wp2_with (with_reducible refine wpList_store_box rfl 45 _ _ rfl w.heap.size #[.int .i64 0, .slice none 0 0, .slice none 0 0, .int .i64 0, .string ⟨#[]⟩, .string ⟨#[]⟩, .slice none 0 0] rfl rfl _ x0 (by kernel_rfl) rfl (by simp [Value.oneCell']) ?_; intro w9 k9 ho9)
      refine bodyPost_tr rfl rfl rfl k9 rfl ?_
      exact HP.out _ ho9
end Go.Proofs.YtneiajkcikcnnaaDoor
