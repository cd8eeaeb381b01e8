/- Texts of one seat, put together: WordB WordG WordH. -/
import Derived.Test.YtljocjjdfgpbaaaB07
set_option linter.unusedVariables false
/- plumblineref15.Kid, Size, Deep. -/
namespace Go.Proofs.Ytljocjjdfgpbaaa
open Go.RowKit
open Wo

/-- A property is handed back that lies in S. -/
def TreePost (S : Nat → Prop) (t : LT) (w : World) (e : Ending) (w' : World) : Prop :=
  ∃ k p A n c, e = .returned (.agg #[.int .i64 k, .int .i64 p, .slice A n c]) ∧ DIn S w' t (c3 k p A n c) ∧ Below w.heap.size w w'
theorem kid_out {t : LT} {i : Nat} (h : t.kids.length ≤ i) : t.kid i = lff := by
  unfold LT.kid; rw [List.getD_eq_getElem?_getD, List.getElem?_eq_none h]; rfl
theorem kid_in {t u : LT} {i : Nat} (h : t.kids[i]? = some u) : t.kid i = u := by
  unfold LT.kid; rw [List.getD_eq_getElem?_getD, h]; rfl
set_option maxHeartbeats 4000000 in
theorem kid_any (S : Nat → Prop) (t : LT) (k p : Int) (A : Option Addr) (n c i : Nat) (w : World) (h : DIn S w t (c3 k p A n c)) (hi : i ≤ 100) :
    Calls Try.prog 33 #[.agg #[.int .i64 k, .int .i64 p, .slice A n c], .int .i64 (i : Int)] w (TreePost S (t.kid i) w) := by
  obtain ⟨A', n', c', hv, hk, hc1, hc2, hc3⟩ := h.open_
  injection hv with hv0 hv
  injection hv with hv1 hv
  injection hv with hv2 hv
  injection hv2 with hA hn hc
  subst hA hn hc
  obtain ⟨x0, x1, hb, hz⟩ := bstart2 24 24 w #[.int .i64 k, .int .i64 p, .slice A n c] #[.int .i64 0, .int .i64 0, .slice none 0 0]
  have u0 := x0.cell 0 _ rfl
  have u1 := x0.cell 1 _ rfl
  have u2 := x0.cell 2 _ rfl
  have HB := hide hb
  by_cases hin : n ≤ i
  · have e1 : t.kid i = lff := kid_out (by rw [hk.1]; exact hin)
    have g1 : (n : Int) ≤ (i : Int) := by omega
    rw [e1]
    have HP := hide (show ∀ w', Below w.heap.size w w' → TreePost S lff w (.returned (.agg #[.int .i64 1, .int .i64 0, .slice none 0 0])) w' from fun w' hw => ⟨1, 0, none, 0, 0, rfl, DIn.leaf S w' 1 0, hw⟩)
    clear h hk hc1 hc2 hc3 e1 hin hb hz hv0 hv1
    go_enter Try.func33, Try.ntmps33
    go_wp2_with (with_reducible refine wpList_store_box rfl 24 _ _ rfl (w.heap.size + 1) #[.int .i64 1, .int .i64 0, .slice none 0 0] rfl rfl _ x1 (by kernel_rfl) rfl (by simp [Value.oneCell']) ?_; intro w3 k3 ho3)
    refine bodyPost_lt rfl rfl k3 rfl ?_
    exact HP.out _ (HB.out.trans (ho3.below HB.out.size (by omega)))
  · obtain ⟨b, o, u, k1, p1, A1, n1, c1, hA, hlt, hu, hd, d0, d1, d2⟩ := hk.at_ (j := i) (by omega)
    rw [kid_in hu]
    have g1 : ¬ (n : Int) ≤ (i : Int) := by omega
    have HP := hide (show ∀ w', Below w.heap.size w w' → TreePost S u w (.returned (.agg #[.int .i64 k1, .int .i64 p1, .slice A1 n1 c1])) w' from fun w' hw => ⟨k1, p1, A1, n1, c1, rfl, hd.keep (Keep.of_below hw), hw⟩)
    have d0 := (below_cell hb hlt).trans d0
    have d1 := (below_cell hb hlt).trans d1
    have d2 := (below_cell hb hlt).trans d2
    subst hA
    clear h hk hc1 hc2 hc3 hb hv0 hv1 hu hd x1 HB
    go_enter Try.func33, Try.ntmps33
    go_wp2_with fail
    obtain ⟨y0, y1, hb, -⟩ := bstart2 24 24 w #[.int .i64 k, .int .i64 p, .slice (some ⟨b, o, none⟩) n c] #[.int .i64 k1, .int .i64 p1, .slice A1 n1 c1]
    refine bodyPost_lt rfl rfl y1 rfl ?_
    exact HP.out _ hb
/-- How many are counted with the first q kids. -/
def acc (t : LT) (l : Int) : Nat → Int
  | 0 => 1
  | q + 1 => acc t l q + (norm (t.kid q)).sizeL (l - acc t l q)
theorem acc_le (t : LT) {l : Int} (hl : 0 ≤ l) : ∀ q, (∀ j, j < q → acc t l j ≤ l) → 1 ≤ acc t l q ∧ acc t l q ≤ l + 1
  | 0, _ => by simp only [acc]; omega
  | q + 1, h => by
    have h1 := acc_le t hl q (fun j hj => h j (by omega))
    have h2 := h q (by omega)
    have h3 := sizeL_le (norm (t.kid q)) (l - acc t l q) (by omega)
    simp only [acc]; omega
theorem acc_stop (t : LT) {l : Int} (hl : 0 ≤ l) {q : Nat} (hq : q ≤ arity t.k) (h : ∀ j, j < q → acc t l j ≤ l) (hs : q = arity t.k ∨ ¬ acc t l q ≤ l) : (norm t).sizeL l = acc t l q := by
  have h9 := arity_le t.k
  rw [norm_eq]
  have h01 : arity 0 = 0 := by decide
  have h02 : arity 2 = 0 := by decide
  by_cases e0 : t.k = 0
  · rw [if_pos e0]
    rw [e0, h01] at hq
    obtain rfl : q = 0 := by omega
    rfl
  rw [if_neg e0]
  by_cases e2 : t.k = 2
  · rw [if_pos e2]
    rw [e2, h02] at hq
    obtain rfl : q = 0 := by omega
    rfl
  rw [if_neg e2]
  by_cases e3 : arity t.k = 1
  · rw [if_pos e3]
    rw [e3] at hq hs
    simp only [Pr.sizeL]
    match q, hq with
    | 0, _ =>
      have h1 : ¬ acc t l 0 ≤ l := hs.resolve_left (by omega)
      simp only [acc] at h1 ⊢
      rw [if_neg h1]
    | 1, _ =>
      have h1 := h 0 (by omega)
      simp only [acc] at h1 ⊢
      rw [if_pos h1]
  rw [if_neg e3]
  by_cases e4 : arity t.k = 2
  · rw [if_pos e4]
    rw [e4] at hq hs
    simp only [Pr.sizeL]
    match q, hq with
    | 0, _ =>
      have h1 : ¬ acc t l 0 ≤ l := hs.resolve_left (by omega)
      simp only [acc] at h1 ⊢
      rw [if_neg h1]
    | 1, _ =>
      have h1 := h 0 (by omega)
      have h2 : ¬ acc t l 1 ≤ l := hs.resolve_left (by omega)
      simp only [acc] at h1 h2 ⊢
      rw [if_pos h1, if_neg h2]
    | 2, _ =>
      have h1 := h 0 (by omega)
      have h2 := h 1 (by omega)
      simp only [acc] at h1 h2 ⊢
      rw [if_pos h1, if_pos h2]
  rw [if_neg e4]
  obtain rfl : q = 0 := by omega
  rfl
def SizePost (t : LT) (l : Nat) (w : World) (e : Ending) (w' : World) : Prop := e = .returned (.int .i64 ((norm t).sizeL l)) ∧ Below w.heap.size w w'
theorem c3_inj {t : LT} {k p k' p' : Int} {A A' : Option Addr} {n c n' c' : Nat} (h : c3 k p A n c = c3 k' p' A' n' c') : k = k' ∧ p = p' ∧ A = A' ∧ n = n' ∧ c = c' := by
  injection h with h0 h
  injection h with h1 h
  injection h with h2 h
  injection h0 with _ h0
  injection h1 with _ h1
  injection h2 with h2 h3 h4
  exact ⟨h0, h1, h2, h3, h4⟩
theorem DIn.parts {S : Nat → Prop} {w : World} {t : LT} {k p : Int} {A : Option Addr} {n c : Nat} (h : DIn S w t (c3 k p A n c)) : k = t.k ∧ p = t.p ∧ KsIn S w A n t.kids ∧ n ≤ c ∧ c ≤ 9223372036854775807 ∧ (A = none → n = 0 ∧ c = 0) := by
  obtain ⟨A', n', c', hv, hk, hc1, hc2, hc3⟩ := h.open_
  obtain ⟨h0, h1, h2, h3, h4⟩ := c3_inj (t := t) hv
  subst h2 h3 h4
  exact ⟨h0, h1, hk, hc1, hc2, hc3⟩
set_option maxRecDepth 100000 in
set_option maxHeartbeats 8000000 in
theorem size_any (l : Nat) : l ≤ 1000000 → ∀ (S : Nat → Prop) (t : LT) (k p : Int) (A : Option Addr) (n c : Nat) (w : World), DIn S w t (c3 k p A n c) →
    Calls Try.prog 16 #[.agg #[.int .i64 k, .int .i64 p, .slice A n c], .int .i64 (l : Int)] w (SizePost t l w) := by
  induction l using Nat.strongRecOn with
  | _ l ih =>
    intro hl S t k p A n c w h
    have hk := h.parts.1
    obtain ⟨x0, hb, -⟩ := bstart1 24 w #[.int .i64 k, .int .i64 p, .slice A n c]
    have HB := hide hb
    have HX := hide x0
    have HD := hide (h.keep (Keep.of_below hb))
    have HAR := hide (fun W => arity_any k W)
    have HKI := hide (fun (q : Nat) W (hq : q ≤ 100) (hd : DIn S W t (c3 k p A n c)) => kid_any S t k p A n c q W hd hq)
    have HSI := hide (fun (m : Nat) (hm : m < l) t k p A n c W (hd : DIn S W t (c3 k p A n c)) => ih m hm (by omega) S t k p A n c W hd)
    have HP := hide (show ∀ (q : Nat) w', q ≤ arity t.k → (∀ j, j < q → acc t l j ≤ l) → (q = arity t.k ∨ ¬ acc t l q ≤ l) → Below w.heap.size w w' → SizePost t l w (.returned (.int .i64 (acc t l q))) w' from fun q w' h1 h2 h3 h4 => ⟨by rw [acc_stop t (by omega) h1 h2 h3], h4⟩)
    unfold TreePost SizePost at *
    have hle := arity_le t.k
    obtain ⟨ar, har⟩ : ∃ ar, ar = arity t.k := ⟨_, rfl⟩
    rw [show arity k = ar from by rw [hk, har]] at HAR
    rw [← har] at HP hle
    clear h x0 hb ih hk har
    have HS := hide (Below.refl (w.alloc (.cells #[.int .i64 k, .int .i64 p, .slice A n c] 24)).heap.size (w.alloc (.cells #[.int .i64 k, .int .i64 p, .slice A n c] 24)))
    go_enter Try.func16, Try.ntmps16
    go_wp2_with fail
    generalize hW : w.alloc (.cells #[.int .i64 k, .int .i64 p, .slice A n c] 24) = W1 at *
    clear hW
    go_loopw [5, 6] (fun s i wr => ∃ q : Nat, q ≤ ar ∧ i = .int .i64 q ∧ s = .int .i64 (acc t l q) ∧ (∀ j, j < q → acc t l j ≤ l) ∧ Hid (Below W1.heap.size W1 wr)) (fun _ i _ => 2 - (intOf i).toNat)
    case atStart => exact ⟨0, Nat.zero_le _, rfl, rfl, (fun j hj => absurd hj (by omega)), HS⟩
    case round =>
      obtain ⟨q, hq, rfl, rfl, hacc, HR⟩ := hrel
      have hlo := acc_le t (l := l) (by omega) q hacc
      have HAC := hide hacc
      clear hacc
      have u0 := (HX.out.next HR.out).cell 0 _ rfl
      by_cases hqa : q < ar
      · have g1 : (q : Int) < (ar : Int) := by omega
        by_cases hal : acc t l q ≤ l
        · have hs1 : acc t l (q + 1) = acc t l q + (norm (t.kid q)).sizeL (l - acc t l q) := rfl
          have hse := sizeL_le (norm (t.kid q)) (l - acc t l q) (by omega)
          obtain ⟨m, hm⟩ : ∃ m : Nat, (m : Int) = l - acc t l q := ⟨(l - acc t l q).toNat, by omega⟩
          rw [← hm] at hs1 hse
          have hml : m < l := by omega
          have HE := hide hs1
          clear hs1
          generalize hac : acc t l q = a at *
          obtain ⟨ha1, ha2⟩ := hlo
          have HSM := hide (fun k p A n c W hd => hm ▸ HSI.out m hml (t.kid q) k p A n c W hd)
          have HM := hide hm
          rw [hm] at hse
          obtain ⟨hse1, hse2⟩ := hse
          clear hm
          go_wp2_with fail
          refine (HAR.out _).mono ?_
          rintro e w2 ⟨rfl, b2⟩
          have HR2 := hide (HR.out.next b2)
          have u0 := (HX.out.next HR2.out).cell 0 _ rfl
          have u1 := (HX.out.next HR2.out).cell 1 _ rfl
          have u2 := (HX.out.next HR2.out).cell 2 _ rfl
          clear b2
          go_wp2_with fail
          refine (HKI.out q _ (by omega) (HD.out.keep (Keep.of_below HR2.out))).mono ?_
          rintro e w3 ⟨k1, p1, A1, n1, c1, rfl, hd, b3⟩
          have HR3 := hide (HR2.out.next b3)
          clear b3 u0 u1 u2
          go_wp2_with fail
          refine (HSM.out _ _ _ _ _ _ hd).mono ?_
          rintro e w4 ⟨rfl, b4⟩
          have HR4 := hide (HR3.out.next b4)
          clear b4 hd
          go_wp2_with fail
          go_roundw
          case rel =>
            refine ⟨q + 1, by omega, by go_num, by rw [HE.out, HM.out], fun j hj => ?_, HR4⟩
            by_cases hjq : j = q
            · subst hjq; rw [hac]; exact hal
            · exact HAC.out j (by omega)
          case measure => simp [intOf]; omega
        · have HF := hide (fun w' => HP.out q w' hq HAC.out (Or.inr (by omega)))
          generalize hac : acc t l q = a at *
          have g2 : ¬ a ≤ (l : Int) := hal
          go_wp2_with fail
          refine (HAR.out _).mono ?_
          rintro e w2 ⟨rfl, b2⟩
          go_wp2_with fail
          go_ret
          exact HF.out _ ((HB.out.next HR.out).next b2)
      · have HF := hide (fun w' => HP.out q w' hq HAC.out (Or.inl (by omega)))
        generalize hac : acc t l q = a at *
        have g1 : ¬ (q : Int) < (ar : Int) := by omega
        go_wp2_with fail
        refine (HAR.out _).mono ?_
        rintro e w2 ⟨rfl, b2⟩
        go_wp2_with fail
        go_ret
        exact HF.out _ ((HB.out.next HR.out).next b2)
end Go.Proofs.Ytljocjjdfgpbaaa
/- append to a full list of whatever make. -/
namespace Go.Proofs.Ytljocjjdfgpbaaa
open Go.RowKit
open Wo

section
variable {P : Program} (w : World)
theorem run_append_full (base : Nat) (t ty e : TypeId) (i : TypeInfo) (z : Value) (size bytes : Nat) (ht : P.underlying t = some (.slice e)) (hi : P.info? e = some i) (hz : i.zero = some z)
    (hsize : i.size = size) (hby : i.bytes = bytes) (hzs : z.cells.size = size) (hsz : 0 < size) (hzn : NLs z.cells.toList)
    (B : Option Addr) (n : Nat) (xs : List Value) (hxl : xs.length = n * size) (hB : B = none → n = 0) (hold : ∀ b, B = some b → ∀ j u, xs[j]? = some u → w.cell? (b.add j) = some u) (hxn : NLs xs)
    (a : Addr) (m c : Nat) (hm : 0 < m) (news : List Value) (hl : news.length = m * size) (hnews : ∀ j u, news[j]? = some u → w.cell? (a.add j) = some u) (hnn : NLs news)
    (h63 : n + m ≤ maxLen) (hbytes : (n + m) * bytes ≤ 140737488355328) (hbase : base ≤ w.heap.size) :
    ∃ v' w', (Builtin.append_ #[t, t] ty #[.slice B n n, .slice (some a) m c]).run P w = .ok v' w' ∧ LRow e size w' base v' (n + m) (xs ++ news) ∧ Below w.heap.size w w' ∧ v'.ownBlock = some w.heap.size := by
  subst hsize
  subst hby
  have hsmall : n + m ≤ 9223372036854775807 := by simp only [maxLen] at h63; omega
  have hlen : (xs ++ news).length = (n + m) * i.size := by rw [List.length_append, hxl, hl, Nat.add_mul]
  have hzz : ∀ k, NLs (Builtin.zeroCells z.cells k).toList := by
    intro k u hu
    have h2 : u ∈ (Builtin.zeroCells z.cells k) := by simpa using hu
    unfold Builtin.zeroCells at h2
    obtain ⟨q, -, hq⟩ := Array.mem_map.1 h2
    have hlt : q % z.cells.size < z.cells.size := Nat.mod_lt _ (by omega)
    rw [getElem!_pos z.cells _ hlt] at hq
    exact hzn u (by rw [← hq]; simp)
  have grown : ∀ (old : Nat), old < n + m →
      LRow e i.size (w.drew.alloc (.cells (xs.toArray ++ news.toArray ++ Builtin.zeroCells z.cells (grownCap w (n + m) old e - (n + m))) e)) base
        (.slice (some ⟨w.heap.size, 0, none⟩) (n + m) (grownCap w (n + m) old e)) (n + m) (xs ++ news) ∧
      Below w.heap.size w (w.drew.alloc (.cells (xs.toArray ++ news.toArray ++ Builtin.zeroCells z.cells (grownCap w (n + m) old e - (n + m))) e)) := by
    intro old ho
    have hge := grownCap_ge w (n + m) old e
    have hcm : grownCap w (n + m) old e ≤ maxLen := grownCap_le_maxLen w (n + m) old e h63
    refine ⟨⟨hlen, .inr ⟨w.heap.size, _, _, rfl, hbase, heap_alloc_new w.drew _, hge, hcm, ?_, ?_, ?_⟩⟩, ⟨rfl, rfl, rfl, by simp, fun k hk => Below.heap_alloc w.drew _ k hk⟩⟩
    · simp only [Array.size_append, List.size_toArray, size_zeroCells, hzs, hxl, hl, ← Nat.add_mul]
      congr 1
      omega
    · simp only [Array.toList_append, List.append_assoc]
      rw [← List.append_assoc, ← hlen]
      exact List.take_left
    · simp only [Array.toList_append]
      exact (hxn.append hnn).append (hzz _)
  cases B with
  | none =>
    obtain rfl := hB rfl
    have hx : xs = [] := List.eq_nil_of_length_eq_zero (by simpa using hxl)
    subst hx
    have hr := run_append_nil (P := P) w t ty e i z ht hi hz a m c news hl hnews (by omega) (by omega) (by have hb := hbytes; simp only [Nat.zero_add] at hb; omega)
    have hgr := grown 0 (by omega)
    simp only [Nat.zero_add, List.nil_append, Array.empty_append] at hgr ⊢
    exact ⟨_, _, hr, hgr.1, hgr.2, rfl⟩
  | some b =>
    have hr := run_append_grow (P := P) w t ty e i z ht hi hz b n n xs hxl (hold b rfl) a m c news hl hnews (by omega) (by omega) (growslice_fits (by omega) hbytes)
    have hgr := grown n (by omega)
    exact ⟨_, _, hr, hgr.1, hgr.2, rfl⟩
end
theorem wpList_append_full {P : Program} {w : World} {ops : Array Oper} {rest : List Oper} {o : Oper} {a : Act} {Q : Exit → Act → World → Prop} (hgd : o.guard = none) (s x : Operand) (t : TypeId)
    (ho : o.op = .call { callee := .builtin .append, args := #[s, x], argTypes := #[t, t] }) (base : Nat) (e : TypeId) (i : TypeInfo) (z : Value) (size bytes : Nat) (ht : P.underlying t = some (.slice e)) (hi : P.info? e = some i) (hz : i.zero = some z)
    (hsize : i.size = size) (hby : i.bytes = bytes) (hzs : z.cells.size = size) (hsz : 0 < size) (hzn : NLs z.cells.toList)
    (B : Option Addr) (n : Nat) (hs : a.eval s = .slice B n n) (xs : List Value) (hxl : xs.length = n * size) (hB : B = none → n = 0) (hold : ∀ b, B = some b → ∀ j u, xs[j]? = some u → w.cell? (b.add j) = some u) (hxn : NLs xs)
    (ad : Addr) (m c : Nat) (hm : 0 < m) (news : List Value) (hx : a.eval x = .slice (some ad) m c) (hl : news.length = m * size) (hnews : ∀ j u, news[j]? = some u → w.cell? (ad.add j) = some u) (hnn : NLs news)
    (h63 : n + m ≤ maxLen) (hbytes : (n + m) * bytes ≤ 140737488355328) (hbase : base ≤ w.heap.size)
    (h : ∀ v' w', LRow e size w' base v' (n + m) (xs ++ news) → Below w.heap.size w w' → v'.ownBlock = some w.heap.size → wpList P ops Q rest (a.put o.dst v') w') : wpList P ops Q (o :: rest) a w := by
  obtain ⟨v', w', hr, h2, h3, h4⟩ := run_append_full (P := P) w base t o.type e i z size bytes ht hi hz hsize hby hzs hsz hzn B n xs hxl hB hold hxn ad m c hm news hl hnews hnn h63 hbytes hbase
  refine wpList_plain hgd fun K hK => ?_
  unfold Oper.wp
  rw [exec_append ho hs hx hr]
  exact hK _ _ (h v' w' h2 h3 h4)
theorem ltl_info : (Try.prog.info? 24).map (fun i => (i.zero, i.size, i.bytes)) = some (some (.agg #[.int .i64 0, .int .i64 0, .slice none 0 0]), 3, 40) := by kernel_rfl
theorem c3_nl (k p : Int) (A : Option Addr) (n c : Nat) : NLs (c3 k p A n c) := by
  intro u hu z e
  simp [c3] at hu
  rcases hu with rfl | rfl | rfl <;> cases e
theorem flat_nl {css : List (List Value)} (h : ∀ cs ∈ css, NLs cs) : NLs css.flatten := by
  intro u hu
  obtain ⟨cs, hc, hu⟩ := List.mem_flatten.1 hu
  exact h cs hc u hu
theorem flat_len {css : List (List Value)} (h : ∀ cs ∈ css, cs.length = 3) : css.flatten.length = css.length * 3 := by
  induction css with
  | nil => rfl
  | cons x xs ih =>
    rw [List.flatten_cons, List.length_append, ih (fun cs hc => h cs (by simp [hc])), h x (by simp), List.length_cons]
    omega
/-- The cells of several properties, in a row: what they are. -/
theorem KsIn.flat3 {S : Nat → Prop} {w : World} {A : Option Addr} {n : Nat} {kids : List LT} (h : KsIn S w A n kids) : ∃ css : List (List Value), css.length = n ∧ (∀ cs ∈ css, cs.length = 3) ∧ NLs css.flatten ∧ (∀ (j : Nat) (t : LT), kids[j]? = some t → ∃ cs : List Value, css[j]? = some cs ∧ DIn S w t cs) ∧ (0 < n → ∃ b o, A = some ⟨b, o, none⟩ ∧ S b ∧ b < w.heap.size ∧ ∀ j u, css.flatten[j]? = some u → w.cell? ⟨b, o + j, none⟩ = some u) := by
  obtain ⟨css, h1, h2, h3, h4⟩ := h.flat
  refine ⟨css, h1, h2, flat_nl (fun cs hc => ?_), h3, h4⟩
  obtain ⟨j, hj, rfl⟩ := List.mem_iff_getElem.1 hc
  have hk : j < kids.length := by rw [h.1]; omega
  obtain ⟨cs', e1, e2⟩ := h3 j kids[j] (List.getElem?_eq_getElem hk)
  rw [List.getElem?_eq_getElem hj] at e1
  injection e1 with e1
  rw [e1]
  obtain ⟨A1, n1, c1, hv, -⟩ := e2.open_
  rw [hv]; exact c3_nl _ _ _ _ _
end Go.Proofs.Ytljocjjdfgpbaaa
/- slices.Clip of properties; word.first. -/
namespace Go.Proofs.Ytljocjjdfgpbaaa
open Go.RowKit
open Wo

set_option maxHeartbeats 4000000 in
theorem clip_any (A : Option Addr) (n c : Nat) (w : World) (hA : A = none → n = 0 ∧ c = 0) (hc : n ≤ c) : Calls Try.prog 53 #[.slice A n c] w (fun e w' => e = .returned (.slice A n n) ∧ Below w.heap.size w w') := by
  cases A with
  | none =>
    obtain ⟨rfl, rfl⟩ := hA rfl
    go_enter Try.func53, Try.ntmps53
    go_wp2_with fail
    go_ret
    exact ⟨rfl, Below.refl _ _⟩
  | some a =>
    go_enter Try.func53, Try.ntmps53
    go_wp2_with fail
    go_ret
    exact ⟨rfl, Below.refl _ _⟩
/-- Old blocks of S, and new ones. -/
def Up (S : Nat → Prop) (N b : Nat) : Prop := S b ∨ N ≤ b
/-- A list of properties of the call's own. -/
def KRow (S : Nat → Prop) (w : World) (base : Nat) (v : Value) (q : Nat) (ks : List LT) : Prop :=
  ks.length = q ∧ ∃ css : List (List Value), css.length = q ∧ (∀ cs ∈ css, cs.length = 3) ∧ LRow 24 3 w base v q css.flatten ∧ ∀ (j : Nat) (t : LT), ks[j]? = some t → ∃ cs : List Value, css[j]? = some cs ∧ DIn S w t cs
theorem KRow.ksIn {S : Nat → Prop} {w : World} {base q d : Nat} {B : Option Addr} {ks : List LT} (h : KRow S w base (.slice B q d) q ks) : KsIn (Up S base) w B q ks := by
  obtain ⟨h1, css, h2, h3, h4, h5⟩ := h
  rcases Nat.eq_zero_or_pos q with h0 | h0
  · subst h0
    have : ks = [] := List.eq_nil_of_length_eq_zero h1
    subst this
    exact KsIn.nil _ _ _
  · obtain ⟨g, rfl, hb, hlt, hc⟩ := h4.cell h0
    have := KsIn.of_flat (S := Up S base) (w := w) (kids := ks) (b := g) (o := 0) (css := css) (by omega) h3 (Or.inr hb) hlt (fun j u hu => by rw [Nat.zero_add]; exact (hc j u hu).1) (fun j t ht => by
      obtain ⟨cs, e1, e2⟩ := h5 j t ht
      exact ⟨cs, e1, e2.sub (fun b _ hb => Or.inl hb)⟩)
    rw [h1] at this
    exact this
theorem KRow.below {S : Nat → Prop} {w w' : World} {base q : Nat} {v : Value} {ks : List LT} (h : KRow S w base v q ks) (hb : Below w.heap.size w w') : KRow S w' base v q ks := by
  obtain ⟨h1, css, h2, h3, h4, h5⟩ := h
  exact ⟨h1, css, h2, h3, h4.below hb, fun j t ht => by
    obtain ⟨cs, e1, e2⟩ := h5 j t ht
    exact ⟨cs, e1, e2.keep (Keep.of_below hb)⟩⟩
theorem KRow.add {S : Nat → Prop} {w w' : World} {base q : Nat} {v' : Value} {ks : List LT} {t : LT} {cs : List Value} {css : List (List Value)} (h1 : ks.length = q) (h2 : css.length = q) (h3 : ∀ cs ∈ css, cs.length = 3) (h5 : ∀ (j : Nat) (t : LT), ks[j]? = some t → ∃ cs : List Value, css[j]? = some cs ∧ DIn S w t cs)
    (hl : LRow 24 3 w' base v' (q + 1) (css.flatten ++ cs)) (hc : cs.length = 3) (hk : Keep S w w') (hd : DIn S w' t cs) : KRow S w' base v' (q + 1) (ks ++ [t]) := by
  refine ⟨by simp [h1], css ++ [cs], by simp [h2], fun x hx => ?_, by rw [List.flatten_append]; simpa using hl, fun j u hu => ?_⟩
  · rcases List.mem_append.1 hx with hx | hx
    · exact h3 x hx
    · simp at hx; subst hx; exact hc
  · rcases Nat.lt_or_ge j q with hj | hj
    · rw [List.getElem?_append_left (by omega)] at hu
      obtain ⟨c, e1, e2⟩ := h5 j u hu
      exact ⟨c, by rw [List.getElem?_append_left (by omega)]; exact e1, e2.keep hk⟩
    · rw [List.getElem?_append_right (by omega), h1] at hu
      have hj0 : j - q = 0 := by
        rcases Nat.eq_zero_or_pos (j - q) with q0 | q0
        · exact q0
        · rw [List.getElem?_eq_none (by simp; omega)] at hu; cases hu
      rw [hj0] at hu
      simp at hu
      subst hu
      exact ⟨cs, by rw [List.getElem?_append_right (by omega), h2, hj0]; rfl, hd⟩
def pad (kids : List LT) (q : Nat) : List LT := (kids ++ [lff, lff]).take q
theorem pad_len {kids : List LT} {q : Nat} (h : q ≤ kids.length + 2) : (pad kids q).length = q := by simp [pad]; omega
theorem pad_take {kids : List LT} {q : Nat} (h : q ≤ kids.length) : pad kids q = kids.take q := by unfold pad; rw [List.take_append_of_le_length h]
theorem pad_get {kids : List LT} {q i : Nat} (hi : i < q) (h : q ≤ kids.length + 2) : (pad kids q)[i]? = some (kids.getD i lff) := by
  unfold pad
  rw [List.getElem?_take, if_pos hi]
  rcases Nat.lt_or_ge i kids.length with hj | hj
  · rw [List.getElem?_append_left hj, List.getD_eq_getElem?_getD, List.getElem?_eq_getElem hj]; rfl
  · rw [List.getElem?_append_right hj, List.getD_eq_getElem?_getD, List.getElem?_eq_none hj]
    have : i - kids.length = 0 ∨ i - kids.length = 1 := by omega
    rcases this with e | e <;> rw [e] <;> rfl
theorem pad_succ {kids : List LT} {q : Nat} (h1 : kids.length ≤ q) (h : q < kids.length + 2) : pad kids (q + 1) = pad kids q ++ [lff] := by
  unfold pad
  rw [List.take_append, List.take_append, List.take_of_length_le (l := kids) (i := q + 1) (by omega), List.take_of_length_le (l := kids) (i := q) h1, List.append_assoc]
  have : q - kids.length = 0 ∨ q - kids.length = 1 := by omega
  rcases this with e | e
  · rw [e, show q + 1 - kids.length = 1 by omega]; rfl
  · rw [e, show q + 1 - kids.length = 2 by omega]; rfl
/-- The list of kids while it is filled up: as it came in, or of the call's own. -/
def FInv (S : Nat → Prop) (w w' : World) (kids : List LT) (q : Nat) (B : Option Addr) (d : Nat) : Prop :=
  Below w.heap.size w w' ∧ (B = none → q = 0 ∧ d = 0) ∧ q ≤ d ∧ d ≤ 9223372036854775807 ∧ ((d = q ∧ KsIn S w' B q (pad kids q)) ∨ KRow S w' w.heap.size (.slice B q d) q (pad kids q))
def FirstPost (S : Nat → Prop) (kids : List LT) (m : Nat) (w : World) (e : Ending) (w' : World) : Prop :=
  ∃ B d, e = .returned (.slice B m d) ∧ KsIn (Up S w.heap.size) w' B m (pad kids m) ∧ m ≤ d ∧ d ≤ 9223372036854775807 ∧ (B = none → m = 0 ∧ d = 0) ∧ Below w.heap.size w w'
theorem FInv.post {S : Nat → Prop} {w w' : World} {kids : List LT} {m d : Nat} {B : Option Addr} (h : FInv S w w' kids m B d) : FirstPost S kids m w (.returned (.slice B m d)) w' := by
  obtain ⟨h1, h2, h3, h4, h5⟩ := h
  refine ⟨B, d, rfl, ?_, h3, h4, h2, h1⟩
  rcases h5 with ⟨-, h5⟩ | h5
  · exact h5.sub (fun b _ hb => Or.inl hb)
  · exact h5.ksIn
theorem FInv.next {S : Nat → Prop} {w w' w2 : World} {kids : List LT} {q d : Nat} {B : Option Addr} (h : FInv S w w' kids q B d) (hb : Below w'.heap.size w' w2) : FInv S w w2 kids q B d := by
  obtain ⟨h1, h2, h3, h4, h5⟩ := h
  refine ⟨h1.next hb, h2, h3, h4, ?_⟩
  rcases h5 with ⟨e, h5⟩ | h5
  · exact Or.inl ⟨e, h5.keep (Keep.of_below hb)⟩
  · exact Or.inr (h5.below hb)
/-- One more. -/
theorem FInv.append {S : Nat → Prop} {w w' : World} {kids : List LT} {q d : Nat} {B : Option Addr} (h : FInv S w w' kids q B d) (hS : ∀ b, S b → b < w.heap.size) (h1 : kids.length ≤ q) (h2 : q < kids.length + 2) (hq : q ≤ 100) {g : Nat} (hg : Box 24 w' g #[.int .i64 1, .int .i64 0, .slice none 0 0]) (ty : TypeId) :
    ∃ v' w2 B' d', (Builtin.append_ #[22, 22] ty #[.slice B q d, .slice (some ⟨g, 0, none⟩) 1 1]).run Try.prog w' = .ok v' w2 ∧ v' = .slice B' (q + 1) d' ∧ FInv S w w2 kids (q + 1) B' d' := by
  obtain ⟨i0, hi0, hz0, hz1, hz2⟩ := info_parts ltl_info
  have hnews : ∀ j u, (c3 1 0 none 0 0)[j]? = some u → w'.cell? ((⟨g, 0, none⟩ : Addr).add j) = some u := fun j u hu => by
    rw [addr_add, Nat.zero_add]
    exact hg.cell j u (by
      match j, hu with
      | 0, hu => exact hu
      | 1, hu => exact hu
      | 2, hu => exact hu
      | j + 3, hu => simp [c3] at hu)
  obtain ⟨hb, h2', h3, h4, h5⟩ := h
  have hpl := pad_len (kids := kids) (q := q) (by omega)
  rcases h5 with ⟨rfl, hk⟩ | ⟨hk1, css, hc1, hc2, hc3, hc4⟩
  · obtain ⟨css, hc1, hc2, hc3, hc4, hc5⟩ := hk.flat3
    obtain ⟨v', w2, hr, hl, hbw, -⟩ := run_append_full (P := Try.prog) w' w.heap.size 22 ty 24 i0 _ 3 40 Try.underlying22 hi0 hz0 hz1 hz2 rfl (by decide) (c3_nl _ _ _ _ _) B d css.flatten (by rw [flat_len hc2, hc1]) (fun e => (h2' e).1) (fun b hB j u hu => by
      have hd0 : 0 < d := by
        rcases Nat.eq_zero_or_pos d with q0 | q0
        · subst q0
          have : css = [] := List.eq_nil_of_length_eq_zero hc1
          subst this
          simp at hu
        · exact q0
      obtain ⟨b0, o, e, -, -, hcc⟩ := hc5 hd0
      rw [hB] at e; injection e with e; subst e
      rw [addr_add]; exact hcc j u hu) hc3 ⟨g, 0, none⟩ 1 1 (by decide) (c3 1 0 none 0 0) rfl hnews (c3_nl _ _ _ _ _) (by unfold maxLen; omega) (by omega) hb.size
    obtain ⟨B', d', rfl, e1, e2, e3⟩ := hl.len
    refine ⟨_, w2, B', d', hr, rfl, hb.next hbw, fun e => ?_, e1, e2, Or.inr ?_⟩
    · obtain ⟨g', hg'⟩ := e3 (by omega)
      rw [hg'] at e; cases e
    · rw [pad_succ h1 h2]
      exact KRow.add hpl hc1 hc2 hc4 hl rfl (Keep.of_below hbw) (DIn.leaf S w2 1 0)
  · obtain ⟨v', w2, hr, hl, hgr, -⟩ := run_append_lrow2 (P := Try.prog) w' w.heap.size 22 ty 24 i0 _ 3 40 Try.underlying22 hi0 hz0 hz1 hz2 rfl (by decide) (c3_nl _ _ _ _ _) (.slice B q d) q css.flatten hc3 ⟨g, 0, none⟩ 1 1 (c3 1 0 none 0 0) rfl hnews (fun u hu => by simp [c3] at hu; rcases hu with rfl | rfl | rfl <;> rfl) (c3_nl _ _ _ _ _) (by unfold maxLen; omega) (by omega) hb.size
    obtain ⟨B', d', rfl, e1, e2, e3⟩ := hl.len
    refine ⟨_, w2, B', d', hr, rfl, hb.trans (hc3.back hgr (Nat.le_refl _) hb.size), fun e => ?_, e1, e2, Or.inr ?_⟩
    · obtain ⟨g', hg'⟩ := e3 (by omega)
      rw [hg'] at e; cases e
    · rw [pad_succ h1 h2]
      exact KRow.add hpl hc1 hc2 hc4 hl rfl (Keep.grown hgr (fun b hb' e => by have := (hc3.lt b e).1; have := hS b hb'; omega)) (DIn.leaf S w2 1 0)
theorem wpList_append_ff {S : Nat → Prop} {w0 w : World} {ops : Array Oper} {rest : List Oper} {o : Oper} {a : Act} {Q : Exit → Act → World → Prop} {kids : List LT} {q d : Nat} {B : Option Addr} (hgd : o.guard = none) (s x : Operand)
    (ho : o.op = .call { callee := .builtin .append, args := #[s, x], argTypes := #[22, 22] }) (hs : a.eval s = .slice B q d) (h : FInv S w0 w kids q B d) (hS : ∀ b, S b → b < w0.heap.size) (h1 : kids.length ≤ q) (h2 : q < kids.length + 2) (hq : q ≤ 100) (g : Nat) (hx : a.eval x = .slice (some ⟨g, 0, none⟩) 1 1) (hg : Box 24 w g #[.int .i64 1, .int .i64 0, .slice none 0 0])
    (hK : ∀ w' B' d', FInv S w0 w' kids (q + 1) B' d' → wpList Try.prog ops Q rest (a.put o.dst (.slice B' (q + 1) d')) w') : wpList Try.prog ops Q (o :: rest) a w := by
  obtain ⟨v', w', B', d', hr, rfl, hf⟩ := h.append hS h1 h2 hq hg o.type
  refine wpList_plain hgd fun K hKK => ?_
  unfold Oper.wp
  rw [exec_append ho hs hx hr]
  exact hKK _ _ (hK w' B' d' hf)
def slen : Value → Nat
  | .slice _ n _ => n
  | _ => 0
set_option maxRecDepth 100000 in
set_option maxHeartbeats 8000000 in
theorem first_any (S : Nat → Prop) (A : Option Addr) (n c : Nat) (kids : List LT) (m : Nat) (w : World) (hk : KsIn S w A n kids) (hA : A = none → n = 0 ∧ c = 0) (hc : n ≤ c) (hc2 : c ≤ 9223372036854775807) (hm : m ≤ 2) (hS : ∀ b, S b → b < w.heap.size) :
    Calls Try.prog 51 #[.slice A n c, .int .i64 (m : Int)] w (FirstPost S kids m w) := by
  have hkl := hk.1
  obtain ⟨r, hr⟩ : ∃ r, min n m = r := ⟨_, rfl⟩
  have hr1 : r ≤ n := by omega
  have hr2 : r ≤ m := by omega
  have HR3 := hide (show r = n ∨ r = m from by omega)
  have H0 := hide (show FInv S w w kids r A r from ⟨Below.refl _ _, fun e => by have := hA e; omega, Nat.le_refl _, by omega, Or.inl ⟨rfl, by rw [pad_take (by omega)]; exact hk.take hr1⟩⟩)
  have HCL := hide (fun W => clip_any A r c W (fun e => by have := hA e; omega) (by omega))
  have hrc : r ≤ c := by omega
  have hlm : ∀ (w : World) (ts : Array TypeId) (t : TypeId) (k k' : IntKind), (Builtin.min_ ts t #[.int k (n : Int), .int k' (m : Int)]).run Try.prog w = .ok (.int k (r : Int)) w := fun w ts t k k' => by
    rw [run_min_int2]; congr 2; split <;> omega
  clear hk hr
  go_enter Try.func51, Try.ntmps51
  go_wp2_with fail
  refine (HCL.out _).mono ?_
  rintro e w1 ⟨rfl, b1⟩
  have H1 := hide (H0.out.next b1)
  clear b1 H0 HCL
  go_wp2_with fail
  go_loopw [0] (fun v wr => ∃ q B d, v = .slice B q d ∧ r ≤ q ∧ q ≤ m ∧ Hid (FInv S w wr kids q B d)) (fun v _ => 2 - slen v)
  case atStart => exact ⟨_, _, _, rfl, Nat.le_refl _, hr2, H1⟩
  case round =>
    obtain ⟨q, B, d, rfl, hq1, hq2, HF⟩ := hrel
    by_cases hqm : q < m
    · have g1 : (q : Int) < (m : Int) := by omega
      have hnq : kids.length ≤ q := by have := HR3.out; omega
      go_wp2_with fail
      refine (constant_any false _).mono ?_
      rintro e w2 ⟨rfl, b2⟩
      have HF2 := hide (HF.out.next b2)
      have hb3 := bl_alloc w2 (.cells #[.int .i64 1, .int .i64 0, .slice none 0 0] 24)
      have HF3 := hide (HF2.out.next hb3)
      have HX3 := hide (Box.new 24 w2 #[.int .i64 1, .int .i64 0, .slice none 0 0])
      clear b2 hb3 HF HF2
      go_wp2_with (at_builtin; refine wpList_append_ff rfl _ _ rfl rfl HF3.out hS hnq (by omega) (by omega) w2.heap.size rfl HX3.out ?_; intro w4 B' d' hf4; have HF4 := hide hf4; clear hf4)
      go_roundw
      case rel => exact ⟨q + 1, B', d', rfl, by omega, by omega, HF4⟩
      case measure => show 2 - (q + 1) < 2 - q; omega
    · have g1 : ¬ (q : Int) < (m : Int) := by omega
      obtain rfl : q = m := by omega
      go_wp2_with fail
      go_ret
      exact HF.out.post
end Go.Proofs.Ytljocjjdfgpbaaa
