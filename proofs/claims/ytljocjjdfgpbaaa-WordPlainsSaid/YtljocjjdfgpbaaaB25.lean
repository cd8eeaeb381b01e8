/- Texts of one seat, put together: WordW WordZ. -/
import Derived.Test.YtljocjjdfgpbaaaB19
set_option linter.unusedVariables false
/- word.Size. -/
namespace Go.Proofs.Ytljocjjdfgpbaaa
open Go.RowKit
open Wo

theorem size_cnt (t : LT) : (norm t).size = 1 + (((cnt t).kids.map fun x => (norm x).size)).sum := by
  rw [← norm_cnt t]
  rcases cnt_kinds t with ⟨h, hl⟩ | ⟨h, hl⟩ | ⟨h, hl⟩ | ⟨h, hl⟩
  · rw [hl, norm_k0 _ h]; rfl
  · rw [hl, norm_eq (cnt t), h]; rfl
  · rw [hl, norm_k2 _ h]; rfl
  · obtain ⟨k, hk⟩ : ∃ k : Nat, (cnt t).k = (k : Int) := by
      by_cases h1 : arity (cnt t).k = 1
      · have := arity_one h1; exact ⟨(cnt t).k.toNat, by omega⟩
      · have := arity_two (k := (cnt t).k) (by have := arity_le (cnt t).k; omega); exact ⟨(cnt t).k.toNat, by omega⟩
    by_cases h1 : arity (cnt t).k = 1
    · rw [norm_one hk h1, kids_one (by omega), Pr.size]; simp
    · have h2 : arity (cnt t).k = 2 := by have := arity_le (cnt t).k; omega
      rw [norm_two hk h2, kids_two (by omega), Pr.size]; simp; omega
def szTo (f : LT) (q : Nat) : Nat := 1 + ((f.kids.take q).map fun x => (norm x).size).sum
theorem szTo_succ {f : LT} {q : Nat} {x : LT} (h : f.kids[q]? = some x) : szTo f (q + 1) = szTo f q + (norm x).size := by
  unfold szTo
  rw [List.take_add_one, h]
  simp
  omega
theorem szTo_all {f : LT} {q : Nat} (h : f.kids.length ≤ q) : szTo f q = 1 + (f.kids.map fun x => (norm x).size).sum := by
  unfold szTo
  rw [List.take_of_length_le h]
theorem sum_take_le (l : List Nat) : ∀ q, (l.take q).sum ≤ l.sum := by
  induction l with
  | nil => intro q; simp
  | cons x xs ih =>
    intro q
    cases q with
    | zero => simp
    | succ q => simp; exact ih q
theorem szTo_le (f : LT) (q : Nat) : szTo f q ≤ 1 + (f.kids.map fun x => (norm x).size).sum := by
  unfold szTo
  have := sum_take_le (f.kids.map fun x => (norm x).size) q
  rw [← List.map_take] at this
  omega
theorem field_kids (a b : Value) (A : Option Addr) (n c : Nat) (w : World) : (Instr.field 24 (.agg #[a, b, .slice A n c]) 2).run Try.prog w = .ok (.slice A n c) w := by kernel_rfl
set_option maxRecDepth 100000 in
set_option maxHeartbeats 8000000 in
theorem wsize_any (Z : Nat) (hZ : Z ≤ 1000000) : ∀ (S : Nat → Prop) (t : LT) (k p : Int) (A : Option Addr) (n c : Nat) (w0 : World), (norm t).size ≤ Z → DIn S w0 t (c3 k p A n c) →
    Calls Try.prog 25 #[.agg #[.int .i64 k, .int .i64 p, .slice A n c]] w0 (fun e w' => e = .returned (.int .i64 ((norm t).size : Nat)) ∧ Below w0.heap.size w0 w') := by
  induction Z with
  | zero => intro S t k p A n c w0 hz; have := (norm t).size_pos; omega
  | succ Z ih =>
    intro S t k p A n c w0 hz hd
    have ih := ih (by omega)
    obtain ⟨x1, hb, hbz⟩ := bstart1 24 w0 #[.int .i64 k, .int .i64 p, .slice A n c]
    have cc0 := x1.cell 0 _ rfl
    have cc1 := x1.cell 1 _ rfl
    have cc2 := x1.cell 2 _ rfl
    have HB := hide hb
    have HCN := hide (counted_any S t k p A n c _ (hd.keep (Keep.of_below hb)))
    have HSC := hide (size_cnt t)
    have HSM := hide (fun (q : Nat) (hq : q < (cnt t).kids.length) => cnt_small hz hq)
    clear hb hbz hd x1
    go_enter Try.func25, Try.ntmps25
    go_wp2_with fail
    generalize hW : w0.alloc (.cells #[.int .i64 k, .int .i64 p, .slice A n c] 24) = W1 at *
    clear hW cc0 cc1 cc2
    refine HCN.out.mono ?_
    rintro e w2 ⟨k2, p2, A2, n2, c2, rfl, hd2, b2⟩
    obtain ⟨-, -, hks, -, -, hA2⟩ := hd2.parts
    have HKS := hide hks
    have HL := hide hks.1
    have hn2 : n2 ≤ 2 := by rw [← hks.1]; exact cnt_few t
    have HB2 := hide (HB.out.next b2)
    have HS0 := hide (show Below w2.heap.size w2 w2 from Below.refl _ _)
    clear hd2 b2 HCN hks hA2
    have hfk := fun a b A n c W => field_kids a b A n c W
    go_wp2_with fail
    go_loopw [10, 3, 5] (fun i s m wr => ∃ q : Nat, q ≤ n2 ∧ i = .int .i64 q ∧ s = .int .i64 (szTo (cnt t) q : Nat) ∧ Hid (Below w2.heap.size w2 wr)) (fun i _ _ _ => n2 - (intOf i).toNat)
    case atStart => exact ⟨0, Nat.zero_le _, rfl, rfl, HS0⟩
    case round =>
      obtain ⟨q, hq, rfl, rfl, HR⟩ := hrel
      by_cases hqn : q < n2
      · obtain ⟨be, oe, tK, kK, pK, AK, nK, cK, hA5, hlt, hkid, hdk, d0, d1, d2⟩ := (HKS.out.keep (Keep.of_below HR.out)).at_ hqn
        subst hA5
        have HKD := hide (show (cnt t).kid q = tK from by unfold LT.kid; rw [List.getD_eq_getElem?_getD, hkid]; rfl)
        have HIH := hide (fun W (h : Below wr.heap.size wr W) => ih _ tK kK pK AK nK cK W (by rw [← HKD.out]; exact HSM.out q (by rw [HL.out]; exact hqn)) (hdk.keep (Keep.of_below h)))
        have hst := szTo_succ hkid
        have hle := szTo_le (cnt t) (q + 1)
        rw [← HSC.out] at hle
        have HST := hide hst
        obtain ⟨z1, hz1⟩ : ∃ z, z = szTo (cnt t) q := ⟨_, rfl⟩
        obtain ⟨z2, hz2⟩ : ∃ z, z = (norm tK).size := ⟨_, rfl⟩
        rw [← hz1, ← hz2] at hst
        rw [hst] at hle
        rw [← hz2] at HIH
        rw [← hz1]
        have hzz : z1 + z2 ≤ 1000000 := by omega
        have HZ := hide (show szTo (cnt t) (q + 1) = z1 + z2 from hst)
        clear hdk hkid hst hle hz1 hz2 HST
        go_wp2_with fail
        have hb9 := bl_alloc wr (.cells #[.int .i64 kK, .int .i64 pK, .slice AK nK cK] 24)
        refine (HIH.out _ hb9).mono ?_
        rintro e w8 ⟨rfl, b8⟩
        have HR8 := hide ((HR.out.next hb9).next b8)
        clear b8 hb9 d0 d1 d2
        go_wp2_with fail
        go_roundw
        case rel => exact ⟨q + 1, by omega, by go_num, by rw [HZ.out]; go_num, HR8⟩
        case measure => simp [intOf]; omega
      · obtain rfl : q = n2 := by omega
        have HE := hide (show (norm t).size = szTo (cnt t) q from by rw [HSC.out, szTo_all (by rw [HL.out]; exact Nat.le_refl _)])
        have HBQ := hide (HB2.out.next HR.out)
        go_wp2_with fail
        go_ret
        exact ⟨by rw [HE.out]; rfl, HBQ.out⟩
end Go.Proofs.Ytljocjjdfgpbaaa
/- plumblinelaw15: one, two, as, few. -/
namespace Go.Proofs.Ytljocjjdfgpbaaa
open Go.RowKit
open Wo

/-- The answer is a property with these kids. -/
def MkPost (S : Nat → Prop) (M : Nat) (k : Int) (ks : List LT) (w : World) (e : Ending) (w' : World) : Prop :=
  ∃ A n c, e = .returned (.agg #[.int .i64 k, .int .i64 0, .slice A n c]) ∧ DIn (Up S M) w' (.mk k 0 ks) (c3 k 0 A n c) ∧ Below w.heap.size w w'
set_option maxHeartbeats 4000000 in
theorem lone_any (S : Nat → Prop) (M : Nat) (k0 : Int) (t : LT) (k p : Int) (A : Option Addr) (n c : Nat) (w0 : World) (hd : DIn (Up S M) w0 t (c3 k p A n c)) (hM : M ≤ w0.heap.size) :
    Calls Try.prog 19 #[.int .i64 k0, .agg #[.int .i64 k, .int .i64 p, .slice A n c]] w0 (MkPost S M k0 [t] w0) := by
  obtain ⟨x1, x2, hb, hbz⟩ := bstart2 24 24 w0 #[.int .i64 k, .int .i64 p, .slice A n c] #[.int .i64 0, .int .i64 0, .slice none 0 0]
  have cc0 := x1.cell 0 _ rfl
  have cc1 := x1.cell 1 _ rfl
  have cc2 := x1.cell 2 _ rfl
  have HB := hide hb
  have x5 := x2.next (bl_alloc _ (.cells #[.int .i64 k, .int .i64 p, .slice A n c] 24))
  have HD := hide ((hd.sub (fun b hlt hs => (⟨hs, hlt⟩ : UpN (Up S M) w0.heap.size b))).keep (Keep.of_below hb))
  have HM := hide hbz
  clear hb hbz hd x1
  go_enter Try.func19, Try.ntmps19
  go_wp2_with (with_reducible refine wpList_store_box rfl 24 _ _ rfl (w0.heap.size + 1) #[.int .i64 k0, .int .i64 0, .slice (some ⟨_, 0, none⟩) 1 1] rfl rfl _ x5 (by kernel_rfl) rfl (by simp [Value.oneCell']) ?_; intro w9 k9 ho9)
  have hk := (kids_new1 (S := UpN (Up S M) w0.heap.size) (M := w0.heap.size + 2) (HD.out.sub (fun b _ h => .inl h)) (by have := HM.out; omega)).keep (Keep.of_only (g := w0.heap.size + 1) (w' := w9) ho9 (fun h => by rcases h with ⟨-, h⟩ | h <;> omega))
  rw [HM.out] at hk
  refine bodyPost_lt rfl rfl k9 rfl ?_
  refine ⟨_, 1, 1, rfl, (DIn.close (c := 1) k0 0 hk (by omega) (by omega) (fun h => by cases h)).sub (fun b _ h => ?_), (HB.out.next (bl_alloc _ _)).trans (ho9.below (HB.out.next (bl_alloc _ _)).size (by omega))⟩
  rcases h with h | h
  · exact h.1
  · exact .inr (by omega)
set_option maxHeartbeats 4000000 in
theorem ltwo_any (S : Nat → Prop) (M : Nat) (k0 : Int) (t u : LT) (k p : Int) (A : Option Addr) (n c : Nat) (k' p' : Int) (A' : Option Addr) (n' c' : Nat) (w0 : World) (hd : DIn (Up S M) w0 t (c3 k p A n c)) (hd' : DIn (Up S M) w0 u (c3 k' p' A' n' c')) (hM : M ≤ w0.heap.size) :
    Calls Try.prog 18 #[.int .i64 k0, .agg #[.int .i64 k, .int .i64 p, .slice A n c], .agg #[.int .i64 k', .int .i64 p', .slice A' n' c']] w0 (MkPost S M k0 [t, u] w0) := by
  obtain ⟨x1, x1', hb0, hbz0⟩ := bstart2 24 24 w0 #[.int .i64 k, .int .i64 p, .slice A n c] #[.int .i64 k', .int .i64 p', .slice A' n' c']
  have hba := bl_alloc ((w0.alloc (.cells #[.int .i64 k, .int .i64 p, .slice A n c] 24)).alloc (.cells #[.int .i64 k', .int .i64 p', .slice A' n' c'] 24)) (.cells #[.int .i64 0, .int .i64 0, .slice none 0 0] 24)
  have x2 := Box.new 24 ((w0.alloc (.cells #[.int .i64 k, .int .i64 p, .slice A n c] 24)).alloc (.cells #[.int .i64 k', .int .i64 p', .slice A' n' c'] 24)) #[.int .i64 0, .int .i64 0, .slice none 0 0]
  rw [hbz0] at x2
  have cc0 := (x1.next hba).cell 0 _ rfl
  have cc1 := (x1.next hba).cell 1 _ rfl
  have cc2 := (x1.next hba).cell 2 _ rfl
  have dd0 := (x1'.next hba).cell 0 _ rfl
  have dd1 := (x1'.next hba).cell 1 _ rfl
  have dd2 := (x1'.next hba).cell 2 _ rfl
  have hb := hb0.next hba
  have HB := hide hb
  have x5 := x2.next (bl_alloc _ (.cells #[.int .i64 k, .int .i64 p, .slice A n c, .int .i64 k', .int .i64 p', .slice A' n' c'] 24))
  have HD := hide ((hd.sub (fun b hlt hs => (⟨hs, hlt⟩ : UpN (Up S M) w0.heap.size b))).keep (Keep.of_below hb))
  have HD' := hide ((hd'.sub (fun b hlt hs => (⟨hs, hlt⟩ : UpN (Up S M) w0.heap.size b))).keep (Keep.of_below hb))
  have HM := hide (show _ = w0.heap.size + 3 from (size_alloc2 ((w0.alloc (.cells #[.int .i64 k, .int .i64 p, .slice A n c] 24)).alloc (.cells #[.int .i64 k', .int .i64 p', .slice A' n' c'] 24)) (.cells #[.int .i64 0, .int .i64 0, .slice none 0 0] 24)).trans (by rw [hbz0]))
  clear hb hba hbz0 hb0 hd hd' x1 x1' x2
  go_enter Try.func18, Try.ntmps18
  go_wp2_with (with_reducible refine wpList_store_box rfl 24 _ _ rfl (w0.heap.size + 2) #[.int .i64 k0, .int .i64 0, .slice (some ⟨_, 0, none⟩) 2 2] rfl rfl _ x5 (by kernel_rfl) rfl (by simp [Value.oneCell']) ?_; intro w9 k9 ho9)
  have hk := (kids_new2 (S := UpN (Up S M) w0.heap.size) (M := w0.heap.size + 3) (HD.out.sub (fun b _ h => .inl h)) (HD'.out.sub (fun b _ h => .inl h)) (by have := HM.out; omega)).keep (Keep.of_only (g := w0.heap.size + 2) (w' := w9) ho9 (fun h => by rcases h with ⟨-, h⟩ | h <;> omega))
  rw [HM.out] at hk
  refine bodyPost_lt rfl rfl k9 rfl ?_
  refine ⟨_, 2, 2, rfl, (DIn.close (c := 2) k0 0 hk (by omega) (by omega) (fun h => by cases h)).sub (fun b _ h => ?_), (HB.out.next (bl_alloc _ _)).trans (ho9.below (HB.out.next (bl_alloc _ _)).size (by omega))⟩
  rcases h with h | h
  · exact h.1
  · exact .inr (by omega)
set_option maxHeartbeats 4000000 in
theorem as_any (A1 : Option Addr) (n1 c1 : Nat) (A2 : Option Addr) (n2 c2 : Nat) (w0 : World) : Calls Try.prog 15 #[.agg #[.slice A1 n1 c1, .slice A2 n2 c2]] w0 (fun e w' => e = .returned (.agg #[.slice A1 n1 c1, .slice A2 n2 c2]) ∧ Below w0.heap.size w0 w') := by
  obtain ⟨x1, x2, hb, hbz⟩ := bstart2 27 34 w0 #[.slice A1 n1 c1, .slice A2 n2 c2] #[.slice none 0 0, .slice none 0 0]
  have cc0 := x1.cell 0 _ rfl
  have cc1 := x1.cell 1 _ rfl
  have HB := hide hb
  clear hb hbz x1
  go_enter Try.func15, Try.ntmps15
  go_wp2_with (with_reducible refine wpList_store_box rfl 34 _ _ rfl (w0.heap.size + 1) #[.slice A1 n1 c1, .slice A2 n2 c2] rfl rfl _ x2 (by kernel_rfl) rfl (by simp [Value.oneCell']) ?_; intro w9 k9 ho9)
  refine bodyPost_ret (results_cell_row rfl _ _ _ _ #[.slice A1 n1 c1, .slice A2 n2 c2] _ _ rfl k9 Try.underlying34 rfl (by kernel_rfl)) rfl ?_
  exact ⟨rfl, HB.out.trans (ho9.below HB.out.size (by omega))⟩
def LFewPost (t : LT) (L1 L2 : List (List Bool)) (w : World) (e : Ending) (w' : World) : Prop :=
  ∃ b : Bool, e = .returned (.bool b) ∧ (b = true → (norm t).sizeL 14 ≤ 14 ∧ L1.length + L2.length ≤ 7 ∧ (∀ (j : Nat) (l : List Bool), L1[j]? = some l → l.length ≤ 100) ∧ (∀ (j : Nat) (l : List Bool), L2[j]? = some l → l.length ≤ 100)) ∧ Below w.heap.size w w'
set_option maxHeartbeats 8000000 in
theorem lfew_any (S : Nat → Prop) (t : LT) (k p : Int) (A : Option Addr) (n c : Nat) (A1 : Option Addr) (n1 c1 : Nat) (A2 : Option Addr) (n2 c2 : Nat) (L1 L2 : List (List Bool)) (w0 : World) (hd : DIn S w0 t (c3 k p A n c)) (h1 : LsIn S w0 A1 n1 L1) (h2 : LsIn S w0 A2 n2 L2) (hn : n1 ≤ 4611686018427387903) (hm : n2 ≤ 4611686018427387903) :
    Calls Try.prog 9 #[.agg #[.int .i64 k, .int .i64 p, .slice A n c], .agg #[.slice A1 n1 c1, .slice A2 n2 c2]] w0 (LFewPost t L1 L2 w0) := by
  obtain ⟨x2, x3, hb, hbz⟩ := bstart2 24 27 w0 #[.int .i64 k, .int .i64 p, .slice A n c] #[.slice A1 n1 c1, .slice A2 n2 c2]
  have X2 := hide x2
  have X3 := hide x3
  have HB := hide hb
  have HS := hide (fun W (h : Below w0.heap.size w0 W) => size_any 14 (by decide) S t k p A n c W (hd.keep (Keep.of_below h)))
  have HD := hide (fun W (h : Below w0.heap.size w0 W) => deep_any 6 5 (by decide) (by decide) (by decide) S t k p A n c W (hd.keep (Keep.of_below h)))
  have HF := hide (fun W (h : Below w0.heap.size w0 W) => few_any S A1 A2 n1 c1 n2 c2 L1 L2 7 W (h1.keep (Keep.of_below h)) (h2.keep (Keep.of_below h)) hn hm)
  have HAS := hide (fun W => as_any A1 n1 c1 A2 n2 c2 W)
  unfold SizePost at HS
  unfold SomeBool at HD
  have cc0 := x2.cell 0 _ rfl
  have cc1 := x2.cell 1 _ rfl
  have cc2 := x2.cell 2 _ rfl
  obtain ⟨z, hz⟩ : ∃ z, z = (norm t).sizeL 14 := ⟨_, rfl⟩
  have HS := hide HS.out
  rw [show ((14 : Nat) : Int) = 14 from rfl, ← hz] at HS
  have HNO := hide (show ∀ w', Below w0.heap.size w0 w' → LFewPost t L1 L2 w0 (.returned (.bool false)) w' from fun w' h => ⟨false, rfl, fun h => (by cases h), h⟩)
  have HZ := hide hz
  clear hb hbz hd h1 h2 x2 x3 hz
  by_cases hz14 : z ≤ 14
  · go_enter Try.func9, Try.ntmps9
    go_wp2_with fail
    refine (HS.out _ HB.out).mono ?_
    rintro e w2 ⟨rfl, b2⟩
    have HB2 := hide (HB.out.next b2)
    have cc0 := (X2.out.next b2).cell 0 _ rfl
    have cc1 := (X2.out.next b2).cell 1 _ rfl
    have cc2 := (X2.out.next b2).cell 2 _ rfl
    have X3 := hide (X3.out.next b2)
    clear b2
    go_wp2_with fail
    refine (HD.out _ HB2.out).mono ?_
    rintro e w3 ⟨bd, rfl, b3⟩
    have HB3 := hide (HB2.out.next b3)
    have e0 := (X3.out.next b3).cell 0 _ rfl
    have e1 := (X3.out.next b3).cell 1 _ rfl
    clear b3 cc0 cc1 cc2
    cases bd
    · go_wp2_with fail
      go_ret
      exact HNO.out _ HB3.out
    · go_wp2_with fail
      refine (HAS.out _).mono ?_
      rintro e w4 ⟨rfl, b4⟩
      have HB4 := hide (HB3.out.next b4)
      clear b4
      go_wp2_with fail
      refine (HF.out _ HB4.out).mono ?_
      rintro e w5 ⟨bf, rfl, hf, b5⟩
      have HB5 := hide (HB4.out.next b5)
      have HFF := hide hf
      clear hf b5
      go_wp2_with fail
      go_ret
      exact ⟨bf, rfl, fun h => ⟨by rw [← HZ.out]; exact hz14, by have := (HFF.out h).1; omega, (HFF.out h).2⟩, HB5.out⟩
  · have g1 : ¬ z ≤ 14 := hz14
    go_enter Try.func9, Try.ntmps9
    go_wp2_with fail
    refine (HS.out _ HB.out).mono ?_
    rintro e w2 ⟨rfl, b2⟩
    have HB2 := hide (HB.out.next b2)
    clear b2
    go_wp2_with fail
    go_ret
    exact HNO.out _ HB2.out
end Go.Proofs.Ytljocjjdfgpbaaa
