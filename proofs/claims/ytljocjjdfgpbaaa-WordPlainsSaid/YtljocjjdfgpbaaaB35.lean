/- Texts of one seat, put together: WordRp. -/
import Derived.Test.YtljocjjdfgpbaaaB28
import Derived.Test.YtljocjjdfgpbaaaB27
set_option linter.unusedVariables false
/- plumblineref15.not, two, Plain. -/
namespace Go.Proofs.Ytljocjjdfgpbaaa
open Go.RowKit
open Wo

set_option maxHeartbeats 4000000 in
theorem rnot_any (S : Nat → Prop) (M : Nat) (t : LT) (k p : Int) (A : Option Addr) (n c : Nat) (w0 : World) (hd : DIn (Up S M) w0 t (c3 k p A n c)) (hM : M ≤ w0.heap.size) :
    Calls Try.prog 40 #[.agg #[.int .i64 k, .int .i64 p, .slice A n c]] w0 (MkPost S M 3 [t] w0) := by
  obtain ⟨x1, x2, hb, hbz⟩ := bstart2 24 24 w0 #[.int .i64 k, .int .i64 p, .slice A n c] #[.int .i64 0, .int .i64 0, .slice none 0 0]
  have cc0 := x1.cell 0 _ rfl
  have cc1 := x1.cell 1 _ rfl
  have cc2 := x1.cell 2 _ rfl
  have HB := hide hb
  have x5 := x2.next (bl_alloc _ (.cells #[.int .i64 k, .int .i64 p, .slice A n c] 24))
  have HD := hide ((hd.sub (fun b hlt hs => (⟨hs, hlt⟩ : UpN (Up S M) w0.heap.size b))).keep (Keep.of_below hb))
  have HM := hide hbz
  clear hb hbz hd x1
  go_enter Try.func40, Try.ntmps40
  go_wp2_with (with_reducible refine wpList_store_box rfl 24 _ _ rfl (w0.heap.size + 1) #[.int .i64 3, .int .i64 0, .slice (some ⟨_, 0, none⟩) 1 1] rfl rfl _ x5 (by kernel_rfl) rfl (by simp [Value.oneCell']) ?_; intro w9 k9 ho9)
  have hk := (kids_new1 (S := UpN (Up S M) w0.heap.size) (M := w0.heap.size + 2) (HD.out.sub (fun b _ h => .inl h)) (by have := HM.out; omega)).keep (Keep.of_only (g := w0.heap.size + 1) (w' := w9) ho9 (fun h => by rcases h with ⟨-, h⟩ | h <;> omega))
  rw [HM.out] at hk
  refine bodyPost_lt rfl rfl k9 rfl ?_
  refine ⟨_, 1, 1, rfl, (DIn.close (c := 1) 3 0 hk (by omega) (by omega) (fun h => by cases h)).sub (fun b _ h => ?_), (HB.out.next (bl_alloc _ _)).trans (ho9.below (HB.out.next (bl_alloc _ _)).size (by omega))⟩
  rcases h with h | h
  · exact h.1
  · exact .inr (by omega)
set_option maxHeartbeats 4000000 in
theorem rtwo_any (S : Nat → Prop) (M : Nat) (k0 : Int) (t u : LT) (k p : Int) (A : Option Addr) (n c : Nat) (k' p' : Int) (A' : Option Addr) (n' c' : Nat) (w0 : World) (hd : DIn (Up S M) w0 t (c3 k p A n c)) (hd' : DIn (Up S M) w0 u (c3 k' p' A' n' c')) (hM : M ≤ w0.heap.size) :
    Calls Try.prog 39 #[.int .i64 k0, .agg #[.int .i64 k, .int .i64 p, .slice A n c], .agg #[.int .i64 k', .int .i64 p', .slice A' n' c']] w0 (MkPost S M k0 [t, u] w0) := by
  obtain ⟨x1, x1', hb0, hbz0⟩ := bstart2 24 24 w0 #[.int .i64 k, .int .i64 p, .slice A n c] #[.int .i64 k', .int .i64 p', .slice A' n' c']
  have hba := bl_alloc ((w0.alloc (.cells #[.int .i64 k, .int .i64 p, .slice A n c] 24)).alloc (.cells #[.int .i64 k', .int .i64 p', .slice A' n' c'] 24)) (.cells #[.int .i64 0, .int .i64 0, .slice none 0 0] 24)
  have x2 := Box.new 24 ((w0.alloc (.cells #[.int .i64 k, .int .i64 p, .slice A n c] 24)).alloc (.cells #[.int .i64 k', .int .i64 p', .slice A' n' c'] 24)) #[.int .i64 0, .int .i64 0, .slice none 0 0]
  rw [hbz0] at x2
  have cc0 := (x1.next hba).cell 0 _ rfl
  have cc1 := (x1.next hba).cell 1 _ rfl
  have cc2 := (x1.next hba).cell 2 _ rfl
  have dd0 := (x1'.next hba).cell 0 _ rfl
  have dd1 := (x1'.next hba).cell 1 _ rfl
  have dd2 := (x1'.next hba).cell 2 _ rfl
  have hb := hb0.next hba
  have HB := hide hb
  have x5 := x2.next (bl_alloc _ (.cells #[.int .i64 k, .int .i64 p, .slice A n c, .int .i64 k', .int .i64 p', .slice A' n' c'] 24))
  have HD := hide ((hd.sub (fun b hlt hs => (⟨hs, hlt⟩ : UpN (Up S M) w0.heap.size b))).keep (Keep.of_below hb))
  have HD' := hide ((hd'.sub (fun b hlt hs => (⟨hs, hlt⟩ : UpN (Up S M) w0.heap.size b))).keep (Keep.of_below hb))
  have HM := hide (show _ = w0.heap.size + 3 from (size_alloc2 ((w0.alloc (.cells #[.int .i64 k, .int .i64 p, .slice A n c] 24)).alloc (.cells #[.int .i64 k', .int .i64 p', .slice A' n' c'] 24)) (.cells #[.int .i64 0, .int .i64 0, .slice none 0 0] 24)).trans (by rw [hbz0]))
  clear hb hba hbz0 hb0 hd hd' x1 x1' x2
  go_enter Try.func39, Try.ntmps39
  go_wp2_with (with_reducible refine wpList_store_box rfl 24 _ _ rfl (w0.heap.size + 2) #[.int .i64 k0, .int .i64 0, .slice (some ⟨_, 0, none⟩) 2 2] rfl rfl _ x5 (by kernel_rfl) rfl (by simp [Value.oneCell']) ?_; intro w9 k9 ho9)
  have hk := (kids_new2 (S := UpN (Up S M) w0.heap.size) (M := w0.heap.size + 3) (HD.out.sub (fun b _ h => .inl h)) (HD'.out.sub (fun b _ h => .inl h)) (by have := HM.out; omega)).keep (Keep.of_only (g := w0.heap.size + 2) (w' := w9) ho9 (fun h => by rcases h with ⟨-, h⟩ | h <;> omega))
  rw [HM.out] at hk
  refine bodyPost_lt rfl rfl k9 rfl ?_
  refine ⟨_, 2, 2, rfl, (DIn.close (c := 2) k0 0 hk (by omega) (by omega) (fun h => by cases h)).sub (fun b _ h => ?_), (HB.out.next (bl_alloc _ _)).trans (ho9.below (HB.out.next (bl_alloc _ _)).size (by omega))⟩
  rcases h with h | h
  · exact h.1
  · exact .inr (by omega)
/-- A measure that goes down. -/
def meas : Pr → Nat
  | .tt => 1
  | .ff => 1
  | .cmp _ => 1
  | .una k a => (if k = 9 ∨ k = 10 then 3 else 1) + meas a
  | .bin k a b => (if k = 7 then 3 else 1) + meas a + meas b
theorem meas_pos (p : Pr) : 0 < meas p := by cases p <;> simp [meas] <;> (try split) <;> omega
def PLtlS (S0 : Nat → Prop) (t : LT) (S : Nat → Prop) (w : World) (cs : Array Value) : Prop := ∃ k p A n c, cs = #[.int .i64 k, .int .i64 p, .slice A n c] ∧ DIn (fun b => S b ∧ S0 b) w t (c3 k p A n c)
def spS (c m : Nat) (S0 : Nat → Prop) (t : LT) : PSp := ⟨c, m, 24, #[.int .i64 0, .int .i64 0, .slice none 0 0], PLtlS S0 t⟩
theorem spS_ok (c m : Nat) (S0 : Nat → Prop) (t : LT) : (spS c m S0 t).Ok :=
  ⟨fun S w w' cs hk h => by obtain ⟨k, p, A, n, c, e, h1⟩ := h; exact ⟨k, p, A, n, c, e, h1.keep (hk.sub (fun b h => h.1))⟩, fun S S' w cs hs h => by obtain ⟨k, p, A, n, c, e, h1⟩ := h; exact ⟨k, p, A, n, c, e, h1.sub (fun b hlt h => ⟨hs b hlt h.1, h.2⟩)⟩⟩
set_option maxRecDepth 100000 in
set_option maxHeartbeats 32000000 in
theorem rplain_any (Z : Nat) : ∀ (S : Nat → Prop) (t : LT) (k p : Int) (A : Option Addr) (n c : Nat) (d : Bool) (w0 : World), meas (norm t) ≤ Z → DIn S w0 t (c3 k p A n c) →
    Calls Try.prog 24 #[.agg #[.int .i64 k, .int .i64 p, .slice A n c], .bool d] w0 (PlainPost S (plain (norm t) d) w0) := by
  induction Z with
  | zero => intro S t k p A n c d w0 hz; have := meas_pos (norm t); omega
  | succ Z ih =>
    intro S t k p A n c d w0 hz hd
    obtain ⟨US, hUS⟩ : ∃ US, US = Up (UpN S w0.heap.size) (w0.heap.size + 2) := ⟨_, rfl⟩
    have HU1 := hide (show ¬ US (w0.heap.size + 1) from fun h => by rw [hUS] at h; rcases h with ⟨-, h⟩ | h <;> omega)
    have HUO := hide (show ∀ b, UpN S w0.heap.size b → US b from fun b h => by rw [hUS]; exact .inl h)
    have HUN := hide (show ∀ b, w0.heap.size + 2 ≤ b → US b from fun b h => by rw [hUS]; exact .inr h)
    have HPO := hide (show ∀ w' k q A n c, DIn US w' (tree (plain (norm t) d)) (c3 k q A n c) → Below w0.heap.size w0 w' → PlainPost S (plain (norm t) d) w0 (.returned (.agg #[.int .i64 k, .int .i64 q, .slice A n c])) w' from fun w' k q A n c h1 h2 => ⟨k, q, A, n, c, rfl, h1.sub (fun b _ h => by rw [hUS] at h; exact h.imp (fun h => h.1) (fun h => by omega)), h2⟩)
    have HIH := hide (show ∀ (u : LT) (k p : Int) (A : Option Addr) (n c : Nat) (dd : Bool) (w : World), meas (norm u) ≤ Z → DIn US w u (c3 k p A n c) → w0.heap.size + 2 ≤ w.heap.size → Calls Try.prog 24 #[.agg #[.int .i64 k, .int .i64 p, .slice A n c], .bool dd] w (TreePost US (tree (plain (norm u) dd)) w) from fun u k p A n c dd w hm hd hs => (ih US u k p A n c dd w hm hd).mono (fun e w' h => by
      obtain ⟨k, q, A, n, c, e, h1, h2⟩ := h
      exact ⟨k, q, A, n, c, e, h1.sub (fun b _ h => by rcases h with h | h; exact h; exact HUN.out b (by omega)), h2⟩))
    have HTWO := hide (show ∀ (kk : Int) (u v : LT) (k p : Int) (A : Option Addr) (n c : Nat) (k' p' : Int) (A' : Option Addr) (n' c' : Nat) (w : World), DIn US w u (c3 k p A n c) → DIn US w v (c3 k' p' A' n' c') → w0.heap.size + 2 ≤ w.heap.size → Calls Try.prog 39 #[.int .i64 kk, .agg #[.int .i64 k, .int .i64 p, .slice A n c], .agg #[.int .i64 k', .int .i64 p', .slice A' n' c']] w (TreePost US (.mk kk 0 [u, v]) w) from fun kk u v k p A n c k' p' A' n' c' w h1 h2 hs =>
      (rtwo_any US w.heap.size kk u v k p A n c k' p' A' n' c' w (h1.sub (fun b _ h => .inl h)) (h2.sub (fun b _ h => .inl h)) (Nat.le_refl _)).mono (fun e w' h => by
      obtain ⟨A, n, c, e, h1, h2⟩ := h
      exact ⟨_, _, A, n, c, e, h1.sub (fun b _ h => by rcases h with h | h; exact h; exact HUN.out b (by omega)), h2⟩))
    have HNOT := hide (show ∀ (u : LT) (k p : Int) (A : Option Addr) (n c : Nat) (w : World), DIn US w u (c3 k p A n c) → w0.heap.size + 2 ≤ w.heap.size → Calls Try.prog 40 #[.agg #[.int .i64 k, .int .i64 p, .slice A n c]] w (TreePost US (.mk 3 0 [u]) w) from fun u k p A n c w h1 hs =>
      (rnot_any US w.heap.size u k p A n c w (h1.sub (fun b _ h => .inl h)) (Nat.le_refl _)).mono (fun e w' h => by
      obtain ⟨A, n, c, e, h1, h2⟩ := h
      exact ⟨_, _, A, n, c, e, h1.sub (fun b _ h => by rcases h with h | h; exact h; exact HUN.out b (by omega)), h2⟩))
    obtain ⟨x2, x4, hb, hbz⟩ := bstart2 24 24 w0 #[.int .i64 k, .int .i64 p, .slice A n c] #[.int .i64 0, .int .i64 0, .slice none 0 0]
    obtain ⟨hk, hp, -⟩ := hd.parts
    have HK := hide hk.symm
    have HPE := hide hp
    have X2 := hide x2
    have X4 := hide x4
    have HB := hide hb
    have HZ := hide hbz
    have HD := hide ((hd.sub (fun b hlt hs => (⟨hs, hlt⟩ : UpN S w0.heap.size b))).keep (Keep.of_below hb))
    clear hb hbz hd x2 x4 ih hUS hk hp
    go_enter Try.func24, Try.ntmps24
    go_upto_region 1 with fail
    generalize hW : (w0.alloc (.cells #[.int .i64 k, .int .i64 p, .slice A n c] 24)).alloc (.cells #[.int .i64 0, .int .i64 0, .slice none 0 0] 24) = W1 at *
    clear hW
    have SOF := hide (fun w (h : Below W1.heap.size W1 w) => (⟨(X2.out.next h).cell 0 _ rfl, (X2.out.next h).cell 1 _ rfl, (X2.out.next h).cell 2 _ rfl⟩ : _ ∧ _ ∧ _))
    refine wp_drawnL (by kernel_rfl) (by kernel_rfl) (by kernel_rfl) (by kernel_rfl) (fun _ _ => True) (fun j v w => match j with | 0 => v = .agg #[.int .i64 k, .int .i64 p, .slice A n c] | 1 => True | 2 => v = .agg #[.int .i64 k, .int .i64 p, .slice A n c] | 3 => True | 4 => True | 5 => True | 6 => True | _ => True) (fun listed σ w => (listed.getD 6 false = false ∧ GQ W1 (spS 1 4 (UpN S w0.heap.size) (t.kid 0)) (spS 3 5 (UpN S w0.heap.size) (t.kid 1)) listed σ w) ∨ (listed.getD 6 false = true ∧ GQ2 W1 (spS 1 4 (UpN S w0.heap.size) (t.kid 0)) (spS 3 5 (UpN S w0.heap.size) (t.kid 1)) σ id w)) ?_ (fun _ => .inl ⟨rep_false _ _, GQ.start (bl_drewN W1 1)⟩) ?_ ?_
    · intro j v w w' hT h
      match j, h with
      | 0, h => exact h
      | 1, h => trivial
      | 2, h => exact h
      | 3, h => trivial
      | 4, h => trivial
      | 5, h => trivial
      | 6, h => trivial
      | j + 7, h => trivial
    · refine ⟨?_, ?_, ?_, ?_, ?_, ?_, ?_, trivial⟩
      · intro listed σ w a hin hout hl hla hs hc hp hG hF
        refine Guarded.none rfl ?_
        have h8 : listed.getD 6 false = false := (un_next (k := 6) hc hl (by kernel_rfl))
        have hG := (hG.resolve_right (fun h => by rw [h8] at h; cases h.1)).2
        have e2 : a.tmps.getD 2 undef = .pointer (some ⟨w0.heap.size, 0, none⟩) := hout 2 (outB_spec (by kernel_rfl))
        have CC := SOF.out w hG.below; obtain ⟨C0, C1, C2⟩ := CC
        refine Does.val (.agg #[.int .i64 k, .int .i64 p, .slice A n c]) (w' := w) ?_ ⟨trivial, rfl, .inl ⟨(by rw [getD_set_ne false (show (0 : Nat) ≠ 6 by decide)]; exact h8), hG.next (spS_ok 1 4 (UpN S w0.heap.size) (t.kid 0)) (spS_ok 3 5 (UpN S w0.heap.size) (t.kid 1)) (Below.refl _ _) (show (0 : Nat) ≠ 1 ∧ (0 : Nat) ≠ 3 ∧ (0 : Nat) ≠ 4 ∧ (0 : Nat) ≠ 5 by decide)⟩⟩
        go_simp
      · intro listed σ w a hin hout hl hla hs hc hp hG hF
        refine Guarded.none rfl ?_
        have h8 : listed.getD 6 false = false := (un_next (k := 6) hc hl (by kernel_rfl))
        have hG := (hG.resolve_right (fun h => by rw [h8] at h; cases h.1)).2
        have e7 : a.tmps.getD 7 undef = .agg #[.int .i64 k, .int .i64 p, .slice A n c] := (hin 0 7 rfl (hp ⟨0, .data⟩ (by simp) rfl)).trans (hF 0 (hp ⟨0, .data⟩ (by simp) rfl))
        refine Does.call ?_ (kid_any (UpN S w0.heap.size) t k p A n c 0 w (HD.out.keep (Keep.of_below hG.below)) (by decide)) ?_
        · go_simp
        · rintro e w' ⟨k, p, A, n, c, rfl, hd, hb⟩
          exact ⟨_, rfl, trivial, trivial, .inl ⟨(by rw [getD_set_ne false (show (1 : Nat) ≠ 6 by decide)]; exact h8), hG.call (by kernel_rfl) (spS_ok 1 4 (UpN S w0.heap.size) (t.kid 0)) (spS_ok 3 5 (UpN S w0.heap.size) (t.kid 1)) (.inl rfl) rfl hb ⟨_, _, _, _, _, rfl, hd.sub (fun b hlt h => ⟨.inl (by have := h.2; have := HZ.out; omega), h⟩)⟩⟩⟩
      · intro listed σ w a hin hout hl hla hs hc hp hG hF
        refine Guarded.none rfl ?_
        have h8 : listed.getD 6 false = false := (un_next (k := 6) hc (un_next (k := 3) hc hl (by kernel_rfl)) (by kernel_rfl))
        have hG := (hG.resolve_right (fun h => by rw [h8] at h; cases h.1)).2
        have e2 : a.tmps.getD 2 undef = .pointer (some ⟨w0.heap.size, 0, none⟩) := hout 2 (outB_spec (by kernel_rfl))
        have CC := SOF.out w hG.below; obtain ⟨C0, C1, C2⟩ := CC
        refine Does.val (.agg #[.int .i64 k, .int .i64 p, .slice A n c]) (w' := w) ?_ ⟨trivial, rfl, .inl ⟨(by rw [getD_set_ne false (show (2 : Nat) ≠ 6 by decide)]; exact h8), hG.next (spS_ok 1 4 (UpN S w0.heap.size) (t.kid 0)) (spS_ok 3 5 (UpN S w0.heap.size) (t.kid 1)) (Below.refl _ _) (show (2 : Nat) ≠ 1 ∧ (2 : Nat) ≠ 3 ∧ (2 : Nat) ≠ 4 ∧ (2 : Nat) ≠ 5 by decide)⟩⟩
        go_simp
      · intro listed σ w a hin hout hl hla hs hc hp hG hF
        refine Guarded.none rfl ?_
        have h8 : listed.getD 6 false = false := (un_next (k := 6) hc hl (by kernel_rfl))
        have hG := (hG.resolve_right (fun h => by rw [h8] at h; cases h.1)).2
        have e9 : a.tmps.getD 9 undef = .agg #[.int .i64 k, .int .i64 p, .slice A n c] := (hin 2 9 rfl (hp ⟨2, .data⟩ (by simp) rfl)).trans (hF 2 (hp ⟨2, .data⟩ (by simp) rfl))
        refine Does.call ?_ (kid_any (UpN S w0.heap.size) t k p A n c 1 w (HD.out.keep (Keep.of_below hG.below)) (by decide)) ?_
        · go_simp
        · rintro e w' ⟨k, p, A, n, c, rfl, hd, hb⟩
          exact ⟨_, rfl, trivial, trivial, .inl ⟨(by rw [getD_set_ne false (show (3 : Nat) ≠ 6 by decide)]; exact h8), hG.call (by kernel_rfl) (spS_ok 1 4 (UpN S w0.heap.size) (t.kid 0)) (spS_ok 3 5 (UpN S w0.heap.size) (t.kid 1)) (.inr rfl) rfl hb ⟨_, _, _, _, _, rfl, hd.sub (fun b hlt h => ⟨.inl (by have := h.2; have := HZ.out; omega), h⟩)⟩⟩⟩
      · intro listed σ w a hin hout hl hla hs hc hp hG hF
        refine Guarded.none rfl ?_
        have h8 : listed.getD 6 false = false := (un_next (k := 6) hc hl (by kernel_rfl))
        have hG := (hG.resolve_right (fun h => by rw [h8] at h; cases h.1)).2
        refine Does.val (.pointer (some ⟨w.heap.size, 0, none⟩)) (w' := w.alloc (.cells #[.int .i64 0, .int .i64 0, .slice none 0 0] 24)) ?_ ⟨trivial, trivial, .inl ⟨(by rw [getD_set_ne false (show (4 : Nat) ≠ 6 by decide)]; exact h8), hG.made (by kernel_rfl) (spS_ok 1 4 (UpN S w0.heap.size) (t.kid 0)) (spS_ok 3 5 (UpN S w0.heap.size) (t.kid 1)) (.inl rfl) rfl⟩⟩
        go_simp
      · intro listed σ w a hin hout hl hla hs hc hp hG hF
        refine Guarded.none rfl ?_
        have h8 : listed.getD 6 false = false := (un_next (k := 6) hc hl (by kernel_rfl))
        have hG := (hG.resolve_right (fun h => by rw [h8] at h; cases h.1)).2
        refine Does.val (.pointer (some ⟨w.heap.size, 0, none⟩)) (w' := w.alloc (.cells #[.int .i64 0, .int .i64 0, .slice none 0 0] 24)) ?_ ⟨trivial, trivial, .inl ⟨(by rw [getD_set_ne false (show (5 : Nat) ≠ 6 by decide)]; exact h8), hG.made (by kernel_rfl) (spS_ok 1 4 (UpN S w0.heap.size) (t.kid 0)) (spS_ok 3 5 (UpN S w0.heap.size) (t.kid 1)) (.inr rfl) rfl⟩⟩
        go_simp
      · intro listed σ w a hin hout hl hla hs hc hp hG hF
        refine Guarded.none rfl ?_
        have hG := (hG.resolve_right (fun h => by rw [hl] at h; cases h.1)).2
        obtain ⟨hb, g1, g2, cs1, cs2, e1, e2, eg1, eg2, hg1, hg2, hne, b1, b2, p1, p2⟩ := hG.all (spS_ok 1 4 (UpN S w0.heap.size) (t.kid 0)) (spS_ok 3 5 (UpN S w0.heap.size) (t.kid 1)) (hp ⟨1, .data⟩ (by simp) rfl) (hp ⟨3, .chain⟩ (by simp) rfl) (hp ⟨4, .data⟩ (by simp) rfl) (hp ⟨5, .phase⟩ (by simp) rfl)
        have hpp := p1
        obtain ⟨k9, p9, A9, n9, c9, rfl, hd9⟩ := p1
        have e5 := (hin 4 5 rfl (hp ⟨4, .data⟩ (by simp) rfl)).trans eg1
        have e8 := (hin 1 8 rfl (hp ⟨1, .data⟩ (by simp) rfl)).trans e1
        refine Does.store_box (T := 24) (cells := #[.int .i64 k9, .int .i64 p9, .slice A9 n9 c9]) rfl e5 e8 b1 (by kernel_rfl) rfl (by simp [Value.oneCell']) (fun w2 x9 o9 => ?_)
        have h9 : 6 < listed.size := by rw [show listed.size = 8 from hs]; decide
        exact ⟨trivial, trivial, .inr ⟨(by simp [Array.getD, h9]), hb.trans (o9.below hb.size hg1), g1, g2, _, _, ((upd_ne σ undef (show (1 : Nat) ≠ 6 by decide)).trans e1), ((upd_ne σ undef (show (3 : Nat) ≠ 6 by decide)).trans e2), ((upd_ne σ undef (show (4 : Nat) ≠ 6 by decide)).trans eg1), ((upd_ne σ undef (show (5 : Nat) ≠ 6 by decide)).trans eg2), hg1, hg2, hne, x9, b2.other o9 (Ne.symm hne), ((spS_ok 1 4 (UpN S w0.heap.size) (t.kid 0))).keep _ _ _ _ (Keep.of_only o9 (fun h => h.1 rfl)) hpp, ((spS_ok 3 5 (UpN S w0.heap.size) (t.kid 1))).keep _ _ _ _ (Keep.of_only o9 (fun h => h.1 rfl)) p2⟩⟩
    · intro o ho
      injection ho with ho; subst ho
      intro listed σ w a hall hin hout hG hF
      refine Guarded.none rfl ?_
      obtain ⟨hb, g1b, g2b, cs1, cs2, e1, e2, eg1, eg2, hg1, hg2, hne, b1, b2, p1, p2⟩ := (hG.resolve_left (fun h => by have h7 := hall 6 (by decide); rw [h.1] at h7; cases h7)).2
      replace eg1 : σ 4 = .pointer (some ⟨g1b, 0, none⟩) := eg1
      replace eg2 : σ 5 = .pointer (some ⟨g2b, 0, none⟩) := eg2
      have P91 := p1
      have hqq := p2
      obtain ⟨k9, p9, A9, n9, c9, rfl, hd9⟩ := p2
      have e6 := (hin 5 6 rfl (by decide)).trans eg2
      have e10 := (hin 3 10 rfl (by decide)).trans e2
      refine Does.store_box (T := 24) (cells := #[.int .i64 k9, .int .i64 p9, .slice A9 n9 c9]) rfl e6 e10 b2 (by kernel_rfl) rfl (by simp [Value.oneCell']) (fun Wb x92 o9 => ?_)
      have HB9b := hide (hb.trans (o9.below hb.size hg2))
      have x91 : Box 24 Wb g1b cs1 := b1.other o9 hne
      have P91 := ((spS_ok 1 4 (UpN S w0.heap.size) (t.kid 0))).keep _ _ _ _ (Keep.of_only o9 (fun h => h.2 rfl)) P91
      have P92 := ((spS_ok 3 5 (UpN S w0.heap.size) (t.kid 1))).keep _ _ _ _ (Keep.of_only o9 (fun h => h.2 rfl)) hqq
      rw [show fin _ σ undef _ = (Act.put (Act.put (Act.put (Act.put (Act.put (Act.put (Act.put (Act.put _ (some 7) (σ 0)) (some 8) (σ 1)) (some 9) (σ 2)) (some 10) (σ 3)) (some 5) (σ 4)) (some 6) (σ 5)) none (σ 6)) none undef) from (fin_all hall).trans rfl]
      simp only [Act.put, List.setIfInBounds_toArray, List.set_cons_zero, List.set_cons_succ]
      rw [eg1, eg2]
      have X91b := hide x91
      have X92b := hide x92
      have P91b := hide P91
      have P92b := hide P92
      have HNEb := hide hne
      clear hF hG hall hin hout SOF hb e1 e2 eg1 eg2 b1 b2 p1 o9 hqq e6 e10 x91 x92 hne
      generalize σ 0 = tt0 ; generalize σ 1 = tt1 ; generalize σ 2 = tt2 ; generalize σ 3 = tt3 ; generalize σ 4 = tt4 ; generalize σ 5 = tt5 ; generalize σ 6 = tt6 
      clear σ
      obtain ⟨kp, pp, Ap, np, cp, rfl, hp9⟩ := P91b.out
      have DP := hide (hp9.sub (S' := US) (fun b _ h => HUO.out b h.2))
      have XP := hide X91b.out
      clear hp9 P91b X91b
      obtain ⟨kq, pq, Aq, nq, cq, hcs, hq9⟩ := P92b.out
      simp only [Array.mk.injEq, List.cons.injEq, Value.int.injEq, Value.slice.injEq, and_true, true_and] at hcs
      obtain ⟨q01, q02, q03, q04, q05⟩ := hcs
      subst k9 p9 A9 n9 c9
      have DQ := hide (hq9.sub (S' := US) (fun b _ h => HUO.out b h.2))
      have XQ := hide X92b.out
      clear hq9 P92b X92b
      have X2 := hide (X2.out.next HB9b.out)
      have X4 := hide (X4.out.next HB9b.out)
      have HZb := hide (show w0.heap.size + 2 ≤ Wb.heap.size from by have := HB9b.out.size; have := HZ.out; omega)
      have HBb := hide (HB.out.next HB9b.out)
      clear HB9b HNEb HD
      by_cases h7 : k = 7
      · subst h7
        have HN := hide (norm_k7 t HK.out)
        have HE := hide (show tree (plain (norm (.mk 5 0 [.mk 3 0 [t.kid 0], t.kid 1])) d) = tree (plain (norm t) d) from by rw [HN.out, norm_fb (by decide), norm_fa (by decide)]; cases d <;> rfl)
        have HMS := hide (show meas (norm (.mk 5 0 [.mk 3 0 [t.kid 0], t.kid 1])) ≤ Z from by rw [HN.out] at hz; rw [norm_fb (by decide), norm_fa (by decide)]; simp [meas] at hz ⊢; omega)
        have C0 := X2.out.cell 0 _ rfl
        go_upto_region 4 with fail
        clear C0
        have SOF := hide (fun w (h : Below Wb.heap.size Wb w) => (⟨(X2.out.next h).cell 0 _ rfl, (XP.out.next h).cell 0 _ rfl, (XP.out.next h).cell 1 _ rfl, (XP.out.next h).cell 2 _ rfl, (XQ.out.next h).cell 0 _ rfl, (XQ.out.next h).cell 1 _ rfl, (XQ.out.next h).cell 2 _ rfl⟩ : _ ∧ _ ∧ _ ∧ _ ∧ _ ∧ _ ∧ _))
        refine wp_drawnL (by kernel_rfl) (by kernel_rfl) (by kernel_rfl) (by kernel_rfl) (fun w w' => Below w.heap.size w w') (fun j v w => match j with | 0 => v = .agg #[.int .i64 kp, .int .i64 pp, .slice Ap np cp] | 1 => ∃ k p A n c, v = .agg #[.int .i64 k, .int .i64 p, .slice A n c] ∧ DIn US w (.mk 3 0 [t.kid 0]) (c3 k p A n c) | 2 => v = .agg #[.int .i64 kq, .int .i64 pq, .slice Aq nq cq] | 3 => ∃ k p A n c, v = .agg #[.int .i64 k, .int .i64 p, .slice A n c] ∧ DIn US w (.mk 5 0 [.mk 3 0 [t.kid 0], t.kid 1]) (c3 k p A n c) | 4 => v = .bool d | 5 => ∃ k p A n c, v = .agg #[.int .i64 k, .int .i64 p, .slice A n c] ∧ DIn US w (tree (plain (norm (.mk 5 0 [.mk 3 0 [t.kid 0], t.kid 1])) d)) (c3 k p A n c) | _ => True) (fun _ _ w => Below Wb.heap.size Wb w) ?_ (fun _ => bl_drewN Wb 1) ?_ ?_
        · intro j v w w' hT h
          match j, h with
          | 0, h => exact h
          | 1, h => exact (by obtain ⟨k, p, A, n, c, e, h1⟩ := h; exact ⟨k, p, A, n, c, e, h1.keep (Keep.of_below hT)⟩)
          | 2, h => exact h
          | 3, h => exact (by obtain ⟨k, p, A, n, c, e, h1⟩ := h; exact ⟨k, p, A, n, c, e, h1.keep (Keep.of_below hT)⟩)
          | 4, h => exact h
          | 5, h => exact (by obtain ⟨k, p, A, n, c, e, h1⟩ := h; exact ⟨k, p, A, n, c, e, h1.keep (Keep.of_below hT)⟩)
          | j + 6, h => trivial
        · refine ⟨?_, ?_, ?_, ?_, ?_, ?_, trivial⟩
          · intro listed σ w a hin hout hl hla hs hc hp hG hF
            refine Guarded.none rfl ?_
            have e5 : a.tmps.getD 5 undef = .pointer (some ⟨g1b, 0, none⟩) := hout 5 (outB_spec (by kernel_rfl))
            have CC := SOF.out w hG; obtain ⟨C0, C1, C2, C3, C4, C5, C6⟩ := CC
            refine Does.val (.agg #[.int .i64 kp, .int .i64 pp, .slice Ap np cp]) (w' := w) ?_ ⟨Below.refl _ _, rfl, hG⟩
            go_simp
          · intro listed σ w a hin hout hl hla hs hc hp hG hF
            refine Guarded.none rfl ?_
            have e15 : a.tmps.getD 15 undef = .agg #[.int .i64 kp, .int .i64 pp, .slice Ap np cp] := (hin 0 15 rfl (hp ⟨0, .data⟩ (by simp) rfl)).trans (hF 0 (hp ⟨0, .data⟩ (by simp) rfl))
            refine Does.call ?_ (HNOT.out (t.kid 0) kp pp Ap np cp w (DP.out.keep (Keep.of_below hG)) (Nat.le_trans HZb.out hG.size)) ?_
            · go_simp
            · rintro e w' ⟨k, p, A, n, c, rfl, hd, hb⟩
              exact ⟨_, rfl, hb, ⟨k, p, A, n, c, rfl, hd⟩, hG.next hb⟩
          · intro listed σ w a hin hout hl hla hs hc hp hG hF
            refine Guarded.none rfl ?_
            have e6 : a.tmps.getD 6 undef = .pointer (some ⟨g2b, 0, none⟩) := hout 6 (outB_spec (by kernel_rfl))
            have CC := SOF.out w hG; obtain ⟨C0, C1, C2, C3, C4, C5, C6⟩ := CC
            refine Does.val (.agg #[.int .i64 kq, .int .i64 pq, .slice Aq nq cq]) (w' := w) ?_ ⟨Below.refl _ _, rfl, hG⟩
            go_simp
          · intro listed σ w a hin hout hl hla hs hc hp hG hF
            refine Guarded.none rfl ?_
            have e16 := hin 1 16 rfl (hp ⟨1, .data⟩ (by simp) rfl)
            obtain ⟨km1, pm1, Am1, nm1, cm1, ev1, hd1⟩ := hF 1 (hp ⟨1, .data⟩ (by simp) rfl)
            rw [ev1] at e16
            have e17 : a.tmps.getD 17 undef = .agg #[.int .i64 kq, .int .i64 pq, .slice Aq nq cq] := (hin 2 17 rfl (hp ⟨2, .data⟩ (by simp) rfl)).trans (hF 2 (hp ⟨2, .data⟩ (by simp) rfl))
            refine Does.call ?_ (HTWO.out 5 (.mk 3 0 [t.kid 0]) (t.kid 1) km1 pm1 Am1 nm1 cm1 kq pq Aq nq cq w hd1 (DQ.out.keep (Keep.of_below hG)) (Nat.le_trans HZb.out hG.size)) ?_
            · go_simp
            · rintro e w' ⟨k, p, A, n, c, rfl, hd, hb⟩
              exact ⟨_, rfl, hb, ⟨k, p, A, n, c, rfl, hd⟩, hG.next hb⟩
          · intro listed σ w a hin hout hl hla hs hc hp hG hF
            refine Guarded.none rfl ?_
            have e1 : a.tmps.getD 1 undef = .bool d := hout 1 (outB_spec (by kernel_rfl))
            refine Does.val (.bool d) (w' := w) ?_ ⟨Below.refl _ _, rfl, hG⟩
            simp only [Array.getD_eq_getD_getElem?] at e1
            go_simp
          · intro listed σ w a hin hout hl hla hs hc hp hG hF
            refine Guarded.none rfl ?_
            have e18 := hin 3 18 rfl (hp ⟨3, .data⟩ (by simp) rfl)
            obtain ⟨km3, pm3, Am3, nm3, cm3, ev3, hd3⟩ := hF 3 (hp ⟨3, .data⟩ (by simp) rfl)
            rw [ev3] at e18
            have e19 : a.tmps.getD 19 undef = .bool d := (hin 4 19 rfl (hp ⟨4, .data⟩ (by simp) rfl)).trans (hF 4 (hp ⟨4, .data⟩ (by simp) rfl))
            refine Does.call ?_ (HIH.out (.mk 5 0 [.mk 3 0 [t.kid 0], t.kid 1]) km3 pm3 Am3 nm3 cm3 d w HMS.out hd3 (Nat.le_trans HZb.out hG.size)) ?_
            · go_simp
            · rintro e w' ⟨k, p, A, n, c, rfl, hd, hb⟩
              exact ⟨_, rfl, hb, ⟨k, p, A, n, c, rfl, hd⟩, hG.next hb⟩
        · intro o ho
          injection ho with ho; subst ho
          intro listed σ w a hall hin hout hG hF
          refine Guarded.none rfl ?_
          have e4 : a.tmps.getD 4 undef = .pointer (some ⟨w0.heap.size + 1, 0, none⟩) := hout 4 (outL (by kernel_rfl))
          have e20 := hin 5 20 rfl (by decide)
          obtain ⟨km5, pm5, Am5, nm5, cm5, ev5, hd5⟩ := hF 5 (by decide)
          rw [ev5] at e20
          have hDD := HE.out ▸ hd5
          refine Does.store_box (T := 24) (cells := #[.int .i64 km5, .int .i64 pm5, .slice Am5 nm5 cm5]) rfl e4 e20 (X4.out.next hG) (by kernel_rfl) rfl (by simp [Value.oneCell']) (fun w2 x9 o9 => ?_)
          have HP := hide (HPO.out w2 _ _ _ _ _ (hDD.keep (Keep.of_only o9 HU1.out)) ((HBb.out.next hG).trans (o9.below (HBb.out.next hG).size (by omega))))
          rw [show fin _ σ undef _ = (Act.put (Act.put (Act.put (Act.put (Act.put (Act.put (Act.put _ (some 15) (σ 0)) (some 16) (σ 1)) (some 17) (σ 2)) (some 18) (σ 3)) (some 19) (σ 4)) (some 20) (σ 5)) none undef) from (fin_all hall).trans rfl]
          simp only [Act.put, List.setIfInBounds_toArray, List.set_cons_zero, List.set_cons_succ]
          have X9 := hide x9
          generalize σ 0 = tt0 at *; generalize σ 1 = tt1 at *; generalize σ 2 = tt2 at *; generalize σ 3 = tt3 at *; generalize σ 4 = tt4 at *; generalize σ 5 = tt5 at *
          clear hF hG hall hin hout SOF o9 e4 e20 x9 hDD
          go_wp2_with fail
          exact bodyPost_lt rfl rfl X9.out rfl HP.out
      have g7 : (k == 7) = false := by simp; omega
      by_cases h9 : k = 9
      · subst h9
        have HN := hide (norm_k9 t HK.out)
        have HE := hide (show tree (plain (norm (.mk 12 0 [.mk 1 0 [], t.kid 0])) d) = tree (plain (norm t) d) from by rw [HN.out, norm_fb (by decide), norm_f1]; cases d <;> rfl)
        have HMS := hide (show meas (norm (.mk 12 0 [.mk 1 0 [], t.kid 0])) ≤ Z from by rw [HN.out] at hz; rw [norm_fb (by decide), norm_f1]; simp [meas] at hz ⊢; omega)
        have p0 := XP.out.cell 0 _ rfl
        have p1 := XP.out.cell 1 _ rfl
        have p2 := XP.out.cell 2 _ rfl
        have C0 := X2.out.cell 0 _ rfl
        have C1 := X2.out.cell 1 _ rfl
        go_wp2_with fail
        refine (HTWO.out 12 (.mk 1 0 []) (t.kid 0) 1 0 none 0 0 kp pp Ap np cp _ (DIn.leaf _ _ _ _) DP.out HZb.out).mono ?_
        rintro e wa ⟨k5, p5, A5, n5, c5, rfl, hd5, b5⟩
        have HBc := hide (HBb.out.next b5)
        have X4c := hide (X4.out.next b5)
        have HD5 := hide hd5
        have HZc := hide (Nat.le_trans HZb.out b5.size)
        clear hd5 b5 p0 p1 p2 C0 C1
        go_wp2_with fail
        refine (HIH.out (.mk 12 0 [.mk 1 0 [], t.kid 0]) k5 p5 A5 n5 c5 d _ HMS.out HD5.out HZc.out).mono ?_
        rintro e wa ⟨k6, p6, A6, n6, c6, rfl, hd6, b6⟩
        have HBd := hide (HBc.out.next b6)
        have X4d := hide (X4c.out.next b6)
        have HD6 := hide (HE.out ▸ hd6)
        clear hd6 b6
        have x4 := X4d.out
        go_wp2_with (with_reducible refine wpList_store_box rfl 24 _ _ rfl (w0.heap.size + 1) #[.int .i64 k6, .int .i64 p6, .slice A6 n6 c6] rfl rfl _ x4 (by kernel_rfl) rfl (by simp [Value.oneCell']) ?_; intro w9 k9 ho9)
        refine bodyPost_lt rfl rfl k9 rfl ?_
        exact HPO.out _ _ _ _ _ _ ((HD6.out).keep (Keep.of_only ho9 HU1.out)) (HBd.out.trans (ho9.below HBd.out.size (by omega)))
      have g9 : (k == 9) = false := by simp; omega
      by_cases h10 : k = 10
      · subst h10
        have HN := hide (norm_k10 t HK.out)
        have HE := hide (show tree (plain (norm (.mk 11 0 [.mk 0 0 [], t.kid 0])) d) = tree (plain (norm t) d) from by rw [HN.out, norm_fb (by decide), norm_f0]; cases d <;> rfl)
        have HMS := hide (show meas (norm (.mk 11 0 [.mk 0 0 [], t.kid 0])) ≤ Z from by rw [HN.out] at hz; rw [norm_fb (by decide), norm_f0]; simp [meas] at hz ⊢; omega)
        have p0 := XP.out.cell 0 _ rfl
        have p1 := XP.out.cell 1 _ rfl
        have p2 := XP.out.cell 2 _ rfl
        have C0 := X2.out.cell 0 _ rfl
        have C1 := X2.out.cell 1 _ rfl
        go_wp2_with fail
        refine (HTWO.out 11 (.mk 0 0 []) (t.kid 0) 0 0 none 0 0 kp pp Ap np cp _ (DIn.leaf _ _ _ _) DP.out HZb.out).mono ?_
        rintro e wa ⟨k5, p5, A5, n5, c5, rfl, hd5, b5⟩
        have HBc := hide (HBb.out.next b5)
        have X4c := hide (X4.out.next b5)
        have HD5 := hide hd5
        have HZc := hide (Nat.le_trans HZb.out b5.size)
        clear hd5 b5 p0 p1 p2 C0 C1
        go_wp2_with fail
        refine (HIH.out (.mk 11 0 [.mk 0 0 [], t.kid 0]) k5 p5 A5 n5 c5 d _ HMS.out HD5.out HZc.out).mono ?_
        rintro e wa ⟨k6, p6, A6, n6, c6, rfl, hd6, b6⟩
        have HBd := hide (HBc.out.next b6)
        have X4d := hide (X4c.out.next b6)
        have HD6 := hide (HE.out ▸ hd6)
        clear hd6 b6
        have x4 := X4d.out
        go_wp2_with (with_reducible refine wpList_store_box rfl 24 _ _ rfl (w0.heap.size + 1) #[.int .i64 k6, .int .i64 p6, .slice A6 n6 c6] rfl rfl _ x4 (by kernel_rfl) rfl (by simp [Value.oneCell']) ?_; intro w9 k9 ho9)
        refine bodyPost_lt rfl rfl k9 rfl ?_
        exact HPO.out _ _ _ _ _ _ ((HD6.out).keep (Keep.of_only ho9 HU1.out)) (HBd.out.trans (ho9.below HBd.out.size (by omega)))
      have g10 : (k == 10) = false := by simp; omega
      by_cases h3 : k = 3
      · subst h3
        have HN := hide (norm_k3 t HK.out)
        have HE := hide (show tree (plain (norm (t.kid 0)) (!d)) = tree (plain (norm t) d) from by rw [HN.out]; rfl)
        have HMS := hide (show meas (norm (t.kid 0)) ≤ Z from by rw [HN.out] at hz; simp [meas] at hz; omega)
        have p0 := XP.out.cell 0 _ rfl
        have p1 := XP.out.cell 1 _ rfl
        have p2 := XP.out.cell 2 _ rfl
        have C0 := X2.out.cell 0 _ rfl
        have C1 := X2.out.cell 1 _ rfl
        go_wp2_with fail
        refine (HIH.out (t.kid 0) kp pp Ap np cp (!d) _ HMS.out DP.out HZb.out).mono ?_
        rintro e wa ⟨k5, p5, A5, n5, c5, rfl, hd5, b5⟩
        have HBc := hide (HBb.out.next b5)
        have X4c := hide (X4.out.next b5)
        have HD5 := hide hd5
        have HZc := hide (Nat.le_trans HZb.out b5.size)
        clear hd5 b5 p0 p1 p2 C0 C1
        have HD5 := hide (HE.out ▸ HD5.out)
        have x4 := X4c.out
        go_wp2_with (with_reducible refine wpList_store_box rfl 24 _ _ rfl (w0.heap.size + 1) #[.int .i64 k5, .int .i64 p5, .slice A5 n5 c5] rfl rfl _ x4 (by kernel_rfl) rfl (by simp [Value.oneCell']) ?_; intro w9 k9 ho9)
        refine bodyPost_lt rfl rfl k9 rfl ?_
        exact HPO.out _ _ _ _ _ _ ((HD5.out).keep (Keep.of_only ho9 HU1.out)) (HBc.out.trans (ho9.below HBc.out.size (by omega)))
      have g3 : (k == 3) = false := by simp; omega
      by_cases h8 : k = 8
      · subst h8
        have HN := hide (norm_k8 t HK.out)
        have HE := hide (show (Wo.LT.mk 8 0 [tree (plain (norm (t.kid 0)) d)] : Wo.LT) = tree (plain (norm t) d) from by rw [HN.out]; rfl)
        have HMS := hide (show meas (norm (t.kid 0)) ≤ Z from by rw [HN.out] at hz; simp [meas] at hz; omega)
        have p0 := XP.out.cell 0 _ rfl
        have p1 := XP.out.cell 1 _ rfl
        have p2 := XP.out.cell 2 _ rfl
        have C0 := X2.out.cell 0 _ rfl
        have C1 := X2.out.cell 1 _ rfl
        go_wp2_with fail
        refine (HIH.out (t.kid 0) kp pp Ap np cp d _ HMS.out DP.out HZb.out).mono ?_
        rintro e wa ⟨k5, p5, A5, n5, c5, rfl, hd5, b5⟩
        have HBc := hide (HBb.out.next b5)
        have X4c := hide (X4.out.next b5)
        have HD5 := hide hd5
        have HZc := hide (Nat.le_trans HZb.out b5.size)
        clear hd5 b5 p0 p1 p2 C0 C1
        have HK1 := hide (kids_new1 (w := wa) (S := US) (M := wa.heap.size) (HD5.out.sub (fun b _ h => .inl h)) (Nat.le_refl _))
        have hba := bl_alloc wa (.cells #[.int .i64 k5, .int .i64 p5, .slice A5 n5 c5] 24)
        have HBd := hide (HBc.out.next hba)
        have X4d := hide (X4c.out.next hba)
        clear hba
        have HD8 := hide (show DIn US (wa.alloc (.cells #[.int .i64 k5, .int .i64 p5, .slice A5 n5 c5] 24)) (tree (plain (norm t) d)) (c3 8 0 (some ⟨wa.heap.size, 0, none⟩) 1 1) from by
          rw [← HE.out]
          exact (DIn.close (c := 1) 8 0 HK1.out (by omega) (by omega) (fun h => by cases h)).sub (fun b _ h => by rcases h with h | h; exact h; exact HUN.out b (by have := HZc.out; omega)))
        have x4 := X4d.out
        go_wp2_with (with_reducible refine wpList_store_box rfl 24 _ _ rfl (w0.heap.size + 1) #[.int .i64 8, .int .i64 0, .slice (some ⟨wa.heap.size, 0, none⟩) 1 1] rfl rfl _ x4 (by kernel_rfl) rfl (by simp [Value.oneCell']) ?_; intro w9 k9 ho9)
        refine bodyPost_lt rfl rfl k9 rfl ?_
        exact HPO.out _ _ _ _ _ _ ((HD8.out).keep (Keep.of_only ho9 HU1.out)) (HBd.out.trans (ho9.below HBd.out.size (by omega)))
      have g8 : (k == 8) = false := by simp; omega
      by_cases h4 : k = 4
      · subst h4
        have HN := hide (norm_k4 t HK.out)
        have HM0 := hide (show meas (norm (t.kid 0)) ≤ Z from by rw [HN.out] at hz; simp [meas] at hz; omega)
        have HM1 := hide (show meas (norm (t.kid 1)) ≤ Z from by rw [HN.out] at hz; simp [meas] at hz; omega)
        have C0 := X2.out.cell 0 _ rfl
        cases d
        · have HE := hide (show (Wo.LT.mk 4 0 [tree (plain (norm (t.kid 0)) false), tree (plain (norm (t.kid 1)) false)] : Wo.LT) = tree (plain (norm t) false) from by rw [HN.out]; rfl)
          go_upto_region 17 with fail
          clear C0
          have SOF := hide (fun w (h : Below Wb.heap.size Wb w) => (⟨(X2.out.next h).cell 0 _ rfl, (XP.out.next h).cell 0 _ rfl, (XP.out.next h).cell 1 _ rfl, (XP.out.next h).cell 2 _ rfl, (XQ.out.next h).cell 0 _ rfl, (XQ.out.next h).cell 1 _ rfl, (XQ.out.next h).cell 2 _ rfl⟩ : _ ∧ _ ∧ _ ∧ _ ∧ _ ∧ _ ∧ _))
          refine wp_drawnL (by kernel_rfl) (by kernel_rfl) (by kernel_rfl) (by kernel_rfl) (fun w w' => Below w.heap.size w w') (fun j v w => match j with | 0 => v = .pointer (some ⟨w0.heap.size, 0, none⟩) | 1 => v = .int .i64 4 | 2 => v = .agg #[.int .i64 kp, .int .i64 pp, .slice Ap np cp] | 3 => v = .bool false | 4 => ∃ k p A n c, v = .agg #[.int .i64 k, .int .i64 p, .slice A n c] ∧ DIn US w (tree (plain (norm (t.kid 0)) false)) (c3 k p A n c) | 5 => v = .agg #[.int .i64 kq, .int .i64 pq, .slice Aq nq cq] | 6 => v = .bool false | 7 => ∃ k p A n c, v = .agg #[.int .i64 k, .int .i64 p, .slice A n c] ∧ DIn US w (tree (plain (norm (t.kid 1)) false)) (c3 k p A n c) | 8 => ∃ k p A n c, v = .agg #[.int .i64 k, .int .i64 p, .slice A n c] ∧ DIn US w (.mk 4 0 [tree (plain (norm (t.kid 0)) false), tree (plain (norm (t.kid 1)) false)]) (c3 k p A n c) | _ => True) (fun _ _ w => Below Wb.heap.size Wb w) ?_ (fun _ => bl_drewN Wb 1) ?_ ?_
          · intro j v w w' hT h
            match j, h with
            | 0, h => exact h
            | 1, h => exact h
            | 2, h => exact h
            | 3, h => exact h
            | 4, h => exact (by obtain ⟨k, p, A, n, c, e, h1⟩ := h; exact ⟨k, p, A, n, c, e, h1.keep (Keep.of_below hT)⟩)
            | 5, h => exact h
            | 6, h => exact h
            | 7, h => exact (by obtain ⟨k, p, A, n, c, e, h1⟩ := h; exact ⟨k, p, A, n, c, e, h1.keep (Keep.of_below hT)⟩)
            | 8, h => exact (by obtain ⟨k, p, A, n, c, e, h1⟩ := h; exact ⟨k, p, A, n, c, e, h1.keep (Keep.of_below hT)⟩)
            | j + 9, h => trivial
          · refine ⟨?_, ?_, ?_, ?_, ?_, ?_, ?_, ?_, ?_, trivial⟩
            · intro listed σ w a hin hout hl hla hs hc hp hG hF
              refine Guarded.none rfl ?_
              have e2 : a.tmps.getD 2 undef = .pointer (some ⟨w0.heap.size, 0, none⟩) := hout 2 (outB_spec (by kernel_rfl))
              refine Does.val (.pointer (some ⟨w0.heap.size, 0, none⟩)) (w' := w) ?_ ⟨Below.refl _ _, rfl, hG⟩
              simp only [Array.getD_eq_getD_getElem?] at e2
              go_simp
            · intro listed σ w a hin hout hl hla hs hc hp hG hF
              refine Guarded.none rfl ?_
              have e62 : a.tmps.getD 62 undef = .pointer (some ⟨w0.heap.size, 0, none⟩) := (hin 0 62 rfl (hp ⟨0, .data⟩ (by simp) rfl)).trans (hF 0 (hp ⟨0, .data⟩ (by simp) rfl))
              have CC := SOF.out w hG; obtain ⟨C0, C1, C2, C3, C4, C5, C6⟩ := CC
              refine Does.val (.int .i64 4) (w' := w) ?_ ⟨Below.refl _ _, rfl, hG⟩
              go_simp
            · intro listed σ w a hin hout hl hla hs hc hp hG hF
              refine Guarded.none rfl ?_
              have e5 : a.tmps.getD 5 undef = .pointer (some ⟨g1b, 0, none⟩) := hout 5 (outB_spec (by kernel_rfl))
              have CC := SOF.out w hG; obtain ⟨C0, C1, C2, C3, C4, C5, C6⟩ := CC
              refine Does.val (.agg #[.int .i64 kp, .int .i64 pp, .slice Ap np cp]) (w' := w) ?_ ⟨Below.refl _ _, rfl, hG⟩
              go_simp
            · intro listed σ w a hin hout hl hla hs hc hp hG hF
              refine Guarded.none rfl ?_
              have e1 : a.tmps.getD 1 undef = .bool false := hout 1 (outB_spec (by kernel_rfl))
              refine Does.val (.bool false) (w' := w) ?_ ⟨Below.refl _ _, rfl, hG⟩
              simp only [Array.getD_eq_getD_getElem?] at e1
              go_simp
            · intro listed σ w a hin hout hl hla hs hc hp hG hF
              refine Guarded.none rfl ?_
              have e64 : a.tmps.getD 64 undef = .agg #[.int .i64 kp, .int .i64 pp, .slice Ap np cp] := (hin 2 64 rfl (hp ⟨2, .data⟩ (by simp) rfl)).trans (hF 2 (hp ⟨2, .data⟩ (by simp) rfl))
              have e65 : a.tmps.getD 65 undef = .bool false := (hin 3 65 rfl (hp ⟨3, .data⟩ (by simp) rfl)).trans (hF 3 (hp ⟨3, .data⟩ (by simp) rfl))
              refine Does.call ?_ (HIH.out (t.kid 0) kp pp Ap np cp false w HM0.out (DP.out.keep (Keep.of_below hG)) (Nat.le_trans HZb.out hG.size)) ?_
              · go_simp
              · rintro e w' ⟨k, p, A, n, c, rfl, hd, hb⟩
                exact ⟨_, rfl, hb, ⟨k, p, A, n, c, rfl, hd⟩, hG.next hb⟩
            · intro listed σ w a hin hout hl hla hs hc hp hG hF
              refine Guarded.none rfl ?_
              have e6 : a.tmps.getD 6 undef = .pointer (some ⟨g2b, 0, none⟩) := hout 6 (outB_spec (by kernel_rfl))
              have CC := SOF.out w hG; obtain ⟨C0, C1, C2, C3, C4, C5, C6⟩ := CC
              refine Does.val (.agg #[.int .i64 kq, .int .i64 pq, .slice Aq nq cq]) (w' := w) ?_ ⟨Below.refl _ _, rfl, hG⟩
              go_simp
            · intro listed σ w a hin hout hl hla hs hc hp hG hF
              refine Guarded.none rfl ?_
              have e1 : a.tmps.getD 1 undef = .bool false := hout 1 (outB_spec (by kernel_rfl))
              refine Does.val (.bool false) (w' := w) ?_ ⟨Below.refl _ _, rfl, hG⟩
              simp only [Array.getD_eq_getD_getElem?] at e1
              go_simp
            · intro listed σ w a hin hout hl hla hs hc hp hG hF
              refine Guarded.none rfl ?_
              have e67 : a.tmps.getD 67 undef = .agg #[.int .i64 kq, .int .i64 pq, .slice Aq nq cq] := (hin 5 67 rfl (hp ⟨5, .data⟩ (by simp) rfl)).trans (hF 5 (hp ⟨5, .data⟩ (by simp) rfl))
              have e68 : a.tmps.getD 68 undef = .bool false := (hin 6 68 rfl (hp ⟨6, .data⟩ (by simp) rfl)).trans (hF 6 (hp ⟨6, .data⟩ (by simp) rfl))
              refine Does.call ?_ (HIH.out (t.kid 1) kq pq Aq nq cq false w HM1.out (DQ.out.keep (Keep.of_below hG)) (Nat.le_trans HZb.out hG.size)) ?_
              · go_simp
              · rintro e w' ⟨k, p, A, n, c, rfl, hd, hb⟩
                exact ⟨_, rfl, hb, ⟨k, p, A, n, c, rfl, hd⟩, hG.next hb⟩
            · intro listed σ w a hin hout hl hla hs hc hp hG hF
              refine Guarded.none rfl ?_
              have e63 : a.tmps.getD 63 undef = .int .i64 4 := (hin 1 63 rfl (hp ⟨1, .data⟩ (by simp) rfl)).trans (hF 1 (hp ⟨1, .data⟩ (by simp) rfl))
              have e66 := hin 4 66 rfl (hp ⟨4, .data⟩ (by simp) rfl)
              obtain ⟨km4, pm4, Am4, nm4, cm4, ev4, hd4⟩ := hF 4 (hp ⟨4, .data⟩ (by simp) rfl)
              rw [ev4] at e66
              have e69 := hin 7 69 rfl (hp ⟨7, .data⟩ (by simp) rfl)
              obtain ⟨km7, pm7, Am7, nm7, cm7, ev7, hd7⟩ := hF 7 (hp ⟨7, .data⟩ (by simp) rfl)
              rw [ev7] at e69
              refine Does.call ?_ (HTWO.out 4 _ _ km4 pm4 Am4 nm4 cm4 km7 pm7 Am7 nm7 cm7 w hd4 hd7 (Nat.le_trans HZb.out hG.size)) ?_
              · go_simp
              · rintro e w' ⟨k, p, A, n, c, rfl, hd, hb⟩
                exact ⟨_, rfl, hb, ⟨k, p, A, n, c, rfl, hd⟩, hG.next hb⟩
          · intro o ho
            injection ho with ho; subst ho
            intro listed σ w a hall hin hout hG hF
            refine Guarded.none rfl ?_
            have e4 : a.tmps.getD 4 undef = .pointer (some ⟨w0.heap.size + 1, 0, none⟩) := hout 4 (outL (by kernel_rfl))
            have e70 := hin 8 70 rfl (by decide)
            obtain ⟨km8, pm8, Am8, nm8, cm8, ev8, hd8⟩ := hF 8 (by decide)
            rw [ev8] at e70
            have hDD := HE.out ▸ hd8
            refine Does.store_box (T := 24) (cells := #[.int .i64 km8, .int .i64 pm8, .slice Am8 nm8 cm8]) rfl e4 e70 (X4.out.next hG) (by kernel_rfl) rfl (by simp [Value.oneCell']) (fun w2 x9 o9 => ?_)
            have HP := hide (HPO.out w2 _ _ _ _ _ (hDD.keep (Keep.of_only o9 HU1.out)) ((HBb.out.next hG).trans (o9.below (HBb.out.next hG).size (by omega))))
            rw [show fin _ σ undef _ = (Act.put (Act.put (Act.put (Act.put (Act.put (Act.put (Act.put (Act.put (Act.put (Act.put _ (some 62) (σ 0)) (some 63) (σ 1)) (some 64) (σ 2)) (some 65) (σ 3)) (some 66) (σ 4)) (some 67) (σ 5)) (some 68) (σ 6)) (some 69) (σ 7)) (some 70) (σ 8)) none undef) from (fin_all hall).trans rfl]
            simp only [Act.put, List.setIfInBounds_toArray, List.set_cons_zero, List.set_cons_succ]
            have X9 := hide x9
            generalize σ 0 = tt0 at *; generalize σ 1 = tt1 at *; generalize σ 2 = tt2 at *; generalize σ 3 = tt3 at *; generalize σ 4 = tt4 at *; generalize σ 5 = tt5 at *; generalize σ 6 = tt6 at *; generalize σ 7 = tt7 at *; generalize σ 8 = tt8 at *
            clear hF hG hall hin hout SOF o9 e4 e70 x9 hDD
            go_wp2_with fail
            exact bodyPost_lt rfl rfl X9.out rfl HP.out
        · have HE := hide (show (Wo.LT.mk 5 0 [tree (plain (norm (t.kid 0)) true), tree (plain (norm (t.kid 1)) true)] : Wo.LT) = tree (plain (norm t) true) from by rw [HN.out]; rfl)
          go_upto_region 16 with fail
          clear C0
          have SOF := hide (fun w (h : Below Wb.heap.size Wb w) => (⟨(X2.out.next h).cell 0 _ rfl, (XP.out.next h).cell 0 _ rfl, (XP.out.next h).cell 1 _ rfl, (XP.out.next h).cell 2 _ rfl, (XQ.out.next h).cell 0 _ rfl, (XQ.out.next h).cell 1 _ rfl, (XQ.out.next h).cell 2 _ rfl⟩ : _ ∧ _ ∧ _ ∧ _ ∧ _ ∧ _ ∧ _))
          refine wp_drawnL (by kernel_rfl) (by kernel_rfl) (by kernel_rfl) (by kernel_rfl) (fun w w' => Below w.heap.size w w') (fun j v w => match j with | 0 => v = .pointer (some ⟨w0.heap.size, 0, none⟩) | 1 => v = .int .i64 4 | 2 => v = .int .i64 5 | 3 => v = .agg #[.int .i64 kp, .int .i64 pp, .slice Ap np cp] | 4 => v = .bool true | 5 => ∃ k p A n c, v = .agg #[.int .i64 k, .int .i64 p, .slice A n c] ∧ DIn US w (tree (plain (norm (t.kid 0)) true)) (c3 k p A n c) | 6 => v = .agg #[.int .i64 kq, .int .i64 pq, .slice Aq nq cq] | 7 => v = .bool true | 8 => ∃ k p A n c, v = .agg #[.int .i64 k, .int .i64 p, .slice A n c] ∧ DIn US w (tree (plain (norm (t.kid 1)) true)) (c3 k p A n c) | 9 => ∃ k p A n c, v = .agg #[.int .i64 k, .int .i64 p, .slice A n c] ∧ DIn US w (.mk 5 0 [tree (plain (norm (t.kid 0)) true), tree (plain (norm (t.kid 1)) true)]) (c3 k p A n c) | _ => True) (fun _ _ w => Below Wb.heap.size Wb w) ?_ (fun _ => bl_drewN Wb 1) ?_ ?_
          · intro j v w w' hT h
            match j, h with
            | 0, h => exact h
            | 1, h => exact h
            | 2, h => exact h
            | 3, h => exact h
            | 4, h => exact h
            | 5, h => exact (by obtain ⟨k, p, A, n, c, e, h1⟩ := h; exact ⟨k, p, A, n, c, e, h1.keep (Keep.of_below hT)⟩)
            | 6, h => exact h
            | 7, h => exact h
            | 8, h => exact (by obtain ⟨k, p, A, n, c, e, h1⟩ := h; exact ⟨k, p, A, n, c, e, h1.keep (Keep.of_below hT)⟩)
            | 9, h => exact (by obtain ⟨k, p, A, n, c, e, h1⟩ := h; exact ⟨k, p, A, n, c, e, h1.keep (Keep.of_below hT)⟩)
            | j + 10, h => trivial
          · refine ⟨?_, ?_, ?_, ?_, ?_, ?_, ?_, ?_, ?_, ?_, trivial⟩
            · intro listed σ w a hin hout hl hla hs hc hp hG hF
              refine Guarded.none rfl ?_
              have e2 : a.tmps.getD 2 undef = .pointer (some ⟨w0.heap.size, 0, none⟩) := hout 2 (outB_spec (by kernel_rfl))
              refine Does.val (.pointer (some ⟨w0.heap.size, 0, none⟩)) (w' := w) ?_ ⟨Below.refl _ _, rfl, hG⟩
              simp only [Array.getD_eq_getD_getElem?] at e2
              go_simp
            · intro listed σ w a hin hout hl hla hs hc hp hG hF
              refine Guarded.none rfl ?_
              have e52 : a.tmps.getD 52 undef = .pointer (some ⟨w0.heap.size, 0, none⟩) := (hin 0 52 rfl (hp ⟨0, .data⟩ (by simp) rfl)).trans (hF 0 (hp ⟨0, .data⟩ (by simp) rfl))
              have CC := SOF.out w hG; obtain ⟨C0, C1, C2, C3, C4, C5, C6⟩ := CC
              refine Does.val (.int .i64 4) (w' := w) ?_ ⟨Below.refl _ _, rfl, hG⟩
              go_simp
            · intro listed σ w a hin hout hl hla hs hc hp hG hF
              refine Guarded.none rfl ?_
              have e53 : a.tmps.getD 53 undef = .int .i64 4 := (hin 1 53 rfl (hp ⟨1, .data⟩ (by simp) rfl)).trans (hF 1 (hp ⟨1, .data⟩ (by simp) rfl))
              refine Does.val (.int .i64 5) (w' := w) ?_ ⟨Below.refl _ _, rfl, hG⟩
              simp only [Array.getD_eq_getD_getElem?] at e53
              go_simp
              first | done | exact i64w (by omega) (by omega)
            · intro listed σ w a hin hout hl hla hs hc hp hG hF
              refine Guarded.none rfl ?_
              have e5 : a.tmps.getD 5 undef = .pointer (some ⟨g1b, 0, none⟩) := hout 5 (outB_spec (by kernel_rfl))
              have CC := SOF.out w hG; obtain ⟨C0, C1, C2, C3, C4, C5, C6⟩ := CC
              refine Does.val (.agg #[.int .i64 kp, .int .i64 pp, .slice Ap np cp]) (w' := w) ?_ ⟨Below.refl _ _, rfl, hG⟩
              go_simp
            · intro listed σ w a hin hout hl hla hs hc hp hG hF
              refine Guarded.none rfl ?_
              have e1 : a.tmps.getD 1 undef = .bool true := hout 1 (outB_spec (by kernel_rfl))
              refine Does.val (.bool true) (w' := w) ?_ ⟨Below.refl _ _, rfl, hG⟩
              simp only [Array.getD_eq_getD_getElem?] at e1
              go_simp
            · intro listed σ w a hin hout hl hla hs hc hp hG hF
              refine Guarded.none rfl ?_
              have e55 : a.tmps.getD 55 undef = .agg #[.int .i64 kp, .int .i64 pp, .slice Ap np cp] := (hin 3 55 rfl (hp ⟨3, .data⟩ (by simp) rfl)).trans (hF 3 (hp ⟨3, .data⟩ (by simp) rfl))
              have e56 : a.tmps.getD 56 undef = .bool true := (hin 4 56 rfl (hp ⟨4, .data⟩ (by simp) rfl)).trans (hF 4 (hp ⟨4, .data⟩ (by simp) rfl))
              refine Does.call ?_ (HIH.out (t.kid 0) kp pp Ap np cp true w HM0.out (DP.out.keep (Keep.of_below hG)) (Nat.le_trans HZb.out hG.size)) ?_
              · go_simp
              · rintro e w' ⟨k, p, A, n, c, rfl, hd, hb⟩
                exact ⟨_, rfl, hb, ⟨k, p, A, n, c, rfl, hd⟩, hG.next hb⟩
            · intro listed σ w a hin hout hl hla hs hc hp hG hF
              refine Guarded.none rfl ?_
              have e6 : a.tmps.getD 6 undef = .pointer (some ⟨g2b, 0, none⟩) := hout 6 (outB_spec (by kernel_rfl))
              have CC := SOF.out w hG; obtain ⟨C0, C1, C2, C3, C4, C5, C6⟩ := CC
              refine Does.val (.agg #[.int .i64 kq, .int .i64 pq, .slice Aq nq cq]) (w' := w) ?_ ⟨Below.refl _ _, rfl, hG⟩
              go_simp
            · intro listed σ w a hin hout hl hla hs hc hp hG hF
              refine Guarded.none rfl ?_
              have e1 : a.tmps.getD 1 undef = .bool true := hout 1 (outB_spec (by kernel_rfl))
              refine Does.val (.bool true) (w' := w) ?_ ⟨Below.refl _ _, rfl, hG⟩
              simp only [Array.getD_eq_getD_getElem?] at e1
              go_simp
            · intro listed σ w a hin hout hl hla hs hc hp hG hF
              refine Guarded.none rfl ?_
              have e58 : a.tmps.getD 58 undef = .agg #[.int .i64 kq, .int .i64 pq, .slice Aq nq cq] := (hin 6 58 rfl (hp ⟨6, .data⟩ (by simp) rfl)).trans (hF 6 (hp ⟨6, .data⟩ (by simp) rfl))
              have e59 : a.tmps.getD 59 undef = .bool true := (hin 7 59 rfl (hp ⟨7, .data⟩ (by simp) rfl)).trans (hF 7 (hp ⟨7, .data⟩ (by simp) rfl))
              refine Does.call ?_ (HIH.out (t.kid 1) kq pq Aq nq cq true w HM1.out (DQ.out.keep (Keep.of_below hG)) (Nat.le_trans HZb.out hG.size)) ?_
              · go_simp
              · rintro e w' ⟨k, p, A, n, c, rfl, hd, hb⟩
                exact ⟨_, rfl, hb, ⟨k, p, A, n, c, rfl, hd⟩, hG.next hb⟩
            · intro listed σ w a hin hout hl hla hs hc hp hG hF
              refine Guarded.none rfl ?_
              have e54 : a.tmps.getD 54 undef = .int .i64 5 := (hin 2 54 rfl (hp ⟨2, .data⟩ (by simp) rfl)).trans (hF 2 (hp ⟨2, .data⟩ (by simp) rfl))
              have e57 := hin 5 57 rfl (hp ⟨5, .data⟩ (by simp) rfl)
              obtain ⟨km5, pm5, Am5, nm5, cm5, ev5, hd5⟩ := hF 5 (hp ⟨5, .data⟩ (by simp) rfl)
              rw [ev5] at e57
              have e60 := hin 8 60 rfl (hp ⟨8, .data⟩ (by simp) rfl)
              obtain ⟨km8, pm8, Am8, nm8, cm8, ev8, hd8⟩ := hF 8 (hp ⟨8, .data⟩ (by simp) rfl)
              rw [ev8] at e60
              refine Does.call ?_ (HTWO.out 5 _ _ km5 pm5 Am5 nm5 cm5 km8 pm8 Am8 nm8 cm8 w hd5 hd8 (Nat.le_trans HZb.out hG.size)) ?_
              · go_simp
              · rintro e w' ⟨k, p, A, n, c, rfl, hd, hb⟩
                exact ⟨_, rfl, hb, ⟨k, p, A, n, c, rfl, hd⟩, hG.next hb⟩
          · intro o ho
            injection ho with ho; subst ho
            intro listed σ w a hall hin hout hG hF
            refine Guarded.none rfl ?_
            have e4 : a.tmps.getD 4 undef = .pointer (some ⟨w0.heap.size + 1, 0, none⟩) := hout 4 (outL (by kernel_rfl))
            have e61 := hin 9 61 rfl (by decide)
            obtain ⟨km9, pm9, Am9, nm9, cm9, ev9, hd9⟩ := hF 9 (by decide)
            rw [ev9] at e61
            have hDD := HE.out ▸ hd9
            refine Does.store_box (T := 24) (cells := #[.int .i64 km9, .int .i64 pm9, .slice Am9 nm9 cm9]) rfl e4 e61 (X4.out.next hG) (by kernel_rfl) rfl (by simp [Value.oneCell']) (fun w2 x9 o9 => ?_)
            have HP := hide (HPO.out w2 _ _ _ _ _ (hDD.keep (Keep.of_only o9 HU1.out)) ((HBb.out.next hG).trans (o9.below (HBb.out.next hG).size (by omega))))
            rw [show fin _ σ undef _ = (Act.put (Act.put (Act.put (Act.put (Act.put (Act.put (Act.put (Act.put (Act.put (Act.put (Act.put _ (some 52) (σ 0)) (some 53) (σ 1)) (some 54) (σ 2)) (some 55) (σ 3)) (some 56) (σ 4)) (some 57) (σ 5)) (some 58) (σ 6)) (some 59) (σ 7)) (some 60) (σ 8)) (some 61) (σ 9)) none undef) from (fin_all hall).trans rfl]
            simp only [Act.put, List.setIfInBounds_toArray, List.set_cons_zero, List.set_cons_succ]
            have X9 := hide x9
            generalize σ 0 = tt0 at *; generalize σ 1 = tt1 at *; generalize σ 2 = tt2 at *; generalize σ 3 = tt3 at *; generalize σ 4 = tt4 at *; generalize σ 5 = tt5 at *; generalize σ 6 = tt6 at *; generalize σ 7 = tt7 at *; generalize σ 8 = tt8 at *; generalize σ 9 = tt9 at *
            clear hF hG hall hin hout SOF o9 e4 e61 x9 hDD
            go_wp2_with fail
            exact bodyPost_lt rfl rfl X9.out rfl HP.out
      have g4 : (k == 4) = false := by simp; omega
      by_cases h5 : k = 5
      · subst h5
        have HN := hide (norm_k5 t HK.out)
        have HM0 := hide (show meas (norm (t.kid 0)) ≤ Z from by rw [HN.out] at hz; simp [meas] at hz; omega)
        have HM1 := hide (show meas (norm (t.kid 1)) ≤ Z from by rw [HN.out] at hz; simp [meas] at hz; omega)
        have C0 := X2.out.cell 0 _ rfl
        cases d
        · have HE := hide (show (Wo.LT.mk 5 0 [tree (plain (norm (t.kid 0)) false), tree (plain (norm (t.kid 1)) false)] : Wo.LT) = tree (plain (norm t) false) from by rw [HN.out]; rfl)
          go_upto_region 17 with fail
          clear C0
          have SOF := hide (fun w (h : Below Wb.heap.size Wb w) => (⟨(X2.out.next h).cell 0 _ rfl, (XP.out.next h).cell 0 _ rfl, (XP.out.next h).cell 1 _ rfl, (XP.out.next h).cell 2 _ rfl, (XQ.out.next h).cell 0 _ rfl, (XQ.out.next h).cell 1 _ rfl, (XQ.out.next h).cell 2 _ rfl⟩ : _ ∧ _ ∧ _ ∧ _ ∧ _ ∧ _ ∧ _))
          refine wp_drawnL (by kernel_rfl) (by kernel_rfl) (by kernel_rfl) (by kernel_rfl) (fun w w' => Below w.heap.size w w') (fun j v w => match j with | 0 => v = .pointer (some ⟨w0.heap.size, 0, none⟩) | 1 => v = .int .i64 5 | 2 => v = .agg #[.int .i64 kp, .int .i64 pp, .slice Ap np cp] | 3 => v = .bool false | 4 => ∃ k p A n c, v = .agg #[.int .i64 k, .int .i64 p, .slice A n c] ∧ DIn US w (tree (plain (norm (t.kid 0)) false)) (c3 k p A n c) | 5 => v = .agg #[.int .i64 kq, .int .i64 pq, .slice Aq nq cq] | 6 => v = .bool false | 7 => ∃ k p A n c, v = .agg #[.int .i64 k, .int .i64 p, .slice A n c] ∧ DIn US w (tree (plain (norm (t.kid 1)) false)) (c3 k p A n c) | 8 => ∃ k p A n c, v = .agg #[.int .i64 k, .int .i64 p, .slice A n c] ∧ DIn US w (.mk 5 0 [tree (plain (norm (t.kid 0)) false), tree (plain (norm (t.kid 1)) false)]) (c3 k p A n c) | _ => True) (fun _ _ w => Below Wb.heap.size Wb w) ?_ (fun _ => bl_drewN Wb 1) ?_ ?_
          · intro j v w w' hT h
            match j, h with
            | 0, h => exact h
            | 1, h => exact h
            | 2, h => exact h
            | 3, h => exact h
            | 4, h => exact (by obtain ⟨k, p, A, n, c, e, h1⟩ := h; exact ⟨k, p, A, n, c, e, h1.keep (Keep.of_below hT)⟩)
            | 5, h => exact h
            | 6, h => exact h
            | 7, h => exact (by obtain ⟨k, p, A, n, c, e, h1⟩ := h; exact ⟨k, p, A, n, c, e, h1.keep (Keep.of_below hT)⟩)
            | 8, h => exact (by obtain ⟨k, p, A, n, c, e, h1⟩ := h; exact ⟨k, p, A, n, c, e, h1.keep (Keep.of_below hT)⟩)
            | j + 9, h => trivial
          · refine ⟨?_, ?_, ?_, ?_, ?_, ?_, ?_, ?_, ?_, trivial⟩
            · intro listed σ w a hin hout hl hla hs hc hp hG hF
              refine Guarded.none rfl ?_
              have e2 : a.tmps.getD 2 undef = .pointer (some ⟨w0.heap.size, 0, none⟩) := hout 2 (outB_spec (by kernel_rfl))
              refine Does.val (.pointer (some ⟨w0.heap.size, 0, none⟩)) (w' := w) ?_ ⟨Below.refl _ _, rfl, hG⟩
              simp only [Array.getD_eq_getD_getElem?] at e2
              go_simp
            · intro listed σ w a hin hout hl hla hs hc hp hG hF
              refine Guarded.none rfl ?_
              have e62 : a.tmps.getD 62 undef = .pointer (some ⟨w0.heap.size, 0, none⟩) := (hin 0 62 rfl (hp ⟨0, .data⟩ (by simp) rfl)).trans (hF 0 (hp ⟨0, .data⟩ (by simp) rfl))
              have CC := SOF.out w hG; obtain ⟨C0, C1, C2, C3, C4, C5, C6⟩ := CC
              refine Does.val (.int .i64 5) (w' := w) ?_ ⟨Below.refl _ _, rfl, hG⟩
              go_simp
            · intro listed σ w a hin hout hl hla hs hc hp hG hF
              refine Guarded.none rfl ?_
              have e5 : a.tmps.getD 5 undef = .pointer (some ⟨g1b, 0, none⟩) := hout 5 (outB_spec (by kernel_rfl))
              have CC := SOF.out w hG; obtain ⟨C0, C1, C2, C3, C4, C5, C6⟩ := CC
              refine Does.val (.agg #[.int .i64 kp, .int .i64 pp, .slice Ap np cp]) (w' := w) ?_ ⟨Below.refl _ _, rfl, hG⟩
              go_simp
            · intro listed σ w a hin hout hl hla hs hc hp hG hF
              refine Guarded.none rfl ?_
              have e1 : a.tmps.getD 1 undef = .bool false := hout 1 (outB_spec (by kernel_rfl))
              refine Does.val (.bool false) (w' := w) ?_ ⟨Below.refl _ _, rfl, hG⟩
              simp only [Array.getD_eq_getD_getElem?] at e1
              go_simp
            · intro listed σ w a hin hout hl hla hs hc hp hG hF
              refine Guarded.none rfl ?_
              have e64 : a.tmps.getD 64 undef = .agg #[.int .i64 kp, .int .i64 pp, .slice Ap np cp] := (hin 2 64 rfl (hp ⟨2, .data⟩ (by simp) rfl)).trans (hF 2 (hp ⟨2, .data⟩ (by simp) rfl))
              have e65 : a.tmps.getD 65 undef = .bool false := (hin 3 65 rfl (hp ⟨3, .data⟩ (by simp) rfl)).trans (hF 3 (hp ⟨3, .data⟩ (by simp) rfl))
              refine Does.call ?_ (HIH.out (t.kid 0) kp pp Ap np cp false w HM0.out (DP.out.keep (Keep.of_below hG)) (Nat.le_trans HZb.out hG.size)) ?_
              · go_simp
              · rintro e w' ⟨k, p, A, n, c, rfl, hd, hb⟩
                exact ⟨_, rfl, hb, ⟨k, p, A, n, c, rfl, hd⟩, hG.next hb⟩
            · intro listed σ w a hin hout hl hla hs hc hp hG hF
              refine Guarded.none rfl ?_
              have e6 : a.tmps.getD 6 undef = .pointer (some ⟨g2b, 0, none⟩) := hout 6 (outB_spec (by kernel_rfl))
              have CC := SOF.out w hG; obtain ⟨C0, C1, C2, C3, C4, C5, C6⟩ := CC
              refine Does.val (.agg #[.int .i64 kq, .int .i64 pq, .slice Aq nq cq]) (w' := w) ?_ ⟨Below.refl _ _, rfl, hG⟩
              go_simp
            · intro listed σ w a hin hout hl hla hs hc hp hG hF
              refine Guarded.none rfl ?_
              have e1 : a.tmps.getD 1 undef = .bool false := hout 1 (outB_spec (by kernel_rfl))
              refine Does.val (.bool false) (w' := w) ?_ ⟨Below.refl _ _, rfl, hG⟩
              simp only [Array.getD_eq_getD_getElem?] at e1
              go_simp
            · intro listed σ w a hin hout hl hla hs hc hp hG hF
              refine Guarded.none rfl ?_
              have e67 : a.tmps.getD 67 undef = .agg #[.int .i64 kq, .int .i64 pq, .slice Aq nq cq] := (hin 5 67 rfl (hp ⟨5, .data⟩ (by simp) rfl)).trans (hF 5 (hp ⟨5, .data⟩ (by simp) rfl))
              have e68 : a.tmps.getD 68 undef = .bool false := (hin 6 68 rfl (hp ⟨6, .data⟩ (by simp) rfl)).trans (hF 6 (hp ⟨6, .data⟩ (by simp) rfl))
              refine Does.call ?_ (HIH.out (t.kid 1) kq pq Aq nq cq false w HM1.out (DQ.out.keep (Keep.of_below hG)) (Nat.le_trans HZb.out hG.size)) ?_
              · go_simp
              · rintro e w' ⟨k, p, A, n, c, rfl, hd, hb⟩
                exact ⟨_, rfl, hb, ⟨k, p, A, n, c, rfl, hd⟩, hG.next hb⟩
            · intro listed σ w a hin hout hl hla hs hc hp hG hF
              refine Guarded.none rfl ?_
              have e63 : a.tmps.getD 63 undef = .int .i64 5 := (hin 1 63 rfl (hp ⟨1, .data⟩ (by simp) rfl)).trans (hF 1 (hp ⟨1, .data⟩ (by simp) rfl))
              have e66 := hin 4 66 rfl (hp ⟨4, .data⟩ (by simp) rfl)
              obtain ⟨km4, pm4, Am4, nm4, cm4, ev4, hd4⟩ := hF 4 (hp ⟨4, .data⟩ (by simp) rfl)
              rw [ev4] at e66
              have e69 := hin 7 69 rfl (hp ⟨7, .data⟩ (by simp) rfl)
              obtain ⟨km7, pm7, Am7, nm7, cm7, ev7, hd7⟩ := hF 7 (hp ⟨7, .data⟩ (by simp) rfl)
              rw [ev7] at e69
              refine Does.call ?_ (HTWO.out 5 _ _ km4 pm4 Am4 nm4 cm4 km7 pm7 Am7 nm7 cm7 w hd4 hd7 (Nat.le_trans HZb.out hG.size)) ?_
              · go_simp
              · rintro e w' ⟨k, p, A, n, c, rfl, hd, hb⟩
                exact ⟨_, rfl, hb, ⟨k, p, A, n, c, rfl, hd⟩, hG.next hb⟩
          · intro o ho
            injection ho with ho; subst ho
            intro listed σ w a hall hin hout hG hF
            refine Guarded.none rfl ?_
            have e4 : a.tmps.getD 4 undef = .pointer (some ⟨w0.heap.size + 1, 0, none⟩) := hout 4 (outL (by kernel_rfl))
            have e70 := hin 8 70 rfl (by decide)
            obtain ⟨km8, pm8, Am8, nm8, cm8, ev8, hd8⟩ := hF 8 (by decide)
            rw [ev8] at e70
            have hDD := HE.out ▸ hd8
            refine Does.store_box (T := 24) (cells := #[.int .i64 km8, .int .i64 pm8, .slice Am8 nm8 cm8]) rfl e4 e70 (X4.out.next hG) (by kernel_rfl) rfl (by simp [Value.oneCell']) (fun w2 x9 o9 => ?_)
            have HP := hide (HPO.out w2 _ _ _ _ _ (hDD.keep (Keep.of_only o9 HU1.out)) ((HBb.out.next hG).trans (o9.below (HBb.out.next hG).size (by omega))))
            rw [show fin _ σ undef _ = (Act.put (Act.put (Act.put (Act.put (Act.put (Act.put (Act.put (Act.put (Act.put (Act.put _ (some 62) (σ 0)) (some 63) (σ 1)) (some 64) (σ 2)) (some 65) (σ 3)) (some 66) (σ 4)) (some 67) (σ 5)) (some 68) (σ 6)) (some 69) (σ 7)) (some 70) (σ 8)) none undef) from (fin_all hall).trans rfl]
            simp only [Act.put, List.setIfInBounds_toArray, List.set_cons_zero, List.set_cons_succ]
            have X9 := hide x9
            generalize σ 0 = tt0 at *; generalize σ 1 = tt1 at *; generalize σ 2 = tt2 at *; generalize σ 3 = tt3 at *; generalize σ 4 = tt4 at *; generalize σ 5 = tt5 at *; generalize σ 6 = tt6 at *; generalize σ 7 = tt7 at *; generalize σ 8 = tt8 at *
            clear hF hG hall hin hout SOF o9 e4 e70 x9 hDD
            go_wp2_with fail
            exact bodyPost_lt rfl rfl X9.out rfl HP.out
        · have HE := hide (show (Wo.LT.mk 4 0 [tree (plain (norm (t.kid 0)) true), tree (plain (norm (t.kid 1)) true)] : Wo.LT) = tree (plain (norm t) true) from by rw [HN.out]; rfl)
          go_upto_region 16 with fail
          clear C0
          have SOF := hide (fun w (h : Below Wb.heap.size Wb w) => (⟨(X2.out.next h).cell 0 _ rfl, (XP.out.next h).cell 0 _ rfl, (XP.out.next h).cell 1 _ rfl, (XP.out.next h).cell 2 _ rfl, (XQ.out.next h).cell 0 _ rfl, (XQ.out.next h).cell 1 _ rfl, (XQ.out.next h).cell 2 _ rfl⟩ : _ ∧ _ ∧ _ ∧ _ ∧ _ ∧ _ ∧ _))
          refine wp_drawnL (by kernel_rfl) (by kernel_rfl) (by kernel_rfl) (by kernel_rfl) (fun w w' => Below w.heap.size w w') (fun j v w => match j with | 0 => v = .pointer (some ⟨w0.heap.size, 0, none⟩) | 1 => v = .int .i64 5 | 2 => v = .int .i64 4 | 3 => v = .agg #[.int .i64 kp, .int .i64 pp, .slice Ap np cp] | 4 => v = .bool true | 5 => ∃ k p A n c, v = .agg #[.int .i64 k, .int .i64 p, .slice A n c] ∧ DIn US w (tree (plain (norm (t.kid 0)) true)) (c3 k p A n c) | 6 => v = .agg #[.int .i64 kq, .int .i64 pq, .slice Aq nq cq] | 7 => v = .bool true | 8 => ∃ k p A n c, v = .agg #[.int .i64 k, .int .i64 p, .slice A n c] ∧ DIn US w (tree (plain (norm (t.kid 1)) true)) (c3 k p A n c) | 9 => ∃ k p A n c, v = .agg #[.int .i64 k, .int .i64 p, .slice A n c] ∧ DIn US w (.mk 4 0 [tree (plain (norm (t.kid 0)) true), tree (plain (norm (t.kid 1)) true)]) (c3 k p A n c) | _ => True) (fun _ _ w => Below Wb.heap.size Wb w) ?_ (fun _ => bl_drewN Wb 1) ?_ ?_
          · intro j v w w' hT h
            match j, h with
            | 0, h => exact h
            | 1, h => exact h
            | 2, h => exact h
            | 3, h => exact h
            | 4, h => exact h
            | 5, h => exact (by obtain ⟨k, p, A, n, c, e, h1⟩ := h; exact ⟨k, p, A, n, c, e, h1.keep (Keep.of_below hT)⟩)
            | 6, h => exact h
            | 7, h => exact h
            | 8, h => exact (by obtain ⟨k, p, A, n, c, e, h1⟩ := h; exact ⟨k, p, A, n, c, e, h1.keep (Keep.of_below hT)⟩)
            | 9, h => exact (by obtain ⟨k, p, A, n, c, e, h1⟩ := h; exact ⟨k, p, A, n, c, e, h1.keep (Keep.of_below hT)⟩)
            | j + 10, h => trivial
          · refine ⟨?_, ?_, ?_, ?_, ?_, ?_, ?_, ?_, ?_, ?_, trivial⟩
            · intro listed σ w a hin hout hl hla hs hc hp hG hF
              refine Guarded.none rfl ?_
              have e2 : a.tmps.getD 2 undef = .pointer (some ⟨w0.heap.size, 0, none⟩) := hout 2 (outB_spec (by kernel_rfl))
              refine Does.val (.pointer (some ⟨w0.heap.size, 0, none⟩)) (w' := w) ?_ ⟨Below.refl _ _, rfl, hG⟩
              simp only [Array.getD_eq_getD_getElem?] at e2
              go_simp
            · intro listed σ w a hin hout hl hla hs hc hp hG hF
              refine Guarded.none rfl ?_
              have e52 : a.tmps.getD 52 undef = .pointer (some ⟨w0.heap.size, 0, none⟩) := (hin 0 52 rfl (hp ⟨0, .data⟩ (by simp) rfl)).trans (hF 0 (hp ⟨0, .data⟩ (by simp) rfl))
              have CC := SOF.out w hG; obtain ⟨C0, C1, C2, C3, C4, C5, C6⟩ := CC
              refine Does.val (.int .i64 5) (w' := w) ?_ ⟨Below.refl _ _, rfl, hG⟩
              go_simp
            · intro listed σ w a hin hout hl hla hs hc hp hG hF
              refine Guarded.none rfl ?_
              have e53 : a.tmps.getD 53 undef = .int .i64 5 := (hin 1 53 rfl (hp ⟨1, .data⟩ (by simp) rfl)).trans (hF 1 (hp ⟨1, .data⟩ (by simp) rfl))
              refine Does.val (.int .i64 4) (w' := w) ?_ ⟨Below.refl _ _, rfl, hG⟩
              simp only [Array.getD_eq_getD_getElem?] at e53
              go_simp
              first | done | exact i64w (by omega) (by omega)
            · intro listed σ w a hin hout hl hla hs hc hp hG hF
              refine Guarded.none rfl ?_
              have e5 : a.tmps.getD 5 undef = .pointer (some ⟨g1b, 0, none⟩) := hout 5 (outB_spec (by kernel_rfl))
              have CC := SOF.out w hG; obtain ⟨C0, C1, C2, C3, C4, C5, C6⟩ := CC
              refine Does.val (.agg #[.int .i64 kp, .int .i64 pp, .slice Ap np cp]) (w' := w) ?_ ⟨Below.refl _ _, rfl, hG⟩
              go_simp
            · intro listed σ w a hin hout hl hla hs hc hp hG hF
              refine Guarded.none rfl ?_
              have e1 : a.tmps.getD 1 undef = .bool true := hout 1 (outB_spec (by kernel_rfl))
              refine Does.val (.bool true) (w' := w) ?_ ⟨Below.refl _ _, rfl, hG⟩
              simp only [Array.getD_eq_getD_getElem?] at e1
              go_simp
            · intro listed σ w a hin hout hl hla hs hc hp hG hF
              refine Guarded.none rfl ?_
              have e55 : a.tmps.getD 55 undef = .agg #[.int .i64 kp, .int .i64 pp, .slice Ap np cp] := (hin 3 55 rfl (hp ⟨3, .data⟩ (by simp) rfl)).trans (hF 3 (hp ⟨3, .data⟩ (by simp) rfl))
              have e56 : a.tmps.getD 56 undef = .bool true := (hin 4 56 rfl (hp ⟨4, .data⟩ (by simp) rfl)).trans (hF 4 (hp ⟨4, .data⟩ (by simp) rfl))
              refine Does.call ?_ (HIH.out (t.kid 0) kp pp Ap np cp true w HM0.out (DP.out.keep (Keep.of_below hG)) (Nat.le_trans HZb.out hG.size)) ?_
              · go_simp
              · rintro e w' ⟨k, p, A, n, c, rfl, hd, hb⟩
                exact ⟨_, rfl, hb, ⟨k, p, A, n, c, rfl, hd⟩, hG.next hb⟩
            · intro listed σ w a hin hout hl hla hs hc hp hG hF
              refine Guarded.none rfl ?_
              have e6 : a.tmps.getD 6 undef = .pointer (some ⟨g2b, 0, none⟩) := hout 6 (outB_spec (by kernel_rfl))
              have CC := SOF.out w hG; obtain ⟨C0, C1, C2, C3, C4, C5, C6⟩ := CC
              refine Does.val (.agg #[.int .i64 kq, .int .i64 pq, .slice Aq nq cq]) (w' := w) ?_ ⟨Below.refl _ _, rfl, hG⟩
              go_simp
            · intro listed σ w a hin hout hl hla hs hc hp hG hF
              refine Guarded.none rfl ?_
              have e1 : a.tmps.getD 1 undef = .bool true := hout 1 (outB_spec (by kernel_rfl))
              refine Does.val (.bool true) (w' := w) ?_ ⟨Below.refl _ _, rfl, hG⟩
              simp only [Array.getD_eq_getD_getElem?] at e1
              go_simp
            · intro listed σ w a hin hout hl hla hs hc hp hG hF
              refine Guarded.none rfl ?_
              have e58 : a.tmps.getD 58 undef = .agg #[.int .i64 kq, .int .i64 pq, .slice Aq nq cq] := (hin 6 58 rfl (hp ⟨6, .data⟩ (by simp) rfl)).trans (hF 6 (hp ⟨6, .data⟩ (by simp) rfl))
              have e59 : a.tmps.getD 59 undef = .bool true := (hin 7 59 rfl (hp ⟨7, .data⟩ (by simp) rfl)).trans (hF 7 (hp ⟨7, .data⟩ (by simp) rfl))
              refine Does.call ?_ (HIH.out (t.kid 1) kq pq Aq nq cq true w HM1.out (DQ.out.keep (Keep.of_below hG)) (Nat.le_trans HZb.out hG.size)) ?_
              · go_simp
              · rintro e w' ⟨k, p, A, n, c, rfl, hd, hb⟩
                exact ⟨_, rfl, hb, ⟨k, p, A, n, c, rfl, hd⟩, hG.next hb⟩
            · intro listed σ w a hin hout hl hla hs hc hp hG hF
              refine Guarded.none rfl ?_
              have e54 : a.tmps.getD 54 undef = .int .i64 4 := (hin 2 54 rfl (hp ⟨2, .data⟩ (by simp) rfl)).trans (hF 2 (hp ⟨2, .data⟩ (by simp) rfl))
              have e57 := hin 5 57 rfl (hp ⟨5, .data⟩ (by simp) rfl)
              obtain ⟨km5, pm5, Am5, nm5, cm5, ev5, hd5⟩ := hF 5 (hp ⟨5, .data⟩ (by simp) rfl)
              rw [ev5] at e57
              have e60 := hin 8 60 rfl (hp ⟨8, .data⟩ (by simp) rfl)
              obtain ⟨km8, pm8, Am8, nm8, cm8, ev8, hd8⟩ := hF 8 (hp ⟨8, .data⟩ (by simp) rfl)
              rw [ev8] at e60
              refine Does.call ?_ (HTWO.out 4 _ _ km5 pm5 Am5 nm5 cm5 km8 pm8 Am8 nm8 cm8 w hd5 hd8 (Nat.le_trans HZb.out hG.size)) ?_
              · go_simp
              · rintro e w' ⟨k, p, A, n, c, rfl, hd, hb⟩
                exact ⟨_, rfl, hb, ⟨k, p, A, n, c, rfl, hd⟩, hG.next hb⟩
          · intro o ho
            injection ho with ho; subst ho
            intro listed σ w a hall hin hout hG hF
            refine Guarded.none rfl ?_
            have e4 : a.tmps.getD 4 undef = .pointer (some ⟨w0.heap.size + 1, 0, none⟩) := hout 4 (outL (by kernel_rfl))
            have e61 := hin 9 61 rfl (by decide)
            obtain ⟨km9, pm9, Am9, nm9, cm9, ev9, hd9⟩ := hF 9 (by decide)
            rw [ev9] at e61
            have hDD := HE.out ▸ hd9
            refine Does.store_box (T := 24) (cells := #[.int .i64 km9, .int .i64 pm9, .slice Am9 nm9 cm9]) rfl e4 e61 (X4.out.next hG) (by kernel_rfl) rfl (by simp [Value.oneCell']) (fun w2 x9 o9 => ?_)
            have HP := hide (HPO.out w2 _ _ _ _ _ (hDD.keep (Keep.of_only o9 HU1.out)) ((HBb.out.next hG).trans (o9.below (HBb.out.next hG).size (by omega))))
            rw [show fin _ σ undef _ = (Act.put (Act.put (Act.put (Act.put (Act.put (Act.put (Act.put (Act.put (Act.put (Act.put (Act.put _ (some 52) (σ 0)) (some 53) (σ 1)) (some 54) (σ 2)) (some 55) (σ 3)) (some 56) (σ 4)) (some 57) (σ 5)) (some 58) (σ 6)) (some 59) (σ 7)) (some 60) (σ 8)) (some 61) (σ 9)) none undef) from (fin_all hall).trans rfl]
            simp only [Act.put, List.setIfInBounds_toArray, List.set_cons_zero, List.set_cons_succ]
            have X9 := hide x9
            generalize σ 0 = tt0 at *; generalize σ 1 = tt1 at *; generalize σ 2 = tt2 at *; generalize σ 3 = tt3 at *; generalize σ 4 = tt4 at *; generalize σ 5 = tt5 at *; generalize σ 6 = tt6 at *; generalize σ 7 = tt7 at *; generalize σ 8 = tt8 at *; generalize σ 9 = tt9 at *
            clear hF hG hall hin hout SOF o9 e4 e61 x9 hDD
            go_wp2_with fail
            exact bodyPost_lt rfl rfl X9.out rfl HP.out
      have g5 : (k == 5) = false := by simp; omega
      by_cases h11 : k = 11
      · subst h11
        have HN := hide (norm_k11 t HK.out)
        have HM0 := hide (show meas (norm (t.kid 0)) ≤ Z from by rw [HN.out] at hz; simp [meas] at hz; omega)
        have HM1 := hide (show meas (norm (t.kid 1)) ≤ Z from by rw [HN.out] at hz; simp [meas] at hz; omega)
        have C0 := X2.out.cell 0 _ rfl
        cases d
        · have HE := hide (show (Wo.LT.mk 11 0 [tree (plain (norm (t.kid 0)) false), tree (plain (norm (t.kid 1)) false)] : Wo.LT) = tree (plain (norm t) false) from by rw [HN.out]; rfl)
          go_upto_region 22 with fail
          clear C0
          have SOF := hide (fun w (h : Below Wb.heap.size Wb w) => (⟨(X2.out.next h).cell 0 _ rfl, (XP.out.next h).cell 0 _ rfl, (XP.out.next h).cell 1 _ rfl, (XP.out.next h).cell 2 _ rfl, (XQ.out.next h).cell 0 _ rfl, (XQ.out.next h).cell 1 _ rfl, (XQ.out.next h).cell 2 _ rfl⟩ : _ ∧ _ ∧ _ ∧ _ ∧ _ ∧ _ ∧ _))
          refine wp_drawnL (by kernel_rfl) (by kernel_rfl) (by kernel_rfl) (by kernel_rfl) (fun w w' => Below w.heap.size w w') (fun j v w => match j with | 0 => v = .pointer (some ⟨w0.heap.size, 0, none⟩) | 1 => v = .int .i64 11 | 2 => v = .agg #[.int .i64 kp, .int .i64 pp, .slice Ap np cp] | 3 => v = .bool false | 4 => ∃ k p A n c, v = .agg #[.int .i64 k, .int .i64 p, .slice A n c] ∧ DIn US w (tree (plain (norm (t.kid 0)) false)) (c3 k p A n c) | 5 => v = .agg #[.int .i64 kq, .int .i64 pq, .slice Aq nq cq] | 6 => v = .bool false | 7 => ∃ k p A n c, v = .agg #[.int .i64 k, .int .i64 p, .slice A n c] ∧ DIn US w (tree (plain (norm (t.kid 1)) false)) (c3 k p A n c) | 8 => ∃ k p A n c, v = .agg #[.int .i64 k, .int .i64 p, .slice A n c] ∧ DIn US w (.mk 11 0 [tree (plain (norm (t.kid 0)) false), tree (plain (norm (t.kid 1)) false)]) (c3 k p A n c) | _ => True) (fun _ _ w => Below Wb.heap.size Wb w) ?_ (fun _ => bl_drewN Wb 1) ?_ ?_
          · intro j v w w' hT h
            match j, h with
            | 0, h => exact h
            | 1, h => exact h
            | 2, h => exact h
            | 3, h => exact h
            | 4, h => exact (by obtain ⟨k, p, A, n, c, e, h1⟩ := h; exact ⟨k, p, A, n, c, e, h1.keep (Keep.of_below hT)⟩)
            | 5, h => exact h
            | 6, h => exact h
            | 7, h => exact (by obtain ⟨k, p, A, n, c, e, h1⟩ := h; exact ⟨k, p, A, n, c, e, h1.keep (Keep.of_below hT)⟩)
            | 8, h => exact (by obtain ⟨k, p, A, n, c, e, h1⟩ := h; exact ⟨k, p, A, n, c, e, h1.keep (Keep.of_below hT)⟩)
            | j + 9, h => trivial
          · refine ⟨?_, ?_, ?_, ?_, ?_, ?_, ?_, ?_, ?_, trivial⟩
            · intro listed σ w a hin hout hl hla hs hc hp hG hF
              refine Guarded.none rfl ?_
              have e2 : a.tmps.getD 2 undef = .pointer (some ⟨w0.heap.size, 0, none⟩) := hout 2 (outB_spec (by kernel_rfl))
              refine Does.val (.pointer (some ⟨w0.heap.size, 0, none⟩)) (w' := w) ?_ ⟨Below.refl _ _, rfl, hG⟩
              simp only [Array.getD_eq_getD_getElem?] at e2
              go_simp
            · intro listed σ w a hin hout hl hla hs hc hp hG hF
              refine Guarded.none rfl ?_
              have e85 : a.tmps.getD 85 undef = .pointer (some ⟨w0.heap.size, 0, none⟩) := (hin 0 85 rfl (hp ⟨0, .data⟩ (by simp) rfl)).trans (hF 0 (hp ⟨0, .data⟩ (by simp) rfl))
              have CC := SOF.out w hG; obtain ⟨C0, C1, C2, C3, C4, C5, C6⟩ := CC
              refine Does.val (.int .i64 11) (w' := w) ?_ ⟨Below.refl _ _, rfl, hG⟩
              go_simp
            · intro listed σ w a hin hout hl hla hs hc hp hG hF
              refine Guarded.none rfl ?_
              have e5 : a.tmps.getD 5 undef = .pointer (some ⟨g1b, 0, none⟩) := hout 5 (outB_spec (by kernel_rfl))
              have CC := SOF.out w hG; obtain ⟨C0, C1, C2, C3, C4, C5, C6⟩ := CC
              refine Does.val (.agg #[.int .i64 kp, .int .i64 pp, .slice Ap np cp]) (w' := w) ?_ ⟨Below.refl _ _, rfl, hG⟩
              go_simp
            · intro listed σ w a hin hout hl hla hs hc hp hG hF
              refine Guarded.none rfl ?_
              have e1 : a.tmps.getD 1 undef = .bool false := hout 1 (outB_spec (by kernel_rfl))
              refine Does.val (.bool false) (w' := w) ?_ ⟨Below.refl _ _, rfl, hG⟩
              simp only [Array.getD_eq_getD_getElem?] at e1
              go_simp
            · intro listed σ w a hin hout hl hla hs hc hp hG hF
              refine Guarded.none rfl ?_
              have e87 : a.tmps.getD 87 undef = .agg #[.int .i64 kp, .int .i64 pp, .slice Ap np cp] := (hin 2 87 rfl (hp ⟨2, .data⟩ (by simp) rfl)).trans (hF 2 (hp ⟨2, .data⟩ (by simp) rfl))
              have e88 : a.tmps.getD 88 undef = .bool false := (hin 3 88 rfl (hp ⟨3, .data⟩ (by simp) rfl)).trans (hF 3 (hp ⟨3, .data⟩ (by simp) rfl))
              refine Does.call ?_ (HIH.out (t.kid 0) kp pp Ap np cp false w HM0.out (DP.out.keep (Keep.of_below hG)) (Nat.le_trans HZb.out hG.size)) ?_
              · go_simp
              · rintro e w' ⟨k, p, A, n, c, rfl, hd, hb⟩
                exact ⟨_, rfl, hb, ⟨k, p, A, n, c, rfl, hd⟩, hG.next hb⟩
            · intro listed σ w a hin hout hl hla hs hc hp hG hF
              refine Guarded.none rfl ?_
              have e6 : a.tmps.getD 6 undef = .pointer (some ⟨g2b, 0, none⟩) := hout 6 (outB_spec (by kernel_rfl))
              have CC := SOF.out w hG; obtain ⟨C0, C1, C2, C3, C4, C5, C6⟩ := CC
              refine Does.val (.agg #[.int .i64 kq, .int .i64 pq, .slice Aq nq cq]) (w' := w) ?_ ⟨Below.refl _ _, rfl, hG⟩
              go_simp
            · intro listed σ w a hin hout hl hla hs hc hp hG hF
              refine Guarded.none rfl ?_
              have e1 : a.tmps.getD 1 undef = .bool false := hout 1 (outB_spec (by kernel_rfl))
              refine Does.val (.bool false) (w' := w) ?_ ⟨Below.refl _ _, rfl, hG⟩
              simp only [Array.getD_eq_getD_getElem?] at e1
              go_simp
            · intro listed σ w a hin hout hl hla hs hc hp hG hF
              refine Guarded.none rfl ?_
              have e90 : a.tmps.getD 90 undef = .agg #[.int .i64 kq, .int .i64 pq, .slice Aq nq cq] := (hin 5 90 rfl (hp ⟨5, .data⟩ (by simp) rfl)).trans (hF 5 (hp ⟨5, .data⟩ (by simp) rfl))
              have e91 : a.tmps.getD 91 undef = .bool false := (hin 6 91 rfl (hp ⟨6, .data⟩ (by simp) rfl)).trans (hF 6 (hp ⟨6, .data⟩ (by simp) rfl))
              refine Does.call ?_ (HIH.out (t.kid 1) kq pq Aq nq cq false w HM1.out (DQ.out.keep (Keep.of_below hG)) (Nat.le_trans HZb.out hG.size)) ?_
              · go_simp
              · rintro e w' ⟨k, p, A, n, c, rfl, hd, hb⟩
                exact ⟨_, rfl, hb, ⟨k, p, A, n, c, rfl, hd⟩, hG.next hb⟩
            · intro listed σ w a hin hout hl hla hs hc hp hG hF
              refine Guarded.none rfl ?_
              have e86 : a.tmps.getD 86 undef = .int .i64 11 := (hin 1 86 rfl (hp ⟨1, .data⟩ (by simp) rfl)).trans (hF 1 (hp ⟨1, .data⟩ (by simp) rfl))
              have e89 := hin 4 89 rfl (hp ⟨4, .data⟩ (by simp) rfl)
              obtain ⟨km4, pm4, Am4, nm4, cm4, ev4, hd4⟩ := hF 4 (hp ⟨4, .data⟩ (by simp) rfl)
              rw [ev4] at e89
              have e92 := hin 7 92 rfl (hp ⟨7, .data⟩ (by simp) rfl)
              obtain ⟨km7, pm7, Am7, nm7, cm7, ev7, hd7⟩ := hF 7 (hp ⟨7, .data⟩ (by simp) rfl)
              rw [ev7] at e92
              refine Does.call ?_ (HTWO.out 11 _ _ km4 pm4 Am4 nm4 cm4 km7 pm7 Am7 nm7 cm7 w hd4 hd7 (Nat.le_trans HZb.out hG.size)) ?_
              · go_simp
              · rintro e w' ⟨k, p, A, n, c, rfl, hd, hb⟩
                exact ⟨_, rfl, hb, ⟨k, p, A, n, c, rfl, hd⟩, hG.next hb⟩
          · intro o ho
            injection ho with ho; subst ho
            intro listed σ w a hall hin hout hG hF
            refine Guarded.none rfl ?_
            have e4 : a.tmps.getD 4 undef = .pointer (some ⟨w0.heap.size + 1, 0, none⟩) := hout 4 (outL (by kernel_rfl))
            have e93 := hin 8 93 rfl (by decide)
            obtain ⟨km8, pm8, Am8, nm8, cm8, ev8, hd8⟩ := hF 8 (by decide)
            rw [ev8] at e93
            have hDD := HE.out ▸ hd8
            refine Does.store_box (T := 24) (cells := #[.int .i64 km8, .int .i64 pm8, .slice Am8 nm8 cm8]) rfl e4 e93 (X4.out.next hG) (by kernel_rfl) rfl (by simp [Value.oneCell']) (fun w2 x9 o9 => ?_)
            have HP := hide (HPO.out w2 _ _ _ _ _ (hDD.keep (Keep.of_only o9 HU1.out)) ((HBb.out.next hG).trans (o9.below (HBb.out.next hG).size (by omega))))
            rw [show fin _ σ undef _ = (Act.put (Act.put (Act.put (Act.put (Act.put (Act.put (Act.put (Act.put (Act.put (Act.put _ (some 85) (σ 0)) (some 86) (σ 1)) (some 87) (σ 2)) (some 88) (σ 3)) (some 89) (σ 4)) (some 90) (σ 5)) (some 91) (σ 6)) (some 92) (σ 7)) (some 93) (σ 8)) none undef) from (fin_all hall).trans rfl]
            simp only [Act.put, List.setIfInBounds_toArray, List.set_cons_zero, List.set_cons_succ]
            have X9 := hide x9
            generalize σ 0 = tt0 at *; generalize σ 1 = tt1 at *; generalize σ 2 = tt2 at *; generalize σ 3 = tt3 at *; generalize σ 4 = tt4 at *; generalize σ 5 = tt5 at *; generalize σ 6 = tt6 at *; generalize σ 7 = tt7 at *; generalize σ 8 = tt8 at *
            clear hF hG hall hin hout SOF o9 e4 e93 x9 hDD
            go_wp2_with fail
            exact bodyPost_lt rfl rfl X9.out rfl HP.out
        · have HE := hide (show (Wo.LT.mk 12 0 [tree (plain (norm (t.kid 0)) true), tree (plain (norm (t.kid 1)) true)] : Wo.LT) = tree (plain (norm t) true) from by rw [HN.out]; rfl)
          go_upto_region 21 with fail
          clear C0
          have SOF := hide (fun w (h : Below Wb.heap.size Wb w) => (⟨(X2.out.next h).cell 0 _ rfl, (XP.out.next h).cell 0 _ rfl, (XP.out.next h).cell 1 _ rfl, (XP.out.next h).cell 2 _ rfl, (XQ.out.next h).cell 0 _ rfl, (XQ.out.next h).cell 1 _ rfl, (XQ.out.next h).cell 2 _ rfl⟩ : _ ∧ _ ∧ _ ∧ _ ∧ _ ∧ _ ∧ _))
          refine wp_drawnL (by kernel_rfl) (by kernel_rfl) (by kernel_rfl) (by kernel_rfl) (fun w w' => Below w.heap.size w w') (fun j v w => match j with | 0 => v = .pointer (some ⟨w0.heap.size, 0, none⟩) | 1 => v = .int .i64 11 | 2 => v = .int .i64 12 | 3 => v = .agg #[.int .i64 kp, .int .i64 pp, .slice Ap np cp] | 4 => v = .bool true | 5 => ∃ k p A n c, v = .agg #[.int .i64 k, .int .i64 p, .slice A n c] ∧ DIn US w (tree (plain (norm (t.kid 0)) true)) (c3 k p A n c) | 6 => v = .agg #[.int .i64 kq, .int .i64 pq, .slice Aq nq cq] | 7 => v = .bool true | 8 => ∃ k p A n c, v = .agg #[.int .i64 k, .int .i64 p, .slice A n c] ∧ DIn US w (tree (plain (norm (t.kid 1)) true)) (c3 k p A n c) | 9 => ∃ k p A n c, v = .agg #[.int .i64 k, .int .i64 p, .slice A n c] ∧ DIn US w (.mk 12 0 [tree (plain (norm (t.kid 0)) true), tree (plain (norm (t.kid 1)) true)]) (c3 k p A n c) | _ => True) (fun _ _ w => Below Wb.heap.size Wb w) ?_ (fun _ => bl_drewN Wb 1) ?_ ?_
          · intro j v w w' hT h
            match j, h with
            | 0, h => exact h
            | 1, h => exact h
            | 2, h => exact h
            | 3, h => exact h
            | 4, h => exact h
            | 5, h => exact (by obtain ⟨k, p, A, n, c, e, h1⟩ := h; exact ⟨k, p, A, n, c, e, h1.keep (Keep.of_below hT)⟩)
            | 6, h => exact h
            | 7, h => exact h
            | 8, h => exact (by obtain ⟨k, p, A, n, c, e, h1⟩ := h; exact ⟨k, p, A, n, c, e, h1.keep (Keep.of_below hT)⟩)
            | 9, h => exact (by obtain ⟨k, p, A, n, c, e, h1⟩ := h; exact ⟨k, p, A, n, c, e, h1.keep (Keep.of_below hT)⟩)
            | j + 10, h => trivial
          · refine ⟨?_, ?_, ?_, ?_, ?_, ?_, ?_, ?_, ?_, ?_, trivial⟩
            · intro listed σ w a hin hout hl hla hs hc hp hG hF
              refine Guarded.none rfl ?_
              have e2 : a.tmps.getD 2 undef = .pointer (some ⟨w0.heap.size, 0, none⟩) := hout 2 (outB_spec (by kernel_rfl))
              refine Does.val (.pointer (some ⟨w0.heap.size, 0, none⟩)) (w' := w) ?_ ⟨Below.refl _ _, rfl, hG⟩
              simp only [Array.getD_eq_getD_getElem?] at e2
              go_simp
            · intro listed σ w a hin hout hl hla hs hc hp hG hF
              refine Guarded.none rfl ?_
              have e75 : a.tmps.getD 75 undef = .pointer (some ⟨w0.heap.size, 0, none⟩) := (hin 0 75 rfl (hp ⟨0, .data⟩ (by simp) rfl)).trans (hF 0 (hp ⟨0, .data⟩ (by simp) rfl))
              have CC := SOF.out w hG; obtain ⟨C0, C1, C2, C3, C4, C5, C6⟩ := CC
              refine Does.val (.int .i64 11) (w' := w) ?_ ⟨Below.refl _ _, rfl, hG⟩
              go_simp
            · intro listed σ w a hin hout hl hla hs hc hp hG hF
              refine Guarded.none rfl ?_
              have e76 : a.tmps.getD 76 undef = .int .i64 11 := (hin 1 76 rfl (hp ⟨1, .data⟩ (by simp) rfl)).trans (hF 1 (hp ⟨1, .data⟩ (by simp) rfl))
              refine Does.val (.int .i64 12) (w' := w) ?_ ⟨Below.refl _ _, rfl, hG⟩
              simp only [Array.getD_eq_getD_getElem?] at e76
              go_simp
              first | done | exact i64w (by omega) (by omega)
            · intro listed σ w a hin hout hl hla hs hc hp hG hF
              refine Guarded.none rfl ?_
              have e5 : a.tmps.getD 5 undef = .pointer (some ⟨g1b, 0, none⟩) := hout 5 (outB_spec (by kernel_rfl))
              have CC := SOF.out w hG; obtain ⟨C0, C1, C2, C3, C4, C5, C6⟩ := CC
              refine Does.val (.agg #[.int .i64 kp, .int .i64 pp, .slice Ap np cp]) (w' := w) ?_ ⟨Below.refl _ _, rfl, hG⟩
              go_simp
            · intro listed σ w a hin hout hl hla hs hc hp hG hF
              refine Guarded.none rfl ?_
              have e1 : a.tmps.getD 1 undef = .bool true := hout 1 (outB_spec (by kernel_rfl))
              refine Does.val (.bool true) (w' := w) ?_ ⟨Below.refl _ _, rfl, hG⟩
              simp only [Array.getD_eq_getD_getElem?] at e1
              go_simp
            · intro listed σ w a hin hout hl hla hs hc hp hG hF
              refine Guarded.none rfl ?_
              have e78 : a.tmps.getD 78 undef = .agg #[.int .i64 kp, .int .i64 pp, .slice Ap np cp] := (hin 3 78 rfl (hp ⟨3, .data⟩ (by simp) rfl)).trans (hF 3 (hp ⟨3, .data⟩ (by simp) rfl))
              have e79 : a.tmps.getD 79 undef = .bool true := (hin 4 79 rfl (hp ⟨4, .data⟩ (by simp) rfl)).trans (hF 4 (hp ⟨4, .data⟩ (by simp) rfl))
              refine Does.call ?_ (HIH.out (t.kid 0) kp pp Ap np cp true w HM0.out (DP.out.keep (Keep.of_below hG)) (Nat.le_trans HZb.out hG.size)) ?_
              · go_simp
              · rintro e w' ⟨k, p, A, n, c, rfl, hd, hb⟩
                exact ⟨_, rfl, hb, ⟨k, p, A, n, c, rfl, hd⟩, hG.next hb⟩
            · intro listed σ w a hin hout hl hla hs hc hp hG hF
              refine Guarded.none rfl ?_
              have e6 : a.tmps.getD 6 undef = .pointer (some ⟨g2b, 0, none⟩) := hout 6 (outB_spec (by kernel_rfl))
              have CC := SOF.out w hG; obtain ⟨C0, C1, C2, C3, C4, C5, C6⟩ := CC
              refine Does.val (.agg #[.int .i64 kq, .int .i64 pq, .slice Aq nq cq]) (w' := w) ?_ ⟨Below.refl _ _, rfl, hG⟩
              go_simp
            · intro listed σ w a hin hout hl hla hs hc hp hG hF
              refine Guarded.none rfl ?_
              have e1 : a.tmps.getD 1 undef = .bool true := hout 1 (outB_spec (by kernel_rfl))
              refine Does.val (.bool true) (w' := w) ?_ ⟨Below.refl _ _, rfl, hG⟩
              simp only [Array.getD_eq_getD_getElem?] at e1
              go_simp
            · intro listed σ w a hin hout hl hla hs hc hp hG hF
              refine Guarded.none rfl ?_
              have e81 : a.tmps.getD 81 undef = .agg #[.int .i64 kq, .int .i64 pq, .slice Aq nq cq] := (hin 6 81 rfl (hp ⟨6, .data⟩ (by simp) rfl)).trans (hF 6 (hp ⟨6, .data⟩ (by simp) rfl))
              have e82 : a.tmps.getD 82 undef = .bool true := (hin 7 82 rfl (hp ⟨7, .data⟩ (by simp) rfl)).trans (hF 7 (hp ⟨7, .data⟩ (by simp) rfl))
              refine Does.call ?_ (HIH.out (t.kid 1) kq pq Aq nq cq true w HM1.out (DQ.out.keep (Keep.of_below hG)) (Nat.le_trans HZb.out hG.size)) ?_
              · go_simp
              · rintro e w' ⟨k, p, A, n, c, rfl, hd, hb⟩
                exact ⟨_, rfl, hb, ⟨k, p, A, n, c, rfl, hd⟩, hG.next hb⟩
            · intro listed σ w a hin hout hl hla hs hc hp hG hF
              refine Guarded.none rfl ?_
              have e77 : a.tmps.getD 77 undef = .int .i64 12 := (hin 2 77 rfl (hp ⟨2, .data⟩ (by simp) rfl)).trans (hF 2 (hp ⟨2, .data⟩ (by simp) rfl))
              have e80 := hin 5 80 rfl (hp ⟨5, .data⟩ (by simp) rfl)
              obtain ⟨km5, pm5, Am5, nm5, cm5, ev5, hd5⟩ := hF 5 (hp ⟨5, .data⟩ (by simp) rfl)
              rw [ev5] at e80
              have e83 := hin 8 83 rfl (hp ⟨8, .data⟩ (by simp) rfl)
              obtain ⟨km8, pm8, Am8, nm8, cm8, ev8, hd8⟩ := hF 8 (hp ⟨8, .data⟩ (by simp) rfl)
              rw [ev8] at e83
              refine Does.call ?_ (HTWO.out 12 _ _ km5 pm5 Am5 nm5 cm5 km8 pm8 Am8 nm8 cm8 w hd5 hd8 (Nat.le_trans HZb.out hG.size)) ?_
              · go_simp
              · rintro e w' ⟨k, p, A, n, c, rfl, hd, hb⟩
                exact ⟨_, rfl, hb, ⟨k, p, A, n, c, rfl, hd⟩, hG.next hb⟩
          · intro o ho
            injection ho with ho; subst ho
            intro listed σ w a hall hin hout hG hF
            refine Guarded.none rfl ?_
            have e4 : a.tmps.getD 4 undef = .pointer (some ⟨w0.heap.size + 1, 0, none⟩) := hout 4 (outL (by kernel_rfl))
            have e84 := hin 9 84 rfl (by decide)
            obtain ⟨km9, pm9, Am9, nm9, cm9, ev9, hd9⟩ := hF 9 (by decide)
            rw [ev9] at e84
            have hDD := HE.out ▸ hd9
            refine Does.store_box (T := 24) (cells := #[.int .i64 km9, .int .i64 pm9, .slice Am9 nm9 cm9]) rfl e4 e84 (X4.out.next hG) (by kernel_rfl) rfl (by simp [Value.oneCell']) (fun w2 x9 o9 => ?_)
            have HP := hide (HPO.out w2 _ _ _ _ _ (hDD.keep (Keep.of_only o9 HU1.out)) ((HBb.out.next hG).trans (o9.below (HBb.out.next hG).size (by omega))))
            rw [show fin _ σ undef _ = (Act.put (Act.put (Act.put (Act.put (Act.put (Act.put (Act.put (Act.put (Act.put (Act.put (Act.put _ (some 75) (σ 0)) (some 76) (σ 1)) (some 77) (σ 2)) (some 78) (σ 3)) (some 79) (σ 4)) (some 80) (σ 5)) (some 81) (σ 6)) (some 82) (σ 7)) (some 83) (σ 8)) (some 84) (σ 9)) none undef) from (fin_all hall).trans rfl]
            simp only [Act.put, List.setIfInBounds_toArray, List.set_cons_zero, List.set_cons_succ]
            have X9 := hide x9
            generalize σ 0 = tt0 at *; generalize σ 1 = tt1 at *; generalize σ 2 = tt2 at *; generalize σ 3 = tt3 at *; generalize σ 4 = tt4 at *; generalize σ 5 = tt5 at *; generalize σ 6 = tt6 at *; generalize σ 7 = tt7 at *; generalize σ 8 = tt8 at *; generalize σ 9 = tt9 at *
            clear hF hG hall hin hout SOF o9 e4 e84 x9 hDD
            go_wp2_with fail
            exact bodyPost_lt rfl rfl X9.out rfl HP.out
      have g11 : (k == 11) = false := by simp; omega
      by_cases h12 : k = 12
      · subst h12
        have HN := hide (norm_k12 t HK.out)
        have HM0 := hide (show meas (norm (t.kid 0)) ≤ Z from by rw [HN.out] at hz; simp [meas] at hz; omega)
        have HM1 := hide (show meas (norm (t.kid 1)) ≤ Z from by rw [HN.out] at hz; simp [meas] at hz; omega)
        have C0 := X2.out.cell 0 _ rfl
        cases d
        · have HE := hide (show (Wo.LT.mk 12 0 [tree (plain (norm (t.kid 0)) false), tree (plain (norm (t.kid 1)) false)] : Wo.LT) = tree (plain (norm t) false) from by rw [HN.out]; rfl)
          go_upto_region 22 with fail
          clear C0
          have SOF := hide (fun w (h : Below Wb.heap.size Wb w) => (⟨(X2.out.next h).cell 0 _ rfl, (XP.out.next h).cell 0 _ rfl, (XP.out.next h).cell 1 _ rfl, (XP.out.next h).cell 2 _ rfl, (XQ.out.next h).cell 0 _ rfl, (XQ.out.next h).cell 1 _ rfl, (XQ.out.next h).cell 2 _ rfl⟩ : _ ∧ _ ∧ _ ∧ _ ∧ _ ∧ _ ∧ _))
          refine wp_drawnL (by kernel_rfl) (by kernel_rfl) (by kernel_rfl) (by kernel_rfl) (fun w w' => Below w.heap.size w w') (fun j v w => match j with | 0 => v = .pointer (some ⟨w0.heap.size, 0, none⟩) | 1 => v = .int .i64 12 | 2 => v = .agg #[.int .i64 kp, .int .i64 pp, .slice Ap np cp] | 3 => v = .bool false | 4 => ∃ k p A n c, v = .agg #[.int .i64 k, .int .i64 p, .slice A n c] ∧ DIn US w (tree (plain (norm (t.kid 0)) false)) (c3 k p A n c) | 5 => v = .agg #[.int .i64 kq, .int .i64 pq, .slice Aq nq cq] | 6 => v = .bool false | 7 => ∃ k p A n c, v = .agg #[.int .i64 k, .int .i64 p, .slice A n c] ∧ DIn US w (tree (plain (norm (t.kid 1)) false)) (c3 k p A n c) | 8 => ∃ k p A n c, v = .agg #[.int .i64 k, .int .i64 p, .slice A n c] ∧ DIn US w (.mk 12 0 [tree (plain (norm (t.kid 0)) false), tree (plain (norm (t.kid 1)) false)]) (c3 k p A n c) | _ => True) (fun _ _ w => Below Wb.heap.size Wb w) ?_ (fun _ => bl_drewN Wb 1) ?_ ?_
          · intro j v w w' hT h
            match j, h with
            | 0, h => exact h
            | 1, h => exact h
            | 2, h => exact h
            | 3, h => exact h
            | 4, h => exact (by obtain ⟨k, p, A, n, c, e, h1⟩ := h; exact ⟨k, p, A, n, c, e, h1.keep (Keep.of_below hT)⟩)
            | 5, h => exact h
            | 6, h => exact h
            | 7, h => exact (by obtain ⟨k, p, A, n, c, e, h1⟩ := h; exact ⟨k, p, A, n, c, e, h1.keep (Keep.of_below hT)⟩)
            | 8, h => exact (by obtain ⟨k, p, A, n, c, e, h1⟩ := h; exact ⟨k, p, A, n, c, e, h1.keep (Keep.of_below hT)⟩)
            | j + 9, h => trivial
          · refine ⟨?_, ?_, ?_, ?_, ?_, ?_, ?_, ?_, ?_, trivial⟩
            · intro listed σ w a hin hout hl hla hs hc hp hG hF
              refine Guarded.none rfl ?_
              have e2 : a.tmps.getD 2 undef = .pointer (some ⟨w0.heap.size, 0, none⟩) := hout 2 (outB_spec (by kernel_rfl))
              refine Does.val (.pointer (some ⟨w0.heap.size, 0, none⟩)) (w' := w) ?_ ⟨Below.refl _ _, rfl, hG⟩
              simp only [Array.getD_eq_getD_getElem?] at e2
              go_simp
            · intro listed σ w a hin hout hl hla hs hc hp hG hF
              refine Guarded.none rfl ?_
              have e85 : a.tmps.getD 85 undef = .pointer (some ⟨w0.heap.size, 0, none⟩) := (hin 0 85 rfl (hp ⟨0, .data⟩ (by simp) rfl)).trans (hF 0 (hp ⟨0, .data⟩ (by simp) rfl))
              have CC := SOF.out w hG; obtain ⟨C0, C1, C2, C3, C4, C5, C6⟩ := CC
              refine Does.val (.int .i64 12) (w' := w) ?_ ⟨Below.refl _ _, rfl, hG⟩
              go_simp
            · intro listed σ w a hin hout hl hla hs hc hp hG hF
              refine Guarded.none rfl ?_
              have e5 : a.tmps.getD 5 undef = .pointer (some ⟨g1b, 0, none⟩) := hout 5 (outB_spec (by kernel_rfl))
              have CC := SOF.out w hG; obtain ⟨C0, C1, C2, C3, C4, C5, C6⟩ := CC
              refine Does.val (.agg #[.int .i64 kp, .int .i64 pp, .slice Ap np cp]) (w' := w) ?_ ⟨Below.refl _ _, rfl, hG⟩
              go_simp
            · intro listed σ w a hin hout hl hla hs hc hp hG hF
              refine Guarded.none rfl ?_
              have e1 : a.tmps.getD 1 undef = .bool false := hout 1 (outB_spec (by kernel_rfl))
              refine Does.val (.bool false) (w' := w) ?_ ⟨Below.refl _ _, rfl, hG⟩
              simp only [Array.getD_eq_getD_getElem?] at e1
              go_simp
            · intro listed σ w a hin hout hl hla hs hc hp hG hF
              refine Guarded.none rfl ?_
              have e87 : a.tmps.getD 87 undef = .agg #[.int .i64 kp, .int .i64 pp, .slice Ap np cp] := (hin 2 87 rfl (hp ⟨2, .data⟩ (by simp) rfl)).trans (hF 2 (hp ⟨2, .data⟩ (by simp) rfl))
              have e88 : a.tmps.getD 88 undef = .bool false := (hin 3 88 rfl (hp ⟨3, .data⟩ (by simp) rfl)).trans (hF 3 (hp ⟨3, .data⟩ (by simp) rfl))
              refine Does.call ?_ (HIH.out (t.kid 0) kp pp Ap np cp false w HM0.out (DP.out.keep (Keep.of_below hG)) (Nat.le_trans HZb.out hG.size)) ?_
              · go_simp
              · rintro e w' ⟨k, p, A, n, c, rfl, hd, hb⟩
                exact ⟨_, rfl, hb, ⟨k, p, A, n, c, rfl, hd⟩, hG.next hb⟩
            · intro listed σ w a hin hout hl hla hs hc hp hG hF
              refine Guarded.none rfl ?_
              have e6 : a.tmps.getD 6 undef = .pointer (some ⟨g2b, 0, none⟩) := hout 6 (outB_spec (by kernel_rfl))
              have CC := SOF.out w hG; obtain ⟨C0, C1, C2, C3, C4, C5, C6⟩ := CC
              refine Does.val (.agg #[.int .i64 kq, .int .i64 pq, .slice Aq nq cq]) (w' := w) ?_ ⟨Below.refl _ _, rfl, hG⟩
              go_simp
            · intro listed σ w a hin hout hl hla hs hc hp hG hF
              refine Guarded.none rfl ?_
              have e1 : a.tmps.getD 1 undef = .bool false := hout 1 (outB_spec (by kernel_rfl))
              refine Does.val (.bool false) (w' := w) ?_ ⟨Below.refl _ _, rfl, hG⟩
              simp only [Array.getD_eq_getD_getElem?] at e1
              go_simp
            · intro listed σ w a hin hout hl hla hs hc hp hG hF
              refine Guarded.none rfl ?_
              have e90 : a.tmps.getD 90 undef = .agg #[.int .i64 kq, .int .i64 pq, .slice Aq nq cq] := (hin 5 90 rfl (hp ⟨5, .data⟩ (by simp) rfl)).trans (hF 5 (hp ⟨5, .data⟩ (by simp) rfl))
              have e91 : a.tmps.getD 91 undef = .bool false := (hin 6 91 rfl (hp ⟨6, .data⟩ (by simp) rfl)).trans (hF 6 (hp ⟨6, .data⟩ (by simp) rfl))
              refine Does.call ?_ (HIH.out (t.kid 1) kq pq Aq nq cq false w HM1.out (DQ.out.keep (Keep.of_below hG)) (Nat.le_trans HZb.out hG.size)) ?_
              · go_simp
              · rintro e w' ⟨k, p, A, n, c, rfl, hd, hb⟩
                exact ⟨_, rfl, hb, ⟨k, p, A, n, c, rfl, hd⟩, hG.next hb⟩
            · intro listed σ w a hin hout hl hla hs hc hp hG hF
              refine Guarded.none rfl ?_
              have e86 : a.tmps.getD 86 undef = .int .i64 12 := (hin 1 86 rfl (hp ⟨1, .data⟩ (by simp) rfl)).trans (hF 1 (hp ⟨1, .data⟩ (by simp) rfl))
              have e89 := hin 4 89 rfl (hp ⟨4, .data⟩ (by simp) rfl)
              obtain ⟨km4, pm4, Am4, nm4, cm4, ev4, hd4⟩ := hF 4 (hp ⟨4, .data⟩ (by simp) rfl)
              rw [ev4] at e89
              have e92 := hin 7 92 rfl (hp ⟨7, .data⟩ (by simp) rfl)
              obtain ⟨km7, pm7, Am7, nm7, cm7, ev7, hd7⟩ := hF 7 (hp ⟨7, .data⟩ (by simp) rfl)
              rw [ev7] at e92
              refine Does.call ?_ (HTWO.out 12 _ _ km4 pm4 Am4 nm4 cm4 km7 pm7 Am7 nm7 cm7 w hd4 hd7 (Nat.le_trans HZb.out hG.size)) ?_
              · go_simp
              · rintro e w' ⟨k, p, A, n, c, rfl, hd, hb⟩
                exact ⟨_, rfl, hb, ⟨k, p, A, n, c, rfl, hd⟩, hG.next hb⟩
          · intro o ho
            injection ho with ho; subst ho
            intro listed σ w a hall hin hout hG hF
            refine Guarded.none rfl ?_
            have e4 : a.tmps.getD 4 undef = .pointer (some ⟨w0.heap.size + 1, 0, none⟩) := hout 4 (outL (by kernel_rfl))
            have e93 := hin 8 93 rfl (by decide)
            obtain ⟨km8, pm8, Am8, nm8, cm8, ev8, hd8⟩ := hF 8 (by decide)
            rw [ev8] at e93
            have hDD := HE.out ▸ hd8
            refine Does.store_box (T := 24) (cells := #[.int .i64 km8, .int .i64 pm8, .slice Am8 nm8 cm8]) rfl e4 e93 (X4.out.next hG) (by kernel_rfl) rfl (by simp [Value.oneCell']) (fun w2 x9 o9 => ?_)
            have HP := hide (HPO.out w2 _ _ _ _ _ (hDD.keep (Keep.of_only o9 HU1.out)) ((HBb.out.next hG).trans (o9.below (HBb.out.next hG).size (by omega))))
            rw [show fin _ σ undef _ = (Act.put (Act.put (Act.put (Act.put (Act.put (Act.put (Act.put (Act.put (Act.put (Act.put _ (some 85) (σ 0)) (some 86) (σ 1)) (some 87) (σ 2)) (some 88) (σ 3)) (some 89) (σ 4)) (some 90) (σ 5)) (some 91) (σ 6)) (some 92) (σ 7)) (some 93) (σ 8)) none undef) from (fin_all hall).trans rfl]
            simp only [Act.put, List.setIfInBounds_toArray, List.set_cons_zero, List.set_cons_succ]
            have X9 := hide x9
            generalize σ 0 = tt0 at *; generalize σ 1 = tt1 at *; generalize σ 2 = tt2 at *; generalize σ 3 = tt3 at *; generalize σ 4 = tt4 at *; generalize σ 5 = tt5 at *; generalize σ 6 = tt6 at *; generalize σ 7 = tt7 at *; generalize σ 8 = tt8 at *
            clear hF hG hall hin hout SOF o9 e4 e93 x9 hDD
            go_wp2_with fail
            exact bodyPost_lt rfl rfl X9.out rfl HP.out
        · have HE := hide (show (Wo.LT.mk 11 0 [tree (plain (norm (t.kid 0)) true), tree (plain (norm (t.kid 1)) true)] : Wo.LT) = tree (plain (norm t) true) from by rw [HN.out]; rfl)
          go_upto_region 21 with fail
          clear C0
          have SOF := hide (fun w (h : Below Wb.heap.size Wb w) => (⟨(X2.out.next h).cell 0 _ rfl, (XP.out.next h).cell 0 _ rfl, (XP.out.next h).cell 1 _ rfl, (XP.out.next h).cell 2 _ rfl, (XQ.out.next h).cell 0 _ rfl, (XQ.out.next h).cell 1 _ rfl, (XQ.out.next h).cell 2 _ rfl⟩ : _ ∧ _ ∧ _ ∧ _ ∧ _ ∧ _ ∧ _))
          refine wp_drawnL (by kernel_rfl) (by kernel_rfl) (by kernel_rfl) (by kernel_rfl) (fun w w' => Below w.heap.size w w') (fun j v w => match j with | 0 => v = .pointer (some ⟨w0.heap.size, 0, none⟩) | 1 => v = .int .i64 12 | 2 => v = .int .i64 11 | 3 => v = .agg #[.int .i64 kp, .int .i64 pp, .slice Ap np cp] | 4 => v = .bool true | 5 => ∃ k p A n c, v = .agg #[.int .i64 k, .int .i64 p, .slice A n c] ∧ DIn US w (tree (plain (norm (t.kid 0)) true)) (c3 k p A n c) | 6 => v = .agg #[.int .i64 kq, .int .i64 pq, .slice Aq nq cq] | 7 => v = .bool true | 8 => ∃ k p A n c, v = .agg #[.int .i64 k, .int .i64 p, .slice A n c] ∧ DIn US w (tree (plain (norm (t.kid 1)) true)) (c3 k p A n c) | 9 => ∃ k p A n c, v = .agg #[.int .i64 k, .int .i64 p, .slice A n c] ∧ DIn US w (.mk 11 0 [tree (plain (norm (t.kid 0)) true), tree (plain (norm (t.kid 1)) true)]) (c3 k p A n c) | _ => True) (fun _ _ w => Below Wb.heap.size Wb w) ?_ (fun _ => bl_drewN Wb 1) ?_ ?_
          · intro j v w w' hT h
            match j, h with
            | 0, h => exact h
            | 1, h => exact h
            | 2, h => exact h
            | 3, h => exact h
            | 4, h => exact h
            | 5, h => exact (by obtain ⟨k, p, A, n, c, e, h1⟩ := h; exact ⟨k, p, A, n, c, e, h1.keep (Keep.of_below hT)⟩)
            | 6, h => exact h
            | 7, h => exact h
            | 8, h => exact (by obtain ⟨k, p, A, n, c, e, h1⟩ := h; exact ⟨k, p, A, n, c, e, h1.keep (Keep.of_below hT)⟩)
            | 9, h => exact (by obtain ⟨k, p, A, n, c, e, h1⟩ := h; exact ⟨k, p, A, n, c, e, h1.keep (Keep.of_below hT)⟩)
            | j + 10, h => trivial
          · refine ⟨?_, ?_, ?_, ?_, ?_, ?_, ?_, ?_, ?_, ?_, trivial⟩
            · intro listed σ w a hin hout hl hla hs hc hp hG hF
              refine Guarded.none rfl ?_
              have e2 : a.tmps.getD 2 undef = .pointer (some ⟨w0.heap.size, 0, none⟩) := hout 2 (outB_spec (by kernel_rfl))
              refine Does.val (.pointer (some ⟨w0.heap.size, 0, none⟩)) (w' := w) ?_ ⟨Below.refl _ _, rfl, hG⟩
              simp only [Array.getD_eq_getD_getElem?] at e2
              go_simp
            · intro listed σ w a hin hout hl hla hs hc hp hG hF
              refine Guarded.none rfl ?_
              have e75 : a.tmps.getD 75 undef = .pointer (some ⟨w0.heap.size, 0, none⟩) := (hin 0 75 rfl (hp ⟨0, .data⟩ (by simp) rfl)).trans (hF 0 (hp ⟨0, .data⟩ (by simp) rfl))
              have CC := SOF.out w hG; obtain ⟨C0, C1, C2, C3, C4, C5, C6⟩ := CC
              refine Does.val (.int .i64 12) (w' := w) ?_ ⟨Below.refl _ _, rfl, hG⟩
              go_simp
            · intro listed σ w a hin hout hl hla hs hc hp hG hF
              refine Guarded.none rfl ?_
              have e76 : a.tmps.getD 76 undef = .int .i64 12 := (hin 1 76 rfl (hp ⟨1, .data⟩ (by simp) rfl)).trans (hF 1 (hp ⟨1, .data⟩ (by simp) rfl))
              refine Does.val (.int .i64 11) (w' := w) ?_ ⟨Below.refl _ _, rfl, hG⟩
              simp only [Array.getD_eq_getD_getElem?] at e76
              go_simp
              first | done | exact i64w (by omega) (by omega)
            · intro listed σ w a hin hout hl hla hs hc hp hG hF
              refine Guarded.none rfl ?_
              have e5 : a.tmps.getD 5 undef = .pointer (some ⟨g1b, 0, none⟩) := hout 5 (outB_spec (by kernel_rfl))
              have CC := SOF.out w hG; obtain ⟨C0, C1, C2, C3, C4, C5, C6⟩ := CC
              refine Does.val (.agg #[.int .i64 kp, .int .i64 pp, .slice Ap np cp]) (w' := w) ?_ ⟨Below.refl _ _, rfl, hG⟩
              go_simp
            · intro listed σ w a hin hout hl hla hs hc hp hG hF
              refine Guarded.none rfl ?_
              have e1 : a.tmps.getD 1 undef = .bool true := hout 1 (outB_spec (by kernel_rfl))
              refine Does.val (.bool true) (w' := w) ?_ ⟨Below.refl _ _, rfl, hG⟩
              simp only [Array.getD_eq_getD_getElem?] at e1
              go_simp
            · intro listed σ w a hin hout hl hla hs hc hp hG hF
              refine Guarded.none rfl ?_
              have e78 : a.tmps.getD 78 undef = .agg #[.int .i64 kp, .int .i64 pp, .slice Ap np cp] := (hin 3 78 rfl (hp ⟨3, .data⟩ (by simp) rfl)).trans (hF 3 (hp ⟨3, .data⟩ (by simp) rfl))
              have e79 : a.tmps.getD 79 undef = .bool true := (hin 4 79 rfl (hp ⟨4, .data⟩ (by simp) rfl)).trans (hF 4 (hp ⟨4, .data⟩ (by simp) rfl))
              refine Does.call ?_ (HIH.out (t.kid 0) kp pp Ap np cp true w HM0.out (DP.out.keep (Keep.of_below hG)) (Nat.le_trans HZb.out hG.size)) ?_
              · go_simp
              · rintro e w' ⟨k, p, A, n, c, rfl, hd, hb⟩
                exact ⟨_, rfl, hb, ⟨k, p, A, n, c, rfl, hd⟩, hG.next hb⟩
            · intro listed σ w a hin hout hl hla hs hc hp hG hF
              refine Guarded.none rfl ?_
              have e6 : a.tmps.getD 6 undef = .pointer (some ⟨g2b, 0, none⟩) := hout 6 (outB_spec (by kernel_rfl))
              have CC := SOF.out w hG; obtain ⟨C0, C1, C2, C3, C4, C5, C6⟩ := CC
              refine Does.val (.agg #[.int .i64 kq, .int .i64 pq, .slice Aq nq cq]) (w' := w) ?_ ⟨Below.refl _ _, rfl, hG⟩
              go_simp
            · intro listed σ w a hin hout hl hla hs hc hp hG hF
              refine Guarded.none rfl ?_
              have e1 : a.tmps.getD 1 undef = .bool true := hout 1 (outB_spec (by kernel_rfl))
              refine Does.val (.bool true) (w' := w) ?_ ⟨Below.refl _ _, rfl, hG⟩
              simp only [Array.getD_eq_getD_getElem?] at e1
              go_simp
            · intro listed σ w a hin hout hl hla hs hc hp hG hF
              refine Guarded.none rfl ?_
              have e81 : a.tmps.getD 81 undef = .agg #[.int .i64 kq, .int .i64 pq, .slice Aq nq cq] := (hin 6 81 rfl (hp ⟨6, .data⟩ (by simp) rfl)).trans (hF 6 (hp ⟨6, .data⟩ (by simp) rfl))
              have e82 : a.tmps.getD 82 undef = .bool true := (hin 7 82 rfl (hp ⟨7, .data⟩ (by simp) rfl)).trans (hF 7 (hp ⟨7, .data⟩ (by simp) rfl))
              refine Does.call ?_ (HIH.out (t.kid 1) kq pq Aq nq cq true w HM1.out (DQ.out.keep (Keep.of_below hG)) (Nat.le_trans HZb.out hG.size)) ?_
              · go_simp
              · rintro e w' ⟨k, p, A, n, c, rfl, hd, hb⟩
                exact ⟨_, rfl, hb, ⟨k, p, A, n, c, rfl, hd⟩, hG.next hb⟩
            · intro listed σ w a hin hout hl hla hs hc hp hG hF
              refine Guarded.none rfl ?_
              have e77 : a.tmps.getD 77 undef = .int .i64 11 := (hin 2 77 rfl (hp ⟨2, .data⟩ (by simp) rfl)).trans (hF 2 (hp ⟨2, .data⟩ (by simp) rfl))
              have e80 := hin 5 80 rfl (hp ⟨5, .data⟩ (by simp) rfl)
              obtain ⟨km5, pm5, Am5, nm5, cm5, ev5, hd5⟩ := hF 5 (hp ⟨5, .data⟩ (by simp) rfl)
              rw [ev5] at e80
              have e83 := hin 8 83 rfl (hp ⟨8, .data⟩ (by simp) rfl)
              obtain ⟨km8, pm8, Am8, nm8, cm8, ev8, hd8⟩ := hF 8 (hp ⟨8, .data⟩ (by simp) rfl)
              rw [ev8] at e83
              refine Does.call ?_ (HTWO.out 11 _ _ km5 pm5 Am5 nm5 cm5 km8 pm8 Am8 nm8 cm8 w hd5 hd8 (Nat.le_trans HZb.out hG.size)) ?_
              · go_simp
              · rintro e w' ⟨k, p, A, n, c, rfl, hd, hb⟩
                exact ⟨_, rfl, hb, ⟨k, p, A, n, c, rfl, hd⟩, hG.next hb⟩
          · intro o ho
            injection ho with ho; subst ho
            intro listed σ w a hall hin hout hG hF
            refine Guarded.none rfl ?_
            have e4 : a.tmps.getD 4 undef = .pointer (some ⟨w0.heap.size + 1, 0, none⟩) := hout 4 (outL (by kernel_rfl))
            have e84 := hin 9 84 rfl (by decide)
            obtain ⟨km9, pm9, Am9, nm9, cm9, ev9, hd9⟩ := hF 9 (by decide)
            rw [ev9] at e84
            have hDD := HE.out ▸ hd9
            refine Does.store_box (T := 24) (cells := #[.int .i64 km9, .int .i64 pm9, .slice Am9 nm9 cm9]) rfl e4 e84 (X4.out.next hG) (by kernel_rfl) rfl (by simp [Value.oneCell']) (fun w2 x9 o9 => ?_)
            have HP := hide (HPO.out w2 _ _ _ _ _ (hDD.keep (Keep.of_only o9 HU1.out)) ((HBb.out.next hG).trans (o9.below (HBb.out.next hG).size (by omega))))
            rw [show fin _ σ undef _ = (Act.put (Act.put (Act.put (Act.put (Act.put (Act.put (Act.put (Act.put (Act.put (Act.put (Act.put _ (some 75) (σ 0)) (some 76) (σ 1)) (some 77) (σ 2)) (some 78) (σ 3)) (some 79) (σ 4)) (some 80) (σ 5)) (some 81) (σ 6)) (some 82) (σ 7)) (some 83) (σ 8)) (some 84) (σ 9)) none undef) from (fin_all hall).trans rfl]
            simp only [Act.put, List.setIfInBounds_toArray, List.set_cons_zero, List.set_cons_succ]
            have X9 := hide x9
            generalize σ 0 = tt0 at *; generalize σ 1 = tt1 at *; generalize σ 2 = tt2 at *; generalize σ 3 = tt3 at *; generalize σ 4 = tt4 at *; generalize σ 5 = tt5 at *; generalize σ 6 = tt6 at *; generalize σ 7 = tt7 at *; generalize σ 8 = tt8 at *; generalize σ 9 = tt9 at *
            clear hF hG hall hin hout SOF o9 e4 e84 x9 hDD
            go_wp2_with fail
            exact bodyPost_lt rfl rfl X9.out rfl HP.out
      have g12 : (k == 12) = false := by simp; omega
      by_cases h2 : k = 2
      · subst h2
        have HN := hide (norm_k2 t HK.out)
        have C0 := X2.out.cell 0 _ rfl
        have C1 := X2.out.cell 1 _ rfl
        cases d
        · have HL := hide (show DIn US Wb (tree (plain (norm t) false)) (c3 2 p none 0 0) from by rw [HN.out, ← HPE.out]; exact DIn.leaf _ _ _ _)
          have x4 := X4.out
          go_wp2_with (with_reducible refine wpList_store_box rfl 24 _ _ rfl (w0.heap.size + 1) #[.int .i64 2, .int .i64 p, .slice none 0 0] rfl rfl _ x4 (by kernel_rfl) rfl (by simp [Value.oneCell']) ?_; intro w9 k9 ho9)
          refine bodyPost_lt rfl rfl k9 rfl ?_
          exact HPO.out _ _ _ _ _ _ ((HL.out).keep (Keep.of_only ho9 HU1.out)) (HBb.out.trans (ho9.below HBb.out.size (by omega)))
        · go_wp2_with fail
          refine (HNOT.out (.mk 2 p []) 2 p none 0 0 _ (DIn.leaf _ _ _ _) HZb.out).mono ?_
          rintro e wa ⟨k5, p5, A5, n5, c5, rfl, hd5, b5⟩
          have HBc := hide (HBb.out.next b5)
          have X4c := hide (X4.out.next b5)
          have HD5 := hide (show DIn US wa (tree (plain (norm t) true)) (c3 k5 p5 A5 n5 c5) from by rw [HN.out, ← HPE.out]; exact hd5)
          clear hd5 b5 C0 C1
          have x4 := X4c.out
          go_wp2_with (with_reducible refine wpList_store_box rfl 24 _ _ rfl (w0.heap.size + 1) #[.int .i64 k5, .int .i64 p5, .slice A5 n5 c5] rfl rfl _ x4 (by kernel_rfl) rfl (by simp [Value.oneCell']) ?_; intro w9 k9 ho9)
          refine bodyPost_lt rfl rfl k9 rfl ?_
          exact HPO.out _ _ _ _ _ _ ((HD5.out).keep (Keep.of_only ho9 HU1.out)) (HBc.out.trans (ho9.below HBc.out.size (by omega)))
      have g2 : (k == 2) = false := by simp; omega
      by_cases h0 : k = 0
      · subst h0
        have HN := hide (norm_k0 t HK.out)
        have C0 := X2.out.cell 0 _ rfl
        have C1 := X2.out.cell 1 _ rfl
        cases d
        · have HL := hide (show DIn US Wb (tree (plain (norm t) false)) (c3 0 0 none 0 0) from by rw [HN.out]; exact DIn.leaf _ _ _ _)
          have x4 := X4.out
          go_wp2_with (with_reducible refine wpList_store_box rfl 24 _ _ rfl (w0.heap.size + 1) #[.int .i64 0, .int .i64 0, .slice none 0 0] rfl rfl _ x4 (by kernel_rfl) rfl (by simp [Value.oneCell']) ?_; intro w9 k9 ho9)
          refine bodyPost_lt rfl rfl k9 rfl ?_
          exact HPO.out _ _ _ _ _ _ ((HL.out).keep (Keep.of_only ho9 HU1.out)) (HBb.out.trans (ho9.below HBb.out.size (by omega)))
        · have HL := hide (show DIn US Wb (tree (plain (norm t) true)) (c3 1 0 none 0 0) from by rw [HN.out]; exact DIn.leaf _ _ _ _)
          have x4 := X4.out
          go_wp2_with (with_reducible refine wpList_store_box rfl 24 _ _ rfl (w0.heap.size + 1) #[.int .i64 1, .int .i64 0, .slice none 0 0] rfl rfl _ x4 (by kernel_rfl) rfl (by simp [Value.oneCell']) ?_; intro w9 k9 ho9)
          refine bodyPost_lt rfl rfl k9 rfl ?_
          exact HPO.out _ _ _ _ _ _ ((HL.out).keep (Keep.of_only ho9 HU1.out)) (HBb.out.trans (ho9.below HBb.out.size (by omega)))
      have g0 : (k == 0) = false := by simp; omega
      have HN := hide (norm_other t (by have := HK.out; omega) (by have := HK.out; omega) (by rw [HK.out]; exact arity_none h3 h8 h9 h10 h4 h5 h7 h11 h12))
      have C0 := X2.out.cell 0 _ rfl
      have C1 := X2.out.cell 1 _ rfl
      cases d
      · have HL := hide (show DIn US Wb (tree (plain (norm t) false)) (c3 1 0 none 0 0) from by rw [HN.out]; exact DIn.leaf _ _ _ _)
        have x4 := X4.out
        go_wp2_with (with_reducible refine wpList_store_box rfl 24 _ _ rfl (w0.heap.size + 1) #[.int .i64 1, .int .i64 0, .slice none 0 0] rfl rfl _ x4 (by kernel_rfl) rfl (by simp [Value.oneCell']) ?_; intro w9 k9 ho9)
        refine bodyPost_lt rfl rfl k9 rfl ?_
        exact HPO.out _ _ _ _ _ _ ((HL.out).keep (Keep.of_only ho9 HU1.out)) (HBb.out.trans (ho9.below HBb.out.size (by omega)))
      · have HL := hide (show DIn US Wb (tree (plain (norm t) true)) (c3 0 0 none 0 0) from by rw [HN.out]; exact DIn.leaf _ _ _ _)
        have x4 := X4.out
        go_wp2_with (with_reducible refine wpList_store_box rfl 24 _ _ rfl (w0.heap.size + 1) #[.int .i64 0, .int .i64 0, .slice none 0 0] rfl rfl _ x4 (by kernel_rfl) rfl (by simp [Value.oneCell']) ?_; intro w9 k9 ho9)
        refine bodyPost_lt rfl rfl k9 rfl ?_
        exact HPO.out _ _ _ _ _ _ ((HL.out).keep (Keep.of_only ho9 HU1.out)) (HBb.out.trans (ho9.below HBb.out.size (by omega)))
end Go.Proofs.Ytljocjjdfgpbaaa
