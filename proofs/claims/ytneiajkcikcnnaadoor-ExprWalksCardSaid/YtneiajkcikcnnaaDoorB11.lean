/- Texts of one seat, put together: ExprC4 ExprC5 ExprR ExprB. -/
import Derived.Test.YtneiajkcikcnnaaDoorB10
import Derived.Test.YtneiajkcikcnnaaDoorB06
set_option linter.unusedVariables false
/- slices.Index, slices.Contains of texts; a cursor's seesName, name. -/
namespace Go.Proofs.YtneiajkcikcnnaaDoor
open Go.RowKit
open Lx Ex

/-- The first place of a text, counted from k on. -/
def idxS : List ByteArray → ByteArray → Nat → Int
  | [], _, _ => -1
  | x :: xs, s, k => if x = s then k else idxS xs s (k + 1)
theorem idxS_step (xs : List ByteArray) (s x : ByteArray) (k : Nat) (h : xs[k]? = some x) : idxS (xs.drop k) s k = if x = s then (k : Int) else idxS (xs.drop (k + 1)) s (k + 1) := by
  have hl : k < xs.length := by
    rcases Nat.lt_or_ge k xs.length with h2 | h2
    · exact h2
    · rw [List.getElem?_eq_none h2] at h; cases h
  rw [List.getElem?_eq_getElem hl] at h
  injection h with h
  rw [List.drop_eq_getElem_cons hl, h, idxS]
theorem idxS_end (xs : List ByteArray) (s : ByteArray) (k : Nat) (h : xs.length ≤ k) : idxS (xs.drop k) s k = -1 := by
  rw [List.drop_eq_nil_of_le h, idxS]
theorem idxS_in (xs : List ByteArray) (s : ByteArray) : ∀ k : Nat, (memS s xs = true → (k : Int) ≤ idxS xs s k) ∧ (memS s xs = false → idxS xs s k = -1) ∧ idxS xs s k ≤ (k : Int) + (xs.length : Int) := by
  induction xs with
  | nil => intro k; simp [idxS, memS]
  | cons x xs ih =>
    intro k
    rw [idxS]
    have h2 := ih (k + 1)
    by_cases h : x = s
    · rw [if_pos h]
      refine ⟨fun _ => Int.le_refl _, fun hc => ?_, by simp only [List.length_cons]; omega⟩
      subst h
      simp [memS] at hc
    · rw [if_neg h]
      have hc : memS s (x :: xs) = memS s xs := by
        unfold memS
        rw [List.any_cons, decide_eq_false h, Bool.false_or]
      rw [hc]
      refine ⟨fun q => ?_, h2.2.1, ?_⟩
      · have := h2.1 q; omega
      · have := h2.2.2; simp only [List.length_cons]; omega
set_option maxRecDepth 100000 in
set_option maxHeartbeats 4000000 in
theorem index_any (A : Option Addr) (n c : Nat) (xs : List ByteArray) (s : ByteArray) (w : World) (h : SIn w A n xs) (hn : n ≤ 9223372036854775807) : Calls Tryd.prog 59 #[.slice A n c, .string s] w (fun e w' => e = .returned (.int .i64 (idxS xs s 0)) ∧ w = w') := by
  have HS := hide h
  have H0 := hide (show idxS xs s 0 = idxS (xs.drop 0) s 0 from rfl)
  generalize idxS xs s 0 = r at *
  have hl := h.1
  clear h
  go_enter Tryd.func59, Tryd.ntmps59
  go_wp2_with fail
  go_loop [5, 8] (fun _ i => ∃ k : Nat, k ≤ n ∧ i = .int .i64 k ∧ Hid (r = idxS (xs.drop k) s k)) (fun _ i => n - (intOf i).toNat)
  case atStart => exact ⟨0, Nat.zero_le _, rfl, H0⟩
  case round =>
    obtain ⟨k, hk, rfl, HK⟩ := hrel
    by_cases hlt : k < n
    · obtain ⟨b, o, x, rfl, hb, hx, hc⟩ := HS.out.at_ hlt
      have HX := hide (HK.out.trans (idxS_step xs s x k hx))
      clear hx
      by_cases he : x = s
      · subst he
        have hr := HX.out.trans (if_pos rfl)
        subst hr
        clear HK HX H0
        go_wp2_with fail
        go_ret
        exact ⟨rfl, rfl⟩
      · have h1 := toList_ne (fun e => he e.symm)
        have HY := hide (HX.out.trans (if_neg he))
        clear HX HK he
        go_wp2_with fail
        go_round
        case rel => exact ⟨k + 1, by omega, by go_num, HY⟩
        case measure => simp [intOf]; omega
    · have hr := HK.out.trans (idxS_end xs s k (by omega))
      subst hr
      clear HK H0
      go_wp2_with fail
      go_ret
      exact ⟨rfl, rfl⟩
set_option maxHeartbeats 2000000 in
theorem contains_any (A : Option Addr) (n c : Nat) (xs : List ByteArray) (s : ByteArray) (w : World) (h : SIn w A n xs) (hn : n ≤ 9223372036854775807) : Calls Tryd.prog 53 #[.slice A n c, .string s] w (fun e w' => e = .returned (.bool (memS s xs)) ∧ w = w') := by
  have hi := index_any A n c xs s w h hn
  have h1 := idxS_in xs s 0
  have HB := hide (show ∀ b, memS s xs = b → (fun e w' => e = Ending.returned (.bool b) ∧ w = w') = (fun e w' => e = Ending.returned (.bool (memS s xs)) ∧ w = w') from fun b hb => by rw [hb])
  generalize idxS xs s 0 = r at *
  clear h
  cases hc : memS s xs with
  | true =>
    have h2 := h1.1 hc
    have g : decide (r ≥ 0) = true := by simp; omega
    clear h1 hc HB
    go_enter Tryd.func53, Tryd.ntmps53
    go_wp2_with fail
    refine hi.mono ?_
    rintro e w1 ⟨rfl, rfl⟩
    go_wp2_with fail
    go_ret
    exact ⟨rfl, rfl⟩
  | false =>
    have h2 := h1.2.1 hc
    subst h2
    clear h1 hc HB
    go_enter Tryd.func53, Tryd.ntmps53
    go_wp2_with fail
    refine hi.mono ?_
    rintro e w1 ⟨rfl, rfl⟩
    go_wp2_with fail
    go_ret
    exact ⟨rfl, rfl⟩
end Go.Proofs.YtneiajkcikcnnaaDoor
/- A cursor's seesName, name. -/
namespace Go.Proofs.YtneiajkcikcnnaaDoor
open Go.RowKit
open Lx Ex

set_option maxRecDepth 100000 in
set_option maxHeartbeats 4000000 in
theorem seesName_any (D : CD) (g i : Nat) (w : World) (h : Cur D g w i) : Calls Tryd.prog 43 #[.pointer (some ⟨g, 0, none⟩)] w (BoolW (isName (pt (hd D.ts i))) w) := by
  have ha := at_any D g i w h
  have hz := h.good.hd_small i
  have HI := hide (show isName (pt (hd D.ts i)) = ((hd D.ts i).kind == 1 && rnameB (hd D.ts i).text) from rfl)
  generalize isName (pt (hd D.ts i)) = r at *
  generalize hd D.ts i = t at *
  obtain ⟨k, tx, l, c⟩ := t
  unfold AtPost at ha
  dsimp only at ha HI hz
  by_cases h1 : k = 1
  · subst h1
    have hn := fun W => name_any tx W hz
    rw [name_eq] at hn
    have hr : r = rnameB tx := by rw [HI.out]; simp
    rw [← hr] at hn
    have HN := hide hn
    clear HI hr hn h
    go_enter Tryd.func43, Tryd.ntmps43
    go_wp2_with fail
    refine ha.mono ?_
    rintro e w1 ⟨rfl, b1⟩
    go_wp2_with fail
    refine (HN.out _).mono ?_
    rintro e w2 ⟨rfl, b2⟩
    go_wp2_with fail
    go_ret
    exact ⟨rfl, (b1.next (bl_alloc _ _)).next b2⟩
  · have g1 : ((k : Int) == 1) = false := by simp; omega
    obtain rfl : r = false := by rw [HI.out]; simp; omega
    clear HI h h1
    go_enter Tryd.func43, Tryd.ntmps43
    go_wp2_with fail
    refine ha.mono ?_
    rintro e w1 ⟨rfl, b1⟩
    go_wp2_with fail
    go_ret
    exact ⟨rfl, b1.next (bl_alloc _ _)⟩
theorem field_text (a c d : Value) (s : ByteArray) (w : World) : (Instr.field 60 (.agg #[a, .string s, c, d]) 1).run Tryd.prog w = .ok (.string s) w := by
  kernel_rfl
/-- What name answers: the error's number, the name, where it stands behind. -/
def nmC (D : CD) (i : Nat) : Nat := if isName (pt (hd D.ts i)) = true then (if D.kn (hd D.ts i).text = true then 0 else 110) else 101
def nmS (D : CD) (i : Nat) : ByteArray := if nmC D i = 0 then (hd D.ts i).text else ⟨#[]⟩
def nmI (D : CD) (i : Nat) : Nat := if nmC D i = 0 then i + 1 else i
def NamePost (D : CD) (g i : Nat) (w : World) (e : Ending) (w' : World) : Prop :=
  e = .returned (.tuple #[.string (nmS D i), .int .i64 (nmC D i : Nat)]) ∧ Went D g (nmI D i) w w'
theorem name_kind {D : CD} {i : Nat} (h : isName (pt (hd D.ts i)) = true) : (hd D.ts i).kind ≠ 5 := by
  unfold isName pt at h
  intro e
  rw [e] at h
  simp at h
set_option maxRecDepth 100000 in
set_option maxHeartbeats 4000000 in
theorem cname_any (D : CD) (g i : Nat) (w : World) (h : Cur D g w i) : Calls Tryd.prog 44 #[.pointer (some ⟨g, 0, none⟩)] w (NamePost D g i w) := by
  have ha := at_any D g i w h
  unfold AtPost at ha
  have HC := hide h
  have HN := hide (fun W (hW : Below w.heap.size w W) => seesName_any D g i W (h.below hW))
  unfold BoolW at HN
  have HFD := fun a c d s W => field_text a c d s W
  have HP := hide (show ∀ c s i' w', nmC D i = c → nmS D i = s → nmI D i = i' → Went D g i' w w' → NamePost D g i w (.returned (.tuple #[.string s, .int .i64 (c : Nat)])) w' from fun c s i' w' h1 h2 h3 h4 => by
    subst h1 h2 h3; exact ⟨rfl, h4⟩)
  have hd2 := h.good.md
  have hd3 := h.good.dm
  cases hn : isName (pt (hd D.ts i)) with
  | false =>
    have e1 : nmC D i = 101 := by unfold nmC; rw [hn]; rfl
    have HP := hide (HP.out 101 _ _ · e1 (if_neg (by omega)) (if_neg (by omega)))
    rw [hn] at HN
    clear h hn e1
    go_enter Tryd.func44, Tryd.ntmps44
    go_wp2_with fail
    refine ha.mono ?_
    rintro e w1 ⟨rfl, b1⟩
    go_wp2_with fail
    refine (HN.out _ b1).mono ?_
    rintro e w2 ⟨rfl, b2⟩
    have HQ := hide (HP.out _ (.of_below HC.out (b1.next b2)))
    clear b1 b2
    go_wp2_with fail
    go_ret2
    exact HQ.out
  | true =>
    rw [hn] at HN
    have HST := hide (rd_step h.good.ends (name_kind hn))
    have HSK := hide (fun W (hW : Below w.heap.size w W) => skip_any D g i W (h.below hW))
    have HFT := hide h.fits
    cases hk : D.known with
    | false =>
      have e1 : nmC D i = 0 := by unfold nmC CD.kn; rw [hn, hk]; rfl
      have HP := hide (HP.out 0 _ _ · e1 (if_pos e1) (if_pos e1))
      have hcell := fun W (hW : Below w.heap.size w W) => ((h.below hW).c3.trans (by rw [hk]) : W.cell? ⟨g, 3, none⟩ = some (.bool false))
      have HCC := hide hcell
      clear h hn e1 hk hcell
      go_enter Tryd.func44, Tryd.ntmps44
      go_wp2_with fail
      refine ha.mono ?_
      rintro e w1 ⟨rfl, b1⟩
      go_wp2_with fail
      refine (HN.out _ b1).mono ?_
      rintro e w2 ⟨rfl, b2⟩
      have C3 := HCC.out _ (b1.next b2)
      go_wp2_with fail
      refine (HSK.out _ (b1.next b2)).mono ?_
      rintro e w3 ⟨rfl, o3, k3⟩
      have HQ := hide (HP.out w3 ⟨(only_of_below (b1.next b2)).trans o3, k3 D (HC.out.below (b1.next b2)) (by have := HST.out; have := HFT.out; omega)⟩)
      clear o3 k3 b1 b2 C3
      go_wp2_with fail
      go_ret2
      exact HQ.out
    | true =>
      have HCO := hide (fun W (hW : Below w.heap.size w W) => contains_any D.V D.m D.d D.vars (hd D.ts i).text W (h.sin.below hW) (by omega))
      have hcell := fun W (hW : Below w.heap.size w W) => (⟨(h.below hW).c3.trans (by rw [hk]), (h.below hW).c2⟩ : W.cell? ⟨g, 3, none⟩ = some (.bool true) ∧ W.cell? ⟨g, 2, none⟩ = some (.slice D.V D.m D.d))
      have HCC := hide hcell
      cases hm : memS (hd D.ts i).text D.vars with
      | true =>
        have e1 : nmC D i = 0 := by unfold nmC CD.kn; rw [hn, hk, hm]; rfl
        have HP := hide (HP.out 0 _ _ · e1 (if_pos e1) (if_pos e1))
        rw [hm] at HCO
        clear h hn e1 hk hcell hm
        go_enter Tryd.func44, Tryd.ntmps44
        go_wp2_with fail
        refine ha.mono ?_
        rintro e w1 ⟨rfl, b1⟩
        go_wp2_with fail
        refine (HN.out _ b1).mono ?_
        rintro e w2 ⟨rfl, b2⟩
        have CC := HCC.out _ (b1.next b2)
        obtain ⟨C3, C2⟩ := CC
        go_wp2_with fail
        refine (HCO.out _ (b1.next b2)).mono ?_
        rintro e w3 ⟨rfl, rfl⟩
        go_wp2_with fail
        refine (HSK.out _ (b1.next b2)).mono ?_
        rintro e w3 ⟨rfl, o3, k3⟩
        have HQ := hide (HP.out w3 ⟨(only_of_below (b1.next b2)).trans o3, k3 D (HC.out.below (b1.next b2)) (by have := HST.out; have := HFT.out; omega)⟩)
        clear o3 k3 b1 b2 C3 C2
        go_wp2_with fail
        go_ret2
        exact HQ.out
      | false =>
        have e1 : nmC D i = 110 := by unfold nmC CD.kn; rw [hn, hk, hm]; rfl
        have HP := hide (HP.out 110 _ _ · e1 (if_neg (by omega)) (if_neg (by omega)))
        rw [hm] at HCO
        clear h hn e1 hk hcell hm
        go_enter Tryd.func44, Tryd.ntmps44
        go_wp2_with fail
        refine ha.mono ?_
        rintro e w1 ⟨rfl, b1⟩
        go_wp2_with fail
        refine (HN.out _ b1).mono ?_
        rintro e w2 ⟨rfl, b2⟩
        have CC := HCC.out _ (b1.next b2)
        obtain ⟨C3, C2⟩ := CC
        go_wp2_with fail
        refine (HCO.out _ (b1.next b2)).mono ?_
        rintro e w3 ⟨rfl, rfl⟩
        have HQ := hide (HP.out _ (.of_below HC.out (b1.next b2)))
        clear b1 b2 C3 C2
        go_wp2_with fail
        go_ret2
        exact HQ.out
end Go.Proofs.YtneiajkcikcnnaaDoor
/- A right tree's tokens are parsed as that tree. -/
namespace Go.Proofs.YtneiajkcikcnnaaDoor.Ex

def eS : ByteArray := ⟨#[]⟩
def okMn (m : Mn) : Prop := ¬ (m.num = eS ∧ m.var = eS) ∧ (m.num = eS ∨ rnumB m.num = true) ∧ (m.var = eS ∨ rnameB m.var = true)
def okSum (l : List Mn) : Prop := 1 ≤ l.length ∧ l.length ≤ 64 ∧ ∀ m ∈ l, okMn m
def isBoth : Tr → Bool
  | .both _ _ => true
  | _ => false
def isAny : Tr → Bool
  | .any _ _ => true
  | _ => false
/-- Right, with so many levels left. -/
def right : Nat → Tr → Prop
  | _, .leaf _ => True
  | _, .cmp l op r => okSum l ∧ op < 6 ∧ okSum r
  | lv, .deny t => if isBoth t || isAny t then 2 ≤ lv ∧ right (lv - 2) t else 1 ≤ lv ∧ right (lv - 1) t
  | lv, .both a b => (if isAny a then 1 ≤ lv ∧ right (lv - 1) a else right lv a) ∧ if isBoth b || isAny b then 1 ≤ lv ∧ right (lv - 1) b else right lv b
  | lv, .any a b => right lv a ∧ if isAny b then 1 ≤ lv ∧ right (lv - 1) b else right lv b
def knSum (kn : ByteArray → Bool) (l : List Mn) : Prop := ∀ m ∈ l, m.var ≠ eS → kn m.var = true
def knows (kn : ByteArray → Bool) : Tr → Prop
  | .leaf _ => True
  | .cmp l _ r => knSum kn l ∧ knSum kn r
  | .deny t => knows kn t
  | .both a b => knows kn a ∧ knows kn b
  | .any a b => knows kn a ∧ knows kn b
def sg (c : UInt8) : PT := (2, ⟨#[c]⟩)
def mnT (m : Mn) : List PT := if m.num = eS then [(1, m.var)] else if m.var = eS then [(3, m.num)] else [(3, m.num), sg 42, (1, m.var)]
def restT (l : List Mn) : List PT := (l.map fun m => sg (if m.neg then 45 else 43) :: mnT m).flatten
def sumT : List Mn → List PT
  | [] => []
  | m :: l => (if m.neg then [sg 45] else []) ++ (mnT m ++ restT l)
def par (c : Bool) (l : List PT) : List PT := if c then sg 40 :: (l ++ [sg 41]) else l
def pr : Tr → List PT
  | .leaf true => [(1, ⟨#[116, 114, 117, 101]⟩)]
  | .leaf false => [(1, ⟨#[102, 97, 108, 115, 101]⟩)]
  | .cmp l op r => sumT l ++ (2, opT op) :: sumT r
  | .deny t => sg 33 :: par (isBoth t || isAny t) (pr t)
  | .both a b => par (isAny a) (pr a) ++ sg 38 :: par (isBoth b || isAny b) (pr b)
  | .any a b => pr a ++ sg 124 :: par (isAny b) (pr b)
theorem num_ne {s : ByteArray} (h : rnumB s = true) (x : ByteArray) (hx : rnumB x = false) : decide (s = x) = false :=
  decide_eq_false (fun e => by rw [e, hx] at h; cases h)
theorem name_ne {s : ByteArray} (h : rnameB s = true) (x : ByteArray) (hx : rnameB x = false) : decide (s = x) = false :=
  decide_eq_false (fun e => by rw [e, hx] at h; cases h)
theorem isT_num (x s : ByteArray) (r : List PT) : isT x ((3, s) :: r) = false := by simp [isT]
theorem isT_name {s : ByteArray} (h : rnameB s = true) (x : ByteArray) (hx : rnameB x = false) (r : List PT) : isT x ((1, s) :: r) = false := by
  simp only [isT, name_ne h x hx, Bool.false_and]
theorem isT_sg (c : UInt8) (r : List PT) : isT ⟨#[c]⟩ (sg c :: r) = true := by simp [isT, sg]
theorem isT_sgn (c : UInt8) (x : ByteArray) (hx : x ≠ ⟨#[c]⟩) (r : List PT) : isT x (sg c :: r) = false := by
  cases hd : isT x (sg c :: r) with
  | false => rfl
  | true =>
    have h1 : decide ((sg c).2 = x) = true := by
      have h2 : (decide ((sg c).2 = x) && ((sg c).1 == 1 || (sg c).1 == 2 || (sg c).1 == 4)) = true := hd
      rw [Bool.and_eq_true] at h2
      exact h2.1
    exact absurd (of_decide_eq_true h1).symm hx
theorem mnT_len (m : Mn) : 1 ≤ (mnT m).length := by
  unfold mnT
  split
  · exact Nat.le_refl _
  · split <;> simp
theorem mono_back (kn : ByteArray → Bool) (neg : Bool) (m : Mn) (r : List PT) (hm : okMn m) (hk : m.var ≠ eS → kn m.var = true) (hr : isT ⟨#[42]⟩ r = false) : monoP kn false neg (mnT m ++ r) = .ok ⟨m.num, m.var, neg⟩ r := by
  obtain ⟨h1, h2, h3⟩ := hm
  unfold mnT
  by_cases hn : m.num = eS
  · have hv : m.var ≠ eS := fun e => h1 ⟨hn, e⟩
    have hv2 := h3.resolve_left hv
    rw [if_pos hn]
    show monoP kn false neg ((1, m.var) :: r) = _
    rw [monoP]
    have e1 : isName (1, m.var) = true := by simp only [isName]; rw [hv2]; rfl
    simp only [e1, hk hv, if_true, Bool.false_eq_true, if_false, show ((1 : Nat) == 3) = false from rfl]
    rw [hn]; rfl
  · rw [if_neg hn]
    by_cases hv : m.var = eS
    · rw [if_pos hv]
      show monoP kn false neg ((3, m.num) :: r) = _
      rw [monoP]
      simp only [show ((3 : Nat) == 3) = true from rfl, if_true, Bool.false_eq_true, if_false, hr]
      rw [hv]; rfl
    · have hv2 := h3.resolve_left hv
      rw [if_neg hv]
      show monoP kn false neg ((3, m.num) :: sg 42 :: (1, m.var) :: r) = _
      rw [monoP]
      have e1 : isName (1, m.var) = true := by simp only [isName]; rw [hv2]; rfl
      simp only [show ((3 : Nat) == 3) = true from rfl, if_true, Bool.false_eq_true, if_false, isT_sg, List.tail_cons, e1, hk hv]
/-- What may stand behind a sum. -/
def StopS (r : List PT) : Prop := isT ⟨#[45]⟩ r = false ∧ isT ⟨#[43]⟩ r = false ∧ isT ⟨#[42]⟩ r = false
theorem stopS_sg (c : UInt8) (h1 : (⟨#[45]⟩ : ByteArray) ≠ ⟨#[c]⟩) (h2 : (⟨#[43]⟩ : ByteArray) ≠ ⟨#[c]⟩) (h3 : (⟨#[42]⟩ : ByteArray) ≠ ⟨#[c]⟩) (r : List PT) : StopS (sg c :: r) := ⟨isT_sgn c _ h1 r, isT_sgn c _ h2 r, isT_sgn c _ h3 r⟩
theorem rest_len (l : List Mn) : l.length ≤ (restT l).length := by
  induction l with
  | nil => exact Nat.le_refl _
  | cons m l ih =>
    have e : restT (m :: l) = sg (if m.neg then 45 else 43) :: (mnT m ++ restT l) := by simp [restT]
    rw [e, List.length_cons, List.length_cons, List.length_append]
    omega
theorem rest_head (l : List Mn) (r : List PT) (hr : StopS r) : isT ⟨#[42]⟩ (restT l ++ r) = false := by
  cases l with
  | nil => exact hr.2.2
  | cons m l =>
    have e : restT (m :: l) ++ r = sg (if m.neg then 45 else 43) :: (mnT m ++ restT l ++ r) := by simp [restT]
    rw [e]
    cases m.neg
    · exact isT_sgn 43 _ (by decide) _
    · exact isT_sgn 45 _ (by decide) _
theorem sumGo_back (kn : ByteArray → Bool) (l : List Mn) : ∀ (n : Nat) (m : Mn) (acc : List Mn) (r : List PT), l.length < n → acc.length + 1 + l.length ≤ 64 → okMn m → (∀ x ∈ l, okMn x) → (m.var ≠ eS → kn m.var = true) → knSum kn l → StopS r →
    sumGo kn n m.neg acc (mnT m ++ (restT l ++ r)) = .ok (acc ++ m :: l) r := by
  induction l with
  | nil =>
    intro n m acc r hn hc hm _ hk _ hr
    obtain ⟨n, rfl⟩ : ∃ k, n = k + 1 := ⟨n - 1, by simp at hn; omega⟩
    have hf : (acc.length == 64) = false := by rw [beq_eq_false_iff_ne]; simp at hc; omega
    rw [sumGo, hf]
    show (match monoP kn false m.neg (mnT m ++ r) with | .fuel => Out.fuel | .err c r1 => Out.err c r1 | .ok x r1 => if isT ⟨#[45]⟩ r1 then sumGo kn n true (acc ++ [x]) r1.tail else if isT ⟨#[43]⟩ r1 then sumGo kn n false (acc ++ [x]) r1.tail else .ok (acc ++ [x]) r1) = _
    rw [mono_back kn m.neg m r hm hk hr.2.2]
    dsimp only
    rw [if_neg (by rw [hr.1]; decide), if_neg (by rw [hr.2.1]; decide)]
  | cons y l ih =>
    intro n m acc r hn hc hm hl hk hkl hr
    obtain ⟨n, rfl⟩ : ∃ k, n = k + 1 := ⟨n - 1, by omega⟩
    simp only [List.length_cons] at hn hc
    have hf : (acc.length == 64) = false := by rw [beq_eq_false_iff_ne]; omega
    rw [sumGo, hf, mono_back kn m.neg m _ hm hk (rest_head (y :: l) r hr)]
    have e : restT (y :: l) ++ r = sg (if y.neg then 45 else 43) :: (mnT y ++ (restT l ++ r)) := by simp [restT]
    have hx : (⟨m.num, m.var, m.neg⟩ : Mn) = m := rfl
    have hi := ih n y (acc ++ [m]) r (by omega) (by rw [List.length_append, List.length_cons, List.length_nil]; omega) (hl y (List.mem_cons_self ..)) (fun x hx => hl x (List.mem_cons_of_mem _ hx)) (hkl y (List.mem_cons_self ..)) (fun x hx => hkl x (List.mem_cons_of_mem _ hx)) hr
    dsimp only
    rw [e, hx]
    cases hy : y.neg with
    | true =>
      rw [hy] at hi
      rw [if_pos rfl, if_pos (isT_sg 45 _), List.tail_cons, hi, List.append_assoc]; rfl
    | false =>
      rw [hy] at hi
      simp only [Bool.false_eq_true, if_false]
      rw [if_neg (by rw [isT_sgn 43 _ (by decide)]; decide), if_pos (isT_sg 43 _), List.tail_cons, hi, List.append_assoc]; rfl
theorem mnT_first (m : Mn) (hm : okMn m) (x : ByteArray) (hx : rnameB x = false) (r : List PT) : isT x (mnT m ++ r) = false := by
  obtain ⟨h1, h2, h3⟩ := hm
  unfold mnT
  by_cases hn : m.num = eS
  · have hv : m.var ≠ eS := fun e => h1 ⟨hn, e⟩
    rw [if_pos hn]
    exact isT_name (h3.resolve_left hv) x hx r
  · rw [if_neg hn]
    split <;> exact isT_num x _ _
theorem sum_back (kn : ByteArray → Bool) (l : List Mn) (r : List PT) (hl : okSum l) (hk : knSum kn l) (hr : StopS r) : sumP kn (sumT l ++ r) = .ok l r := by
  obtain ⟨h1, h2, h3⟩ := hl
  cases l with
  | nil => simp at h1
  | cons m l =>
    simp only [List.length_cons] at h2
    have hm := h3 m (List.mem_cons_self ..)
    have hlr := rest_len l
    have hml := mnT_len m
    have hgo := fun n hn => sumGo_back kn l n m [] r hn (by simp; omega) hm (fun x hx => h3 x (List.mem_cons_of_mem _ hx)) (hk m (List.mem_cons_self ..)) (fun x hx => hk x (List.mem_cons_of_mem _ hx)) hr
    unfold sumP
    cases hng : m.neg with
    | true =>
      have e : sumT (m :: l) ++ r = sg 45 :: (mnT m ++ (restT l ++ r)) := by simp [sumT, hng]
      rw [e, if_pos (isT_sg 45 _), List.tail_cons]
      have := hgo ((sg 45 :: (mnT m ++ (restT l ++ r))).length + 1) (by simp only [List.length_cons, List.length_append]; omega)
      rw [hng] at this
      exact this
    | false =>
      have e : sumT (m :: l) ++ r = mnT m ++ (restT l ++ r) := by simp [sumT, hng]
      rw [e, if_neg (by rw [mnT_first m hm ⟨#[45]⟩ (by decide +kernel)]; decide)]
      have := hgo ((mnT m ++ (restT l ++ r)).length + 1) (by simp only [List.length_append]; omega)
      rw [hng] at this
      exact this
theorem sumT_first (l : List Mn) (hl : okSum l) (x : ByteArray) (hx : rnameB x = false) (h45 : x ≠ ⟨#[45]⟩) (r : List PT) : isT x (sumT l ++ r) = false := by
  obtain ⟨h1, h2, h3⟩ := hl
  cases l with
  | nil => simp at h1
  | cons m l =>
    have hm := h3 m (List.mem_cons_self ..)
    cases hng : m.neg with
    | true =>
      have e : sumT (m :: l) ++ r = sg 45 :: (mnT m ++ (restT l ++ r)) := by simp [sumT, hng]
      rw [e]; exact isT_sgn 45 x h45 _
    | false =>
      have e : sumT (m :: l) ++ r = mnT m ++ (restT l ++ r) := by simp [sumT, hng]
      rw [e]; exact mnT_first m hm x hx _
end Go.Proofs.YtneiajkcikcnnaaDoor.Ex
/- A right tree's tokens are parsed as that tree (2). -/
namespace Go.Proofs.YtneiajkcikcnnaaDoor.Ex

theorem opT_head (i : Nat) (x : ByteArray) (r : List PT) : isT x ((2, opT i) :: r) = decide (opT i = x) := by
  simp [isT]
theorem opP_back (op : Nat) (h : op < 6) (r : List PT) : opP ((2, opT op) :: r) = some op := by
  unfold opP
  rw [show (fun i => isT (opT i) ((2, opT op) :: r)) = fun i => decide (opT op = opT i) from funext fun i => opT_head op (opT i) r]
  have h6 : op = 0 ∨ op = 1 ∨ op = 2 ∨ op = 3 ∨ op = 4 ∨ op = 5 := by omega
  rcases h6 with rfl | rfl | rfl | rfl | rfl | rfl <;> decide +kernel
theorem stopS_op (op : Nat) (h : op < 6) (r : List PT) : StopS ((2, opT op) :: r) := by
  unfold StopS
  rw [opT_head, opT_head, opT_head]
  have h6 : op = 0 ∨ op = 1 ∨ op = 2 ∨ op = 3 ∨ op = 4 ∨ op = 5 := by omega
  rcases h6 with rfl | rfl | rfl | rfl | rfl | rfl <;> exact ⟨by decide +kernel, by decide +kernel, by decide +kernel⟩
theorem cmp_back (kn : ByteArray → Bool) (l : List Mn) (op : Nat) (x : List Mn) (r : List PT) (hl : okSum l) (ho : op < 6) (hx : okSum x) (kl : knSum kn l) (kx : knSum kn x) (hr : StopS r) : cmpP kn (sumT l ++ (2, opT op) :: (sumT x ++ r)) = .ok (.cmp l op x) r := by
  unfold cmpP
  rw [sum_back kn l _ hl kl (stopS_op op ho _)]
  dsimp only
  rw [opP_back op ho]
  dsimp only
  rw [List.tail_cons, sum_back kn x r hx kx hr]
theorem word_sg (s : ByteArray) (c : UInt8) (hs : s ≠ ⟨#[c]⟩) (r : List PT) : isT ⟨#[c]⟩ ((1, s) :: r) = false := by
  cases hd : isT ⟨#[c]⟩ ((1, s) :: r) with
  | false => rfl
  | true =>
    have h2 : (decide (s = ⟨#[c]⟩) && ((1 : Nat) == 1 || (1 : Nat) == 2 || (1 : Nat) == 4)) = true := hd
    rw [Bool.and_eq_true] at h2
    exact absurd (of_decide_eq_true h2.1) hs
theorem word_is (s : ByteArray) (r : List PT) : isT s ((1, s) :: r) = true := by simp [isT]
theorem one_paren (kn : ByteArray → Bool) (lv : Nat) (l r : List PT) (t : Tr) (hlv : 1 ≤ lv) (h : parsF kn .cond (lv - 1) (l ++ sg 41 :: r) = .ok t (sg 41 :: r)) : parsF kn .one lv (par true l ++ r) = .ok t r := by
  have e : par true l ++ r = sg 40 :: (l ++ sg 41 :: r) := by simp [par]
  rw [e, parsF_one, if_neg (fun hh => by omega), if_neg (by rw [isT_sgn 40 _ (by decide)]; decide), if_pos (isT_sg 40 _), List.tail_cons, h]
  show (if isT ⟨#[41]⟩ (sg 41 :: r) = true then Out.ok t (sg 41 :: r).tail else .err 101 (sg 41 :: r)) = _
  rw [if_pos (isT_sg 41 r), List.tail_cons]
theorem cond_stop (kn : ByteArray → Bool) (lv : Nat) (t : Tr) (r : List PT) (h : isT ⟨#[124]⟩ r = false) : parsF kn (.condGo t) lv r = .ok t r := by
  rw [parsF_condGo, if_neg (by rw [h]; decide)]
theorem both_stop (kn : ByteArray → Bool) (lv : Nat) (t : Tr) (r : List PT) (h : isT ⟨#[38]⟩ r = false) : parsF kn (.bothGo t) lv r = .ok t r := by
  rw [parsF_bothGo, if_neg (by rw [h]; decide)]
/-- What is said of a tree t at level lv. -/
structure Back (kn : ByteArray → Bool) (t : Tr) (lv : Nat) : Prop where
  one : isBoth t = false → isAny t = false → ∀ r, StopS r → parsF kn .one lv (pr t ++ r) = .ok t r
  both : isAny t = false → ∀ r, StopS r → parsF kn .both lv (pr t ++ r) = parsF kn (.bothGo t) lv r
  cond : ∀ r, StopS r → isT ⟨#[38]⟩ r = false → parsF kn .cond lv (pr t ++ r) = parsF kn (.condGo t) lv r
theorem Back.paren {kn : ByteArray → Bool} {t : Tr} {lv : Nat} (h : Back kn t (lv - 1)) (hlv : 1 ≤ lv) (r : List PT) : parsF kn .one lv (par true (pr t) ++ r) = .ok t r :=
  one_paren kn lv (pr t) r t hlv (by
    rw [h.cond (sg 41 :: r) (stopS_sg 41 (by decide) (by decide) (by decide) r) (isT_sgn 41 _ (by decide) r)]
    exact cond_stop kn _ t _ (isT_sgn 41 _ (by decide) r))
theorem Back.of_one {kn : ByteArray → Bool} {t : Tr} {lv : Nat} (h : ∀ r, StopS r → parsF kn .one lv (pr t ++ r) = .ok t r) (hb : isBoth t = false) (ha : isAny t = false) : Back kn t lv := by
  have hboth : ∀ r, StopS r → parsF kn .both lv (pr t ++ r) = parsF kn (.bothGo t) lv r := fun r hr => by
    rw [parsF_both, h r hr]; rfl
  refine ⟨fun _ _ => h, fun _ => hboth, fun r hr h38 => ?_⟩
  rw [parsF_cond, hboth r hr, both_stop kn lv t r h38]; rfl
theorem Back.of_both {kn : ByteArray → Bool} {t : Tr} {lv : Nat} (h : ∀ r, StopS r → parsF kn .both lv (pr t ++ r) = parsF kn (.bothGo t) lv r) (hb : isBoth t = true) : Back kn t lv := by
  refine ⟨(fun e => by rw [hb] at e; cases e), fun _ => h, fun r hr h38 => ?_⟩
  rw [parsF_cond, h r hr, both_stop kn lv t r h38]; rfl
/-- A kid that stands behind a sign: in brackets, or not. -/
theorem kid_one {kn : ByteArray → Bool} {t : Tr} {lv : Nat} (h0 : (isBoth t || isAny t) = true → 1 ≤ lv ∧ Back kn t (lv - 1)) (h1 : (isBoth t || isAny t) = false → Back kn t lv) (r : List PT) (hr : StopS r) : parsF kn .one lv (par (isBoth t || isAny t) (pr t) ++ r) = .ok t r := by
  cases hc : isBoth t || isAny t with
  | true => exact (h0 hc).2.paren (h0 hc).1 r
  | false =>
    have hh := Bool.or_eq_false_iff.1 hc
    exact (h1 hc).one hh.1 hh.2 r hr
theorem back (kn : ByteArray → Bool) (t : Tr) : ∀ lv, right lv t → knows kn t → Back kn t lv := by
  induction t with
  | leaf b =>
    intro lv _ _
    refine Back.of_one (fun r hr => ?_) rfl rfl
    cases b with
    | true =>
      show parsF kn .one lv ((1, ⟨#[116, 114, 117, 101]⟩) :: r) = _
      rw [parsF_one, if_neg (fun hh => by rw [word_sg _ _ (by decide), word_sg _ _ (by decide)] at hh; rcases hh.2 with h | h <;> cases h), if_neg (by rw [word_sg _ _ (by decide)]; decide), if_neg (by rw [word_sg _ _ (by decide)]; decide), if_pos (word_is _ _)]
      rfl
    | false =>
      show parsF kn .one lv ((1, ⟨#[102, 97, 108, 115, 101]⟩) :: r) = _
      rw [parsF_one, if_neg (fun hh => by rw [word_sg _ _ (by decide), word_sg _ _ (by decide)] at hh; rcases hh.2 with h | h <;> cases h), if_neg (by rw [word_sg _ _ (by decide)]; decide), if_neg (by rw [word_sg _ _ (by decide)]; decide), if_neg (by simp [isT]), if_pos (word_is _ _)]
      rfl
  | cmp l op x =>
    intro lv hr hk
    obtain ⟨h1, h2, h3⟩ := hr
    obtain ⟨k1, k2⟩ := hk
    refine Back.of_one (fun r hs => ?_) rfl rfl
    have e : pr (.cmp l op x) ++ r = sumT l ++ (2, opT op) :: (sumT x ++ r) := by simp [pr]
    have f := fun (y : ByteArray) (hy : rnameB y = false) (h45 : y ≠ ⟨#[45]⟩) => sumT_first l h1 y hy h45 ((2, opT op) :: (sumT x ++ r))
    rw [e, parsF_one, f ⟨#[33]⟩ (by decide +kernel) (by decide), f ⟨#[40]⟩ (by decide +kernel) (by decide), f ⟨#[116, 114, 117, 101]⟩ (by decide +kernel) (by decide), f ⟨#[102, 97, 108, 115, 101]⟩ (by decide +kernel) (by decide),
      if_neg (fun hh => by rcases hh.2 with h | h <;> cases h), if_neg (by decide), if_neg (by decide), if_neg (by decide), if_neg (by decide)]
    exact cmp_back kn l op x r h1 h2 h3 k1 k2 hs
  | deny t ih =>
    intro lv hr hk
    refine Back.of_one (fun r hs => ?_) rfl rfl
    have e : pr (.deny t) ++ r = sg 33 :: (par (isBoth t || isAny t) (pr t) ++ r) := by simp [pr]
    unfold right at hr
    have hlv : 1 ≤ lv := by
      split at hr
      · have := hr.1; omega
      · exact hr.1
    have hkid : parsF kn .one (lv - 1) (par (isBoth t || isAny t) (pr t) ++ r) = .ok t r := by
      refine kid_one (fun hc => ?_) (fun hc => ?_) r hs
      · rw [if_pos hc] at hr
        exact ⟨by have := hr.1; omega, ih _ (by rw [show lv - 1 - 1 = lv - 2 by omega]; exact hr.2) hk⟩
      · rw [if_neg (by rw [hc]; decide)] at hr
        exact ih _ hr.2 hk
    rw [e, parsF_one, if_neg (fun hh => by omega), if_pos (isT_sg 33 _), List.tail_cons, hkid]
    rfl
  | both a b iha ihb =>
    intro lv hr hk
    obtain ⟨ha, hb⟩ := hr
    obtain ⟨ka, kb⟩ := hk
    refine Back.of_both (fun r hs => ?_) rfl
    have e : pr (.both a b) ++ r = par (isAny a) (pr a) ++ (sg 38 :: (par (isBoth b || isAny b) (pr b) ++ r)) := by simp [pr]
    have hst : StopS (sg 38 :: (par (isBoth b || isAny b) (pr b) ++ r)) := stopS_sg 38 (by decide) (by decide) (by decide) _
    have hkb : parsF kn .one lv (par (isBoth b || isAny b) (pr b) ++ r) = .ok b r := by
      refine kid_one (fun hc => ?_) (fun hc => ?_) r hs
      · rw [if_pos hc] at hb
        exact ⟨hb.1, ihb _ hb.2 kb⟩
      · rw [if_neg (by rw [hc]; decide)] at hb
        exact ihb _ hb kb
    have hgo : parsF kn (.bothGo a) lv (sg 38 :: (par (isBoth b || isAny b) (pr b) ++ r)) = parsF kn (.bothGo (.both a b)) lv r := by
      rw [parsF_bothGo, if_pos (isT_sg 38 _), List.tail_cons, hkb]; rfl
    rw [e]
    cases hany : isAny a with
    | true =>
      rw [hany, if_pos rfl] at ha
      rw [parsF_both, (iha _ ha.2 ka).paren ha.1]
      exact hgo
    | false =>
      rw [hany, if_neg (by decide)] at ha
      show parsF kn .both lv (pr a ++ _) = _
      rw [(iha _ ha ka).both hany _ hst, hgo]
  | any a b iha ihb =>
    intro lv hr hk
    obtain ⟨ha, hb⟩ := hr
    obtain ⟨ka, kb⟩ := hk
    refine ⟨(fun _ e => by cases e), (fun e => by cases e), fun r hs h38 => ?_⟩
    have e : pr (.any a b) ++ r = pr a ++ (sg 124 :: (par (isAny b) (pr b) ++ r)) := by simp [pr]
    have hkb : parsF kn .both lv (par (isAny b) (pr b) ++ r) = .ok b r := by
      cases hany : isAny b with
      | true =>
        rw [hany, if_pos rfl] at hb
        rw [parsF_both, (ihb _ hb.2 kb).paren hb.1]
        exact both_stop kn lv b r h38
      | false =>
        rw [hany, if_neg (by decide)] at hb
        show parsF kn .both lv (pr b ++ r) = _
        rw [(ihb _ hb kb).both hany r hs]
        exact both_stop kn lv b r h38
    rw [e, (iha _ ha ka).cond _ (stopS_sg 124 (by decide) (by decide) (by decide) _) (isT_sgn 124 _ (by decide) _), parsF_condGo, if_pos (isT_sg 124 _), List.tail_cons, hkb]
    rfl
/-- A whole text's tokens. -/
theorem back_whole (kn : ByteArray → Bool) (t : Tr) (lv : Nat) (h : right lv t) (hk : knows kn t) : parsF kn .cond lv (pr t ++ [(5, eS)]) = .ok t [(5, eS)] := by
  have hz : ∀ x : ByteArray, isT x [(5, eS)] = false := fun x => by simp [isT]
  rw [(back kn t lv h hk).cond _ ⟨hz _, hz _, hz _⟩ (hz _)]
  exact cond_stop kn lv t _ (hz _)
end Go.Proofs.YtneiajkcikcnnaaDoor.Ex
