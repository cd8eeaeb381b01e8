/- Texts of one seat, put together: DecMath Scale Text DecB TextN RefMath RefText. -/
import Derived.Test.YtakcgkohnomgjaaGreatDoorE01
import Derived.Test.YtakcgkohnomgjaaGreatDoorE10
import Derived.Lib.Strings
import Derived.Test.YtakcgkohnomgjaaGreatDoorE38
import Derived.Laws.BytesArg
import Derived.Test.YtakcgkohnomgjaaGreatDoorE05
set_option linter.unusedVariables false
set_option linter.unusedSimpArgs false
/- Decimal digits of plain numbers. -/
namespace Go.Proofs.YtakcgkohnomgjaaGreatDoor.Dec

/-- The lowest k decimal digits of N as bytes, the highest first. -/
def low (N : Nat) : Nat → List Nat
  | 0 => []
  | k + 1 => (48 + N / 10 ^ k % 10) :: low N k
theorem low_length (N k : Nat) : (low N k).length = k := by
  induction k with
  | zero => rfl
  | succ k ih => simp [low, ih]
theorem low_split (N b a : Nat) : low N (a + b) = low (N / 10 ^ b) a ++ low N b := by
  induction a with
  | zero => simp [low]
  | succ a ih =>
    have e : a + 1 + b = a + b + 1 := by omega
    rw [e, low, ih, low, List.cons_append, Nat.div_div_eq_div_mul, ← Nat.pow_add, Nat.add_comm b a]
theorem low_snoc (N k : Nat) : low N (k + 1) = low (N / 10) k ++ [48 + N % 10] := by
  rw [low_split N 1 k]; simp [low]
theorem low_byte (N k : Nat) : ∀ x ∈ low N k, 48 ≤ x ∧ x ≤ 57 := by
  induction k with
  | zero => intro x hx; simp [low] at hx
  | succ k ih =>
    intro x hx
    simp only [low, List.mem_cons] at hx
    rcases hx with rfl | hx
    · omega
    · exact ih x hx
theorem low_get (N k i : Nat) (h : i < k) : (low N k).getD i 0 = 48 + N / 10 ^ (k - 1 - i) % 10 := by
  induction k generalizing i with
  | zero => omega
  | succ k ih =>
    cases i with
    | zero => simp [low]
    | succ i =>
      have := ih i (by omega)
      have e : k + 1 - 1 - (i + 1) = k - 1 - i := by omega
      rw [e, ← this]
      simp [low]
theorem low_drop (N k j : Nat) (h : j ≤ k) : (low N k).drop j = low N (k - j) := by
  induction j generalizing k with
  | zero => simp
  | succ j ih =>
    obtain ⟨i, rfl⟩ : ∃ i, k = i + 1 := ⟨k - 1, by omega⟩
    have e : i + 1 - (j + 1) = i - j := by omega
    rw [low, List.drop_succ_cons, ih i (by omega), e]
theorem low_mod (N k j : Nat) (h : k ≤ j) : low (N % 10 ^ j) k = low N k := by
  induction k with
  | zero => rfl
  | succ k ih =>
    rw [low, low, ih (by omega)]
    congr 2
    obtain ⟨d, rfl⟩ : ∃ d, j = k + 1 + d := ⟨j - (k + 1), by omega⟩
    rw [Nat.pow_add, Nat.pow_succ, Nat.mul_assoc]
    rw [Nat.mod_mul_right_div_self, Nat.mod_mul_right_mod]

/-- N has k decimal digits (0 has one). -/
def IsLen (N k : Nat) : Prop := 1 ≤ k ∧ N < 10 ^ k ∧ (k = 1 ∨ 10 ^ (k - 1) ≤ N)
theorem isLen_le {N M j k : Nat} (h : IsLen N j) (h' : IsLen M k) (hle : N ≤ M) : j ≤ k := by
  rcases Nat.lt_or_ge k j with hlt | hge
  · rcases h.2.2 with h1 | h1
    · have := h'.1; omega
    · have h2 : 10 ^ k ≤ 10 ^ (j - 1) := Nat.pow_le_pow_right (by omega) (by omega)
      have := h'.2.1
      omega
  · exact hge
theorem isLen_uniq {N j k : Nat} (h : IsLen N j) (h' : IsLen N k) : j = k := by
  have h1 := isLen_le h h' (Nat.le_refl _)
  have h2 := isLen_le h' h (Nat.le_refl _)
  omega

/-- The number of the first i digits. -/
def upto (d : Nat → Nat) : Nat → Nat
  | 0 => 0
  | i + 1 => upto d i * 10 + d i
theorem upto_lt (d : Nat → Nat) (i : Nat) (h : ∀ j, j < i → d j ≤ 9) : upto d i < 10 ^ i := by
  induction i with
  | zero => simp [upto]
  | succ i ih =>
    have h1 := ih (fun j hj => h j (by omega))
    have h2 := h i (by omega)
    rw [upto, Nat.pow_succ]
    omega
theorem upto_low (N k : Nat) (hN : N < 10 ^ k) (d : Nat → Nat) (hd : ∀ i, i < k → d i = N / 10 ^ (k - 1 - i) % 10) : ∀ i, i ≤ k → upto d i = N / 10 ^ (k - i) := by
  intro i
  induction i with
  | zero => intro _; rw [upto, Nat.sub_zero, Nat.div_eq_of_lt hN]
  | succ i ih =>
    intro hi
    rw [upto, ih (by omega), hd i (by omega)]
    have e1 : k - i = k - (i + 1) + 1 := by omega
    have e2 : k - 1 - i = k - (i + 1) := by omega
    rw [e1, e2, Nat.pow_succ, ← Nat.div_div_eq_div_mul]
    omega
theorem limbs_room (i : Nat) : 10 ^ i < 4294967296 ^ (i / 9 + 1) := by
  have h1 : i ≤ 9 * (i / 9 + 1) := by omega
  have h2 : 10 ^ i ≤ 10 ^ (9 * (i / 9 + 1)) := Nat.pow_le_pow_right (by omega) h1
  refine Nat.lt_of_le_of_lt h2 ?_
  rw [Nat.pow_mul]
  exact Nat.pow_lt_pow_left (by omega) (by omega)
theorem digits_room (N m k : Nat) (hN : N < 4294967296 ^ m) (h : 10 ^ k ≤ N) : k < 10 * m := by
  rcases Nat.lt_or_ge k (10 * m) with h1 | h1
  · exact h1
  · have h2 : 10 ^ (10 * m) ≤ 10 ^ k := Nat.pow_le_pow_right (by omega) h1
    have h3 : 4294967296 ^ m ≤ 10 ^ (10 * m) := by
      rw [Nat.pow_mul]
      exact Nat.pow_le_pow_left (by omega) m
    omega
end Go.Proofs.YtakcgkohnomgjaaGreatDoor.Dec
/- nat.scale, nat.allDigits. -/
namespace Go.Proofs.YtakcgkohnomgjaaGreatDoor
open Go.RowKit
open Limb (limb limb_lt upto upto_succ upto_all upto_zero)

def ScRel (g f p : Nat) (zs : List Nat) (w : World) (k c : Nat) (wr : World) : Prop :=
  ∃ cur : List Nat, cur.length = zs.length ∧ Limb.Ok cur ∧ Row wr g cur ∧ Only g w wr ∧ (∀ t, k ≤ t → limb cur t = limb zs t) ∧ upto cur k + 4294967296 ^ k * c = upto zs k * f + p
theorem ScRel.start (g f p : Nat) (zs : List Nat) (w : World) (hz : Limb.Ok zs) (hr : Row w g zs) : ScRel g f p zs w 0 p w :=
  ⟨zs, rfl, hz, hr, Only.refl g w, fun _ _ => rfl, by rw [upto_zero, Nat.pow_zero]; omega⟩
theorem sc_alg (U V B z f p s c c' : Nat) (h : U + B * c = V * f + p) (hs : s + 4294967296 * c' = z * f + c) : U + B * s + B * 4294967296 * c' = (V + B * z) * f + p := by
  have e1 : B * (s + 4294967296 * c') = B * (z * f + c) := by rw [hs]
  rw [Nat.mul_add, Nat.mul_add] at e1
  rw [Nat.add_mul, Nat.mul_assoc B z f, Nat.mul_assoc B 4294967296 c']
  omega
theorem ScRel.at_ {g f p : Nat} {zs : List Nat} {w : World} {k c : Nat} {wr : World} (h : ScRel g f p zs w k c wr) (hk : k < zs.length) (hok : Limb.Ok zs) :
    ∃ z : Nat, z < 4294967296 ∧ wr.cell? ⟨g, k, none⟩ = some (.int .u32 (z : Int)) ∧ wr.frozen? ⟨g, k, none⟩ = false ∧
      ∀ s c' : Nat, s < 4294967296 → s + 4294967296 * c' = z * f + c → ScRel g f p zs w (k + 1) c' (wr.setCell ⟨g, k, none⟩ (.int .u32 (s : Int))) := by
  obtain ⟨cur, hl, ho, hr, hon, he, hv⟩ := h
  refine ⟨limb zs k, limb_lt hok k, ?_, hr.frozen _, fun s c' hs hsc => ?_⟩
  · rw [hr.cell (i := k) (by omega), ← he k (Nat.le_refl _)]; rfl
  · refine ⟨cur.set k s, by simp [hl], ho.set k s hs, hr.set_ _ _, hon.setCell _ _, fun t ht => ?_, ?_⟩
    · rw [limb_set_ne _ _ _ _ (by omega)]; exact he t (by omega)
    · rw [upto_succ, upto_succ, upto_set, limb_set_self _ _ _ (by omega), Nat.pow_succ]
      exact sc_alg _ _ _ _ _ _ _ _ _ hv hsc
def ScPost (g f p : Nat) (zs : List Nat) (w : World) (e : Ending) (w' : World) : Prop :=
  ∃ (cur : List Nat) (cy : Nat), e = .returned (.tuple #[]) ∧ cur.length = zs.length ∧ Limb.Ok cur ∧ Row w' g cur ∧ Only g w w' ∧ Hid (Limb.val cur + 4294967296 ^ zs.length * cy = Limb.val zs * f + p)

/-- Byte i of a text. -/
def byteAt (s : ByteArray) (i : Nat) : Nat := if h : i < s.size then (s[i]'h).toNat else 0
theorem byteAt_eq (s : ByteArray) (i : Nat) (h : i < s.size) : byteAt s i = (s[i]'h).toNat := by unfold byteAt; rw [dif_pos h]
theorem byteAt_lt (s : ByteArray) (i : Nat) : byteAt s i < 256 := by
  unfold byteAt
  split
  · exact UInt8.toNat_lt _
  · omega
def allDig (s : ByteArray) : Prop := ∀ i, i < s.size → 48 ≤ byteAt s i ∧ byteAt s i ≤ 57
theorem isEmpty_size (s : ByteArray) : s.toList.isEmpty = decide (s.size = 0) := by
  rw [Lib.toList_data]
  have h : s.data.toList.length = s.size := by simp
  cases hl : s.data.toList with
  | nil => rw [hl] at h; simp at h; simp [← h]
  | cons x xs => rw [hl] at h; simp at h; rw [decide_eq_false (by omega)]; rfl
end Go.Proofs.YtakcgkohnomgjaaGreatDoor
/- nat.Text. -/
namespace Go.Proofs.YtakcgkohnomgjaaGreatDoor
open Go.RowKit
open Limb (limb limb_lt upto upto_succ upto_all upto_zero)

/-- What stands in the text's row while its last d places hold the lowest d digits of N. -/
def TxRel (gT T N d : Nat) (wr : World) : Prop := ∃ bs : List Nat, bs.length = T ∧ d ≤ T ∧ BRow wr gT bs ∧ bs.drop (T - d) = Dec.low N d
theorem TxRel.step {gT T N d : Nat} {wr : World} (h : TxRel gT T N d wr) (hd : d + 1 ≤ T) : TxRel gT T N (d + 1) (wr.setCell ⟨gT, T - (d + 1), none⟩ (.int .u8 ((48 + N / 10 ^ d % 10 : Nat) : Int))) := by
  obtain ⟨bs, hl, hd0, hr, hv⟩ := h
  refine ⟨bs.set (T - (d + 1)) (48 + N / 10 ^ d % 10), by simp [hl], hd, hr.set_ _ _, ?_⟩
  have hlt : T - (d + 1) < (bs.set (T - (d + 1)) (48 + N / 10 ^ d % 10)).length := by simp [hl]; omega
  rw [List.drop_eq_getElem_cons hlt, List.getElem_set_self, Dec.low]
  congr 1
  have e : T - (d + 1) + 1 = T - d := by omega
  rw [e, List.drop_set_of_lt (by omega), hv]
theorem TxRel.cell {gT T N d : Nat} {wr : World} (h : TxRel gT T N d wr) (i : Nat) (hi : i < T) : ∃ b : Nat, wr.cell? ⟨gT, i, none⟩ = some (.int .u8 (b : Int)) ∧ wr.frozen? ⟨gT, i, none⟩ = false := by
  obtain ⟨bs, hl, hd0, hr, hv⟩ := h
  exact ⟨_, hr.cell (by omega), hr.frozen i⟩
theorem TxRel.digit {gT T N d : Nat} {wr : World} (h : TxRel gT T N d wr) (j : Nat) (hj : j < d) : wr.cell? ⟨gT, T - (j + 1), none⟩ = some (.int .u8 ((48 + N / 10 ^ j % 10 : Nat) : Int)) := by
  obtain ⟨bs, hl, hd0, hr, hv⟩ := h
  rw [hr.cell (by omega)]
  have h1 : bs.getD (T - (j + 1)) 0 = (bs.drop (T - d)).getD (d - (j + 1)) 0 := by
    have e : T - d + (d - (j + 1)) = T - (j + 1) := by omega
    simp [List.getD_eq_getElem?_getD, List.getElem?_drop, e]
  rw [h1, hv, Dec.low_get N d _ (by omega)]
  have e2 : d - 1 - (d - (j + 1)) = j := by omega
  rw [e2]
end Go.Proofs.YtakcgkohnomgjaaGreatDoor
/- The text of a plain number in decimal digits. -/
namespace Go.Proofs.YtakcgkohnomgjaaGreatDoor.Dec

def dlen (N : Nat) : Nat := if h : N < 10 then 1 else dlen (N / 10) + 1
termination_by N
decreasing_by omega
theorem dlen_pos (N : Nat) : 1 ≤ dlen N := by rw [dlen]; split <;> omega
theorem dlen_is (N : Nat) : IsLen N (dlen N) := by
  induction N using Nat.strongRecOn with
  | _ N ih =>
    rw [dlen]
    split
    · rename_i h
      exact ⟨Nat.le_refl _, by simpa using h, Or.inl rfl⟩
    · rename_i h
      obtain ⟨h1, h2, h3⟩ := ih (N / 10) (by omega)
      refine ⟨by omega, ?_, Or.inr ?_⟩
      · rw [Nat.pow_succ]; omega
      · rw [Nat.add_sub_cancel]
        rcases h3 with h3 | h3
        · rw [h3]; omega
        · obtain ⟨k, hk⟩ : ∃ k, dlen (N / 10) = k + 1 := ⟨dlen (N / 10) - 1, by omega⟩
          rw [hk] at h3 ⊢
          rw [Nat.add_sub_cancel] at h3
          rw [Nat.pow_succ]; omega
/-- The first digit of a number that isn't 0. -/
theorem top_digit (N k : Nat) (h : IsLen N k) (h0 : N ≠ 0) : N / 10 ^ (k - 1) % 10 ≠ 0 := by
  obtain ⟨h1, h2, h3⟩ := h
  obtain ⟨j, rfl⟩ : ∃ j, k = j + 1 := ⟨k - 1, by omega⟩
  rw [Nat.add_sub_cancel] at h3 ⊢
  rw [Nat.pow_succ] at h2
  have hp : 0 < 10 ^ j := Nat.pow_pos (by omega)
  have h4 : N / 10 ^ j < 10 := Nat.div_lt_of_lt_mul (by omega)
  have h5 : 1 ≤ N / 10 ^ j := by
    rcases h3 with h3 | h3
    · have : j = 0 := by omega
      subst this
      simp; omega
    · exact (Nat.le_div_iff_mul_le hp).2 (by omega)
  omega
theorem digit_beyond (N k j : Nat) (h : N < 10 ^ k) (hj : k ≤ j) : N / 10 ^ j % 10 = 0 := by
  rw [Nat.div_eq_of_lt (Nat.lt_of_lt_of_le h (Nat.pow_le_pow_right (by omega) hj))]
/-- A digit of a group of nine. -/
theorem group_digit (N i j : Nat) (hj : j < 9) : N / 10 ^ (9 * i) % 1000000000 / 10 ^ j % 10 = N / 10 ^ (9 * i + j) % 10 := by
  have e : (1000000000 : Nat) = 10 ^ j * 10 ^ (9 - j) := by rw [← Nat.pow_add, show j + (9 - j) = 9 by omega]
  rw [e, Nat.mod_mul_right_div_self, Nat.div_div_eq_div_mul, ← Nat.pow_add]
  obtain ⟨k, hk⟩ : ∃ k, 9 - j = k + 1 := ⟨8 - j, by omega⟩
  rw [hk, Nat.pow_succ, Nat.mul_comm (10 ^ k) 10, Nat.mod_mul_right_mod]
def str (xs : List Nat) : ByteArray := strOfNums (xs.map fun (x : Nat) => (x : Int))
theorem str_size (xs : List Nat) : (str xs).size = xs.length := by rw [str, strOfNums_size, List.length_map]
theorem str_data (xs : List Nat) : (str xs).data.toList = xs.map fun n => UInt8.ofNat n := by
  rw [str, strOfNums_data, List.map_map]
  rfl
/-- The text of N. -/
def text (N : Nat) : ByteArray := str (low N (dlen N))
theorem text_size (N : Nat) : (text N).size = dlen N := by rw [text, str_size, low_length]
theorem div_group (N i : Nat) : N / 10 ^ (9 * i) / 1000000000 = N / 10 ^ (9 * (i + 1)) := by
  rw [Nat.div_div_eq_div_mul, show (1000000000 : Nat) = 10 ^ 9 from rfl, ← Nat.pow_add, show 9 * i + 9 = 9 * (i + 1) by omega]
/-- Room for one group more. -/
theorem group_room (N m i : Nat) (hN : N < 4294967296 ^ m) (h : N / 10 ^ (9 * i) ≠ 0) : 9 * (i + 1) ≤ 10 * m + 8 := by
  have h1 : 10 ^ (9 * i) ≤ N := by
    rcases Nat.lt_or_ge N (10 ^ (9 * i)) with h2 | h2
    · exact absurd (Nat.div_eq_of_lt h2) h
    · exact h2
  have := digits_room N m (9 * i) hN h1
  omega
end Go.Proofs.YtakcgkohnomgjaaGreatDoor.Dec
/- nat.Text: the walk. -/
namespace Go.Proofs.YtakcgkohnomgjaaGreatDoor
open Go.RowKit
open Limb (limb limb_lt upto upto_succ upto_all upto_zero)

def TextPost (N : Nat) (w : World) (e : Ending) (w' : World) : Prop := e = .returned (.string (Dec.text N)) ∧ Below w.heap.size w w'
theorem row_ne {w : World} {g k : Nat} {bs zs : List Nat} (h : BRow w g bs) (h' : Row w k zs) : g ≠ k := by
  rintro rfl
  unfold BRow at h; unfold Row at h'
  rw [h] at h'
  injection h' with h'
  injection h' with _ ht
  exact absurd ht (by decide)
theorem Own.rowOf {w : World} {base : Nat} {A : Option Addr} {n c N : Nat} (h : Own w base A n c N) (h0 : N ≠ 0) : ∃ g zs, A = some ⟨g, 0, none⟩ ∧ base ≤ g ∧ Row w g zs ∧ Limb.Ok zs ∧ c ≤ zs.length ∧ zs.take n = Limb.canon N := h.2.2.2 h0
theorem TxRel.only {gT T N d r : Nat} {w wr : World} (h : TxRel gT T N d w) (ho : Only r w wr) (hne : gT ≠ r) : TxRel gT T N d wr := by
  obtain ⟨bs, hl, hd, hr, hv⟩ := h
  exact ⟨bs, hl, hd, hr.other ho hne, hv⟩
theorem TxRel.stepAt {gT T N d r D : Nat} {wr : World} (h : TxRel gT T N d wr) (hr : r + (d + 1) = T) (hD : D = N / 10 ^ d % 10) : TxRel gT T N (d + 1) (wr.setCell ⟨gT, r, none⟩ (.int .u8 ((48 + D : Nat) : Int))) := by
  have h1 := h.step (by omega)
  have e : T - (d + 1) = r := by omega
  rw [e, ← hD] at h1
  exact h1
theorem TxRel.start {gT T N : Nat} {w : World} (h : BRow w gT (List.replicate T 0)) : TxRel gT T N 0 w := ⟨_, by simp, Nat.zero_le _, h, by simp [Dec.low]⟩
theorem TxRel.row {gT T N d : Nat} {w : World} (h : TxRel gT T N d w) : ∃ bs, BRow w gT bs := by
  obtain ⟨bs, _, _, hr, _⟩ := h
  exact ⟨bs, hr⟩
theorem Own.ownOnly {w w' : World} {base : Nat} {A : Option Addr} {n c X gT T N d : Nat} (h : Own w base A n c X) (ho : Only gT w w') (ht : TxRel gT T N d w) : Own w' base A n c X := by
  rcases Nat.eq_zero_or_pos X with h0 | h0
  · subst h0
    exact ⟨h.1, h.2.1, h.2.2.1, fun hh => absurd rfl hh⟩
  · obtain ⟨g, zs, rfl, hg, hr, hz⟩ := h.rowOf (by omega)
    obtain ⟨bs, hb⟩ := ht.row
    exact h.grown ho (fun ad had he => row_ne hb hr (by injection had with had; subst had; exact he.symm))
theorem dlen_le {N k : Nat} (h : N < 10 ^ k) (hk : 1 ≤ k) : Dec.dlen N ≤ k := by
  obtain ⟨h1, h2, h3⟩ := Dec.dlen_is N
  rcases h3 with h3 | h3
  · omega
  · rcases Nat.lt_or_ge k (Dec.dlen N) with h4 | h4
    · have := Nat.pow_le_pow_right (show 0 < 10 by omega) (show k ≤ Dec.dlen N - 1 by omega)
      omega
    · exact h4
theorem TxRel.conv {gT T N d r c : Nat} {wr : World} (h : TxRel gT T N d wr) (hr : r + Dec.dlen N = T) (hd : Dec.dlen N ≤ d) :
    (convert 93 9 (.slice (some ⟨gT, r, none⟩) (Dec.dlen N) c)).run Tryz.prog wr = .ok (.string (Dec.text N)) wr := by
  obtain ⟨bs, hl, hdT, hb, hv⟩ := h
  have h1 : bs.drop r = Dec.low N (Dec.dlen N) := by
    have h2 := Dec.low_drop N d (d - Dec.dlen N) (by omega)
    rw [← hv, List.drop_drop, show T - d + (d - Dec.dlen N) = r by omega, show d - (d - Dec.dlen N) = Dec.dlen N by omega] at h2
    exact h2
  refine run_convert_bytes_arg wr _ 5 Tryz.underlying93 Tryz.underlying5 gT r (Dec.dlen N) c ((Dec.low N (Dec.dlen N)).map fun (x : Nat) => (x : Int)) (by rw [List.length_map, Dec.low_length]) (fun i hi => ?_) _ Tryz.underlying9
  rw [hb.cell (by omega)]
  have e : bs.getD (r + i) 0 = (Dec.low N (Dec.dlen N)).getD i 0 := by rw [← h1]; simp [List.getD_eq_getElem?_getD, List.getElem?_drop]
  rw [e]
  have hi2 : i < (Dec.low N (Dec.dlen N)).length := by rw [Dec.low_length]; exact hi
  simp [List.getD_eq_getElem?_getD, List.getElem?_eq_getElem hi2]
theorem win_from0 (zs : List Nat) (m : Nat) : win zs 0 m = zs.take m := by unfold win; rw [List.drop_zero]
theorem put_fixed_val (zs : List Nat) (m X : Nat) (h : X < 4294967296 ^ m) : Limb.val ((put zs 0 (Limb.fixed m X)).take m) = X := by
  unfold put
  rw [List.take_zero, List.nil_append, List.take_append_of_le_length (by rw [Limb.fixed_length]; exact Nat.le_refl _), List.take_of_length_le (by rw [Limb.fixed_length]; exact Nat.le_refl _), Limb.fixed_val, Nat.mod_eq_of_lt h]

theorem natText_zero (A : Option Addr) (n c : Nat) (xs : List Nat) (w : World) (hx : Nums w A n xs) (hc : n ≤ c) (hm : c ≤ 9223372036854775807) (hn : n ≤ 1099511627776) (h0 : Limb.val xs = 0) :
    Calls Tryz.prog 114 #[.slice A n c] w (TextPost 0 w) := by
  have ht := trim_any A n c xs w hx hc hm hn
  unfold TrimPost at ht
  rw [h0] at ht
  clear h0
  go_enter Tryz.func114, Tryz.ntmps114
  go_wp2_with fail
  refine ht.mono ?_
  rintro e w1 ⟨A1, n1, rfl, o1, b1⟩
  obtain rfl : n1 = 0 := o1.len
  go_wp2_with fail
  go_ret
  refine ⟨?_, b1⟩
  have e1 : Dec.dlen 0 = 1 := by rw [Dec.dlen]; rfl
  show Ending.returned (.string _) = .returned (.string (Dec.str (Dec.low 0 (Dec.dlen 0))))
  rw [e1]
  rfl

set_option maxHeartbeats 4000000 in
theorem natText_pos (A : Option Addr) (n c : Nat) (xs : List Nat) (w : World) (hx : Nums w A n xs) (hc : n ≤ c) (hm : c ≤ 9223372036854775807) (hn : n ≤ 1099511627776) (h0 : Limb.val xs ≠ 0) :
    Calls Tryz.prog 114 #[.slice A n c] w (TextPost (Limb.val xs) w) := by
  have ht := trim_any A n c xs w hx hc hm hn
  have hNlt := hx.lt
  generalize Limb.val xs = N at *
  have HN0 := hide h0
  clear h0
  go_enter Tryz.func114, Tryz.ntmps114
  go_wp2_with fail
  refine ht.mono ?_
  rintro e w1 ⟨A1, n1, rfl, o1, b1⟩
  have hn1 : n1 ≤ n := short_canon o1.nums hNlt
  have hn0 : 0 < n1 := by
    rcases Nat.eq_zero_or_pos n1 with h | h
    · exact absurd ((Limb.canon_len_zero N).1 (by rw [← o1.len]; exact h)) HN0.out
    · exact h
  have hne : ((n1 : Int) == 0) = false := by simp; omega
  have hlt1 := hide o1.nums.lt
  rw [Limb.val_canon] at hlt1
  clear ht hNlt hx
  obtain ⟨T, hT⟩ : ∃ T : Nat, T = n1 * 10 + 9 := ⟨_, rfl⟩
  have eT : (n1 : Int) * 10 + 9 = (T : Int) := by omega
  have hT9 : T ≤ 35184372088832 := by omega
  have HT := hide hT
  clear hT
  go_wp2_with (at_make; refine wpList_make_u8 _ rfl _ _ rfl _ T rfl rfl (by omega) (by omega) ?_; intro w2 hr2 hb2 hs2)
  have o2 := o1.below hb2
  have t2 := b1.next hb2
  have hg : w.heap.size ≤ w1.heap.size := b1.size
  generalize w1.heap.size = gT at *
  clear o1 b1 hb2 hne eT
  go_wp2_with fail
  go_loopg [3, 5] N (fun k va vb wr => ∃ (i r p : Nat) (B : Option Addr), va = .slice B p p ∧ vb = .int .i64 (r : Int) ∧ Hid (k = N / 10 ^ (9 * i)) ∧ Hid (r + 9 * i = T) ∧ Own wr w.heap.size B p p k ∧ Hid (TxRel gT T N (9 * i) wr) ∧ Below w.heap.size w wr ∧ p ≤ 1099511627776 ∧ r ≤ T)
  case atStart => exact ⟨0, T, n1, A1, rfl, rfl, by show _ = _; simp, by show _ = _; omega, o2, TxRel.start hr2, t2, by omega, Nat.le_refl _⟩
  case round =>
    clear hr2 o2 t2
    obtain ⟨i, r, p, B, rfl, rfl, HK, HR, o3, HT3, t3, hp, hrT⟩ := hrel
    by_cases hk0 : gk = 0
    · subst hk0
      obtain rfl : p = 0 := o3.len
      have hNi := hide (show N < 10 ^ (9 * i) by
        have h1 := HK.out
        rcases Nat.lt_or_ge N (10 ^ (9 * i)) with h2 | h2
        · exact h2
        · have := Nat.div_pos h2 (Nat.pow_pos (by omega)); omega)
      have hi1 : 1 ≤ i := by
        rcases Nat.eq_zero_or_pos i with h | h
        · subst h; have h1 := hNi.out; have h2 := HN0.out; simp at h1; omega
        · exact h
      have hdl := hide (dlen_le hNi.out (by omega))
      have htop := hide (Dec.top_digit N _ (Dec.dlen_is N) HN0.out)
      have hd1 := Dec.dlen_pos N
      have hNd := hide (Dec.dlen_is N).2.1
      have hconv := hide (fun (r2 c : Nat) (hr : r2 + Dec.dlen N = T) => HT3.out.conv (c := c) hr hdl.out)
      generalize Dec.dlen N = D at *
      have HR9 := HR.out
      have hdl2 := hdl.out
      go_wp2_with fail
      go_loop [5] (fun s => ∃ r2 : Nat, s = .int .i64 (r2 : Int) ∧ r2 < T ∧ Hid (r ≤ r2 ∧ r2 + D ≤ T)) (fun s => T - (intOf s).toNat)
      case atStart => exact ⟨r, rfl, by omega, by omega, by omega⟩
      case round =>
        clear HR9 hdl2
        obtain ⟨r2, rfl, hr2, HR2⟩ := hrel
        obtain ⟨d, hd⟩ : ∃ d, d = T - (r2 + 1) := ⟨_, rfl⟩
        have hcell := HT3.out.digit d (by have := HR2.out; have := HR.out; omega)
        rw [show T - (d + 1) = r2 by omega] at hcell
        by_cases hlast : r2 + D = T
        · have hdig := htop.out
          rw [show D - 1 = d by omega] at hdig
          have hcv := hconv.out r2 D hlast
          generalize N / 10 ^ d % 10 = dd at *
          obtain ⟨ch, hch⟩ : ∃ ch, ch = 48 + dd := ⟨_, rfl⟩
          rw [← hch] at hcell
          have htest : ((ch : Int) == 48) = false := by simp; omega
          have hne1 : ¬ T = r2 := by omega
          have eD : T - r2 = D := by omega
          clear hdig hlast hd hch
          go_wp2_with fail
          go_ret
          exact ⟨rfl, t3⟩
        · have hz := Dec.digit_beyond N D d hNd.out (by have := HR2.out; omega)
          rw [hz] at hcell
          clear hz hd
          go_wp2_with fail
          go_round
          case rel => exact ⟨r2 + 1, by go_num, by have := HR2.out; omega, by have := HR2.out; omega, by have := HR2.out; omega⟩
          case measure => simp [intOf]; omega
    · have hp0 : 0 < p := by
        rcases Nat.eq_zero_or_pos p with h | h
        · exact absurd ((Limb.canon_len_zero gk).1 (by rw [← o3.len]; exact h)) hk0
        · exact h
      have hplt := hide o3.nums.lt
      rw [Limb.val_canon] at hplt
      obtain ⟨g, zs, rfl, hgb, hrow, hzok, hzl, hzt⟩ := o3.rowOf hk0
      have hdb := divideBy_any g p p 1000000000 zs wr hrow hzok hzl (by omega) (by omega) (by omega)
      unfold DBPost at hdb
      rw [win_from0, hzt, Limb.val_canon] at hdb
      have hX := hide (put_fixed_val zs p (gk / 1000000000) (Nat.lt_of_le_of_lt (Nat.div_le_self _ _) hplt.out))
      have hroom := hide (Dec.group_room N n1 i hlt1.out (by rw [← HK.out]; exact hk0))
      have hgT := hide (row_ne HT3.out.row.choose_spec hrow)
      have hok2 := put_ok hzok 0 (Limb.fixed_ok p (gk / 1000000000))
      have hlen2 := hide (put_length zs 0 (Limb.fixed p (gk / 1000000000)) (by rw [Limb.fixed_length]; omega))
      have HK0 := hide hk0
      have hml := hide (Nat.div_lt_self (Nat.pos_of_ne_zero hk0) (show 1 < 1000000000 by omega))
      have hq9 : gk % 1000000000 < 1000000000 := Nat.mod_lt _ (by omega)
      have hq0 := hide (show gk % 1000000000 = gk % 1000000000 / 10 ^ 0 by simp)
      generalize put zs 0 (Limb.fixed p (gk / 1000000000)) = us at *
      generalize hqq : gk % 1000000000 = qq at *
      have HQQ := hide hqq
      clear hk0 o3 hzt hqq
      obtain ⟨wo, rfl⟩ : ∃ wo : World, wo = wr := ⟨_, rfl⟩
      go_wp2_with fail
      refine hdb.mono ?_
      rintro e w3 ⟨rfl, hrow3, hon3⟩
      have HT4 := hide (HT3.out.only hon3 hgT.out)
      have t4 := t3.trans (hon3.below t3.size hgb)
      clear hdb HT3 t3 hrow hon3
      go_wp2_with fail
      refine (trimmed_row g p p (gk / 1000000000) w.heap.size us w3 hrow3 hok2 (by rw [hlen2.out]; exact hzl) (Nat.le_refl _) (by omega) hgb hX.out).mono ?_
      rintro e w' ⟨A5, m5, rfl, o5, rfl⟩
      go_wp2_with fail
      have hm5 : m5 ≤ p := short_canon o5.nums (Nat.lt_of_le_of_lt (Nat.div_le_self _ _) hplt.out)
      go_loopw [5, 6, 26] (fun s q c wq => ∃ j r2 q2 : Nat, j ≤ 9 ∧ s = .int .i64 (r2 : Int) ∧ q = .int .u32 (q2 : Int) ∧ c = .int .i64 (j : Int) ∧ q2 ≤ 999999999 ∧ r2 ≤ T ∧ Hid (r2 + (9 * i + j) = T) ∧ Hid (q2 = qq / 10 ^ j) ∧ Hid (TxRel gT T N (9 * i + j) wq) ∧ Hid (Only gT w3 wq)) (fun _ _ c _ => 9 - (intOf c).toNat)
      case atStart => exact ⟨0, r, qq, by omega, rfl, rfl, rfl, by omega, hrT, by show _ = _; have := HR.out; omega, by show _ = _; simp, HT4.out, Only.refl _ _⟩
      case round =>
        obtain ⟨j, r2, q2, hj, rfl, rfl, rfl, hq2, hr2T, HR2, HQ2, HT5, HO5⟩ := hrel
        by_cases hj9 : j < 9
        · obtain ⟨r3, rfl⟩ : ∃ r3, r2 = r3 + 1 := ⟨r2 - 1, by have h1 := HR2.out; have h2 := hroom.out; have h3 := HT.out; omega⟩
          obtain ⟨b0, hcell, hfroz⟩ := HT5.out.cell r3 (by omega)
          have hstep := hide (HT5.out.stepAt (r := r3) (D := q2 % 10) (by have := HR2.out; omega) (by rw [HQ2.out, ← HQQ.out, HK.out, Dec.group_digit N i j hj9]))
          have hq3 := hide (show q2 / 10 = qq / 10 ^ (j + 1) by rw [HQ2.out, Nat.pow_succ, Nat.div_div_eq_div_mul])
          go_wp2_with fail
          have es : ((48 : Int) + (q2 : Int) % 10) = ((48 + q2 % 10 : Nat) : Int) := by omega
          have eq3 : (q2 : Int) / 10 = ((q2 / 10 : Nat) : Int) := by omega
          rw [es, eq3]
          clear es eq3
          go_roundw
          case rel => exact ⟨j + 1, r3, q2 / 10, by omega, rfl, rfl, by go_num, by omega, by omega, by show _ = _; have := HR2.out; omega, hq3.out, hstep.out, HO5.out.setCell _ _⟩
          case measure => simp [intOf]; omega
        · obtain rfl : j = 9 := by omega
          go_wp2_with fail
          go_roundg (gk / 1000000000)
          case rel => exact ⟨i + 1, r2, m5, A5, rfl, rfl, by show _ = _; rw [HK.out]; exact Dec.div_group N i, by show _ = _; have := HR2.out; omega, o5.ownOnly HO5.out HT4.out, HT5.out, t4.trans (HO5.out.below t4.size hg), by omega, hr2T⟩
          case measure => exact hml.out
theorem natText_any (A : Option Addr) (n c : Nat) (xs : List Nat) (w : World) (hx : Nums w A n xs) (hc : n ≤ c) (hm : c ≤ 9223372036854775807) (hn : n ≤ 1099511627776) :
    Calls Tryz.prog 114 #[.slice A n c] w (TextPost (Limb.val xs) w) := by
  by_cases h0 : Limb.val xs = 0
  · rw [h0]; exact natText_zero A n c xs w hx hc hm hn h0
  · exact natText_pos A n c xs w hx hc hm hn h0
end Go.Proofs.YtakcgkohnomgjaaGreatDoor
/- A row of zeros with one more. -/
namespace Go.Proofs.YtakcgkohnomgjaaGreatDoor
theorem zeros_more (l : Nat) : List.replicate l 0 ++ [0] = List.replicate (l + 1) 0 := by
  rw [List.replicate_succ']
end Go.Proofs.YtakcgkohnomgjaaGreatDoor
/- plumblineref01.Text. -/
namespace Go.Proofs.YtakcgkohnomgjaaGreatDoor
open Go.RowKit
open Limb (limb limb_lt upto upto_succ upto_all upto_zero)

theorem Lst.row {w : World} {base : Nat} {v : Value} {xs : List Nat} (h : Lst w base v xs) (hn : 0 < xs.length) : ∃ g c, v = .slice (some ⟨g, 0, none⟩) xs.length c ∧ base ≤ g ∧ xs.length ≤ c ∧ c ≤ 9223372036854775807 := by
  obtain ⟨⟨hl, hc⟩, ho⟩ := h
  rcases hc with ⟨rfl, h0⟩ | ⟨g, cap, cur, rfl, hb, hh, h1, h2, h3, h4⟩
  · omega
  · unfold maxLen at h2
    exact ⟨g, cap, rfl, hb, h1, h2⟩
theorem Lst.cellAt {w : World} {base g c : Nat} {xs : List Nat} (h : Lst w base (.slice (some ⟨g, 0, none⟩) xs.length c) xs) (i : Nat) (hi : i < xs.length) :
    w.cell? ⟨g, i, none⟩ = some (.int .u32 ((xs.getD i 0 : Nat) : Int)) ∧ w.frozen? ⟨g, i, none⟩ = false := by
  refine ⟨?_, h.1.frozenAt i⟩
  rw [h.1.cellAt i (by omega), u32s_get xs i hi]
theorem Lst.storeAt {w : World} {base g c : Nat} {xs : List Nat} (h : Lst w base (.slice (some ⟨g, 0, none⟩) xs.length c) xs) (i y : Nat) (hy : y < 4294967296) :
    Lst (w.setCell ⟨g, i, none⟩ (.int .u32 (y : Int))) base (.slice (some ⟨g, 0, none⟩) (xs.set i y).length c) (xs.set i y) := by
  have h1 := h.1.stored i (.int .u32 (y : Int))
  refine ⟨?_, h.2.set i y hy⟩
  rw [List.length_set]
  have e : u32s (xs.set i y) = (u32s xs).set i (.int .u32 (y : Int)) := by simp [u32s, List.map_set]
  rw [e]
  exact h1.1
theorem conv_one (W : World) (v : Int) : (convert 93 9 (.slice (some ⟨W.heap.size, 0, none⟩) 1 1)).run Tryz.prog (W.alloc (.cells #[.int .u8 v] 5)) = .ok (.string (strOfNums [v])) (W.alloc (.cells #[.int .u8 v] 5)) :=
  run_convert_bytes_arg _ _ 5 Tryz.underlying93 Tryz.underlying5 W.heap.size 0 1 1 [v] rfl (fun i hi => by
    obtain rfl : i = 0 := by omega
    simp) _ Tryz.underlying9
theorem str_cons (x : Nat) (xs : List Nat) : strOfNums [(x : Int)] ++ Dec.str xs = Dec.str (x :: xs) := by
  unfold Dec.str strOfNums
  apply ByteArray.ext
  simp
/-- The loop that divides by ten. -/
def DTRel (X m base : Nat) (v : Value) (w : World) (k z : Nat) (wr : World) : Prop :=
  ∃ cur : List Nat, cur.length = m ∧ Lst wr base v cur ∧ Below base w wr ∧ z < 10 ∧ Limb.val ((Limb.canon X).drop k) = 10 * Limb.val (cur.drop k) + z
theorem DTRel.start {X m base : Nat} {v : Value} {w wr : World} (h : Lst wr base v (List.replicate m 0)) (hb : Below base w wr) (hm : m = (Limb.canon X).length) : DTRel X m base v w m 0 wr :=
  ⟨_, List.length_replicate, h, hb, by omega, by rw [List.drop_of_length_le (by omega), List.drop_of_length_le (by rw [List.length_replicate]; exact Nat.le_refl _)]; rfl⟩
theorem DTRel.step {X m base : Nat} {v : Value} {w : World} {k z : Nat} {wr : World} (h : DTRel X m base v w (k + 1) z wr) (hm : m = (Limb.canon X).length) (hk : k < m) :
    ∃ g c, v = .slice (some ⟨g, 0, none⟩) m c ∧ (∃ b : Nat, wr.cell? ⟨g, k, none⟩ = some (.int .u32 (b : Int))) ∧ wr.frozen? ⟨g, k, none⟩ = false ∧ z < 10 ∧ 
      ∀ q t : Nat, q < 4294967296 → t < 10 → 10 * q + t = z * 4294967296 + limb (Limb.canon X) k → DTRel X m base v w k t (wr.setCell ⟨g, k, none⟩ (.int .u32 (q : Int))) := by
  obtain ⟨cur, hl, hL, hB, hz, hv⟩ := h
  obtain ⟨g, c, rfl, hb, -, -⟩ := hL.row (by omega)
  have hc := hL.cellAt k (by omega)
  refine ⟨g, c, by rw [hl], ⟨_, hc.1⟩, hc.2, hz, fun q t hq ht hqt => ⟨cur.set k q, by simp [hl], ?_, hB.setCell hb _, ht, ?_⟩⟩
  · have := hL.storeAt k q hq
    rw [List.length_set] at this
    exact this
  rw [val_drop_limb (Limb.canon X) k (by omega), val_drop_limb (cur.set k _) k (by simp; omega), drop_set_succ]
  have e3 : limb (cur.set k q) k = q := by
    unfold limb
    rw [List.getD_eq_getElem?_getD, List.getElem?_set_self (by omega)]; rfl
  rw [e3]
  exact db_alg 10 z _ _ _ q t hv hqt
theorem DTRel.old {X m base : Nat} {v : Value} {w : World} {k z : Nat} {wr : World} (h : DTRel X m base v w k z wr) : Below base w wr := by
  obtain ⟨cur, _, _, hB, _⟩ := h
  exact hB
theorem DTRel.done {X m base : Nat} {v : Value} {w : World} {z : Nat} {wr : World} (h : DTRel X m base v w 0 z wr) : ∃ B c ys, v = .slice B m c ∧ Nums wr B m ys ∧ Below base w wr ∧ Limb.val ys = X / 10 ∧ z = X % 10 := by
  obtain ⟨cur, hl, hL, hB, hz, hv⟩ := h
  obtain ⟨B, c, rfl, hN, -, -⟩ := hL.form
  rw [List.drop_zero, List.drop_zero, Limb.val_canon] at hv
  refine ⟨B, c, cur, by rw [hl], by rw [hl] at hN; exact hN, hB, by omega, by omega⟩
theorem dlen_room {N m : Nat} (h : N < 4294967296 ^ m) : Dec.dlen N ≤ 10 * m + 1 := by
  obtain ⟨h1, h2, h3⟩ := Dec.dlen_is N
  rcases h3 with h3 | h3
  · omega
  · have := Dec.digits_room N m _ h h3
    omega
theorem empty_bytes {N : Nat} : (Dec.str (Dec.low N 0)).toList = [] := by
  rw [Lib.toList_data, Dec.str_data]; rfl
theorem ten_split (z x : Nat) (hz : z < 10) (hx : x < 4294967296) : ∃ q t : Nat, q < 4294967296 ∧ t < 10 ∧ 10 * q + t = z * 4294967296 + x ∧ ((z : Int) * 4294967296 + (x : Int)) / 10 = (q : Int) ∧ ((z : Int) * 4294967296 + (x : Int)) % 10 = (t : Int) :=
  ⟨(z * 4294967296 + x) / 10, (z * 4294967296 + x) % 10, by omega, by omega, by omega, by omega, by omega⟩
theorem len_more {N i : Nat} (h : N / 10 ^ i ≠ 0) : i + 1 ≤ Dec.dlen N := by
  obtain ⟨h1, h2, h3⟩ := Dec.dlen_is N
  rcases Nat.lt_or_ge i (Dec.dlen N) with h4 | h4
  · exact h4
  · exact absurd (Nat.div_eq_of_lt (Nat.lt_of_lt_of_le h2 (Nat.pow_le_pow_right (by omega) h4))) h
def RTx (N : Nat) (w : World) (i k : Nat) (va vb : Value) (wr : World) : Prop :=
  ∃ (X m c : Nat) (B : Option Addr), va = .slice B m c ∧ vb = .string (Dec.str (Dec.low N i)) ∧ X = N / 10 ^ i ∧ k = X + (if i = 0 then 1 else 0) ∧ i ≤ Dec.dlen N ∧ Nums wr B m (Limb.canon X) ∧ m ≤ c ∧ c ≤ 9223372036854775807 ∧ m ≤ 1099511627776 ∧ Below w.heap.size w wr
end Go.Proofs.YtakcgkohnomgjaaGreatDoor
