/- Texts of one seat, put together: Of Div DecMath Scale. -/
import Derived.Test.YtlihnagfmfpdcaaB05
import Derived.Test.YtlihnagfmfpdcaaB07
import Derived.Test.YtlihnagfmfpdcaaB13
import Derived.Test.YtlihnagfmfpdcaaB01
import Derived.Lib.Strings
/- nat.Of; the statements' own small calls. -/
namespace Go.Proofs.Ytlihnagfmfpdcaa
open Go.RowKit

theorem Row.new (w : World) (zs : List Nat) (us : Array Value) (h : us = (u32s zs).toArray) : Row (w.alloc (.cells us 59)) w.heap.size zs := by
  unfold Row; rw [h]; exact heap_alloc_new w _

set_option maxHeartbeats 400000 in
theorem of_any (N : Nat) (w : World) (h : N / 4294967296 < 4294967296) :
    Calls Try.prog 50 #[.int .u64 (N : Int)] w (CutPost N w) := by
  go_enter Try.func50, Try.ntmps50
  go_wp2_with fail
  have hr := Row.new w [N % 4294967296, N / 4294967296] #[.int .u32 ((N : Int) % 4294967296), .int .u32 ((N : Int) / 4294967296)] (by simp [u32s])
  refine (trimmed_row w.heap.size 2 2 N w.heap.size _ _ hr (Limb.Ok.cons (by omega) (Limb.Ok.cons h Limb.Ok.nil)) (by simp) (by omega) (by omega) (Nat.le_refl _) (by simp [Limb.val]; omega)).mono ?_
  rintro e w' ⟨A', m, rfl, how, rfl⟩
  go_wp2_with fail
  go_ret
  exact ⟨A', m, rfl, how, (Below.refl _ _).alloc (Nat.le_refl _) _⟩

theorem of_int (v : Int) (N : Nat) (w : World) (hv : v = (N : Int)) (h : N / 4294967296 < 4294967296) : Calls Try.prog 50 #[.int .u64 v] w (CutPost N w) := by
  subst hv; exact of_any N w h

/-- A small list that the statement writes out. -/
theorem Nums.new (w : World) (xs : List Nat) (us : Array Value) (h : us = (u32s xs).toArray) (ho : Limb.Ok xs) (n : Nat) (hn : n = xs.length) : Nums (w.alloc (.cells us 59)) (some ⟨w.heap.size, 0, none⟩) n xs := by
  subst hn
  have := (Row.new w xs us h).nums ho (o := 0) (n := xs.length) (by omega)
  simpa using this

def YesPost (w : World) (e : Ending) (w' : World) : Prop := e = .returned (.bool true) ∧ Below w.heap.size w w'
set_option maxHeartbeats 1000000 in
theorem lsame_yes (A B : Option Addr) (n m c d N : Nat) (w : World) (hx : Nums w A n (Limb.canon N)) (hy : Nums w B m (Limb.canon N)) (hn : n ≤ 9223372036854775807) :
    Calls Try.prog 12 #[.slice A n c, .slice B m d] w (YesPost w) := by
  obtain rfl : n = m := by rw [← hx.len, ← hy.len]
  have hlen := hx.len
  have HT := hide (Limb.tight_canon N)
  have HL := Lib.hid hlen
  clear hlen
  by_cases h0 : n = 0
  · subst h0
    go_enter Try.func12, Try.ntmps12
    go_wp2_with fail
    refine (same_yes A B 0 c d _ w hx hy hn).mono ?_
    rintro e w' ⟨rfl, k, rfl⟩
    go_wp2_with fail
    go_ret
    exact ⟨rfl, bl_drewN w k⟩
  · have h1 : ((n : Int) == 0) = false := by simp; omega
    have hpos : 1 ≤ n := by omega
    clear h0
    obtain ⟨b, o, x, hA, hxl, hxe, hc⟩ := hx.at_ (i := n - 1) (by omega)
    have hx0 : x ≠ 0 := by
      have hne : Limb.canon N ≠ [] := by intro hh; have := HL.out; rw [hh] at this; simp at this; omega
      have ht := HT.out hne
      rw [List.getLast_eq_getElem] at ht
      rw [hxe, List.getD_eq_getElem?_getD, List.getElem?_eq_getElem (by rw [HL.out]; omega)]
      simpa [HL.out] using ht
    have h2 : ((x : Int) != 0) = true := by simp; omega
    subst hA
    clear hxe hx0
    go_enter Try.func12, Try.ntmps12
    go_wp2_with fail
    refine (same_yes _ B n c d _ w hx hy hn).mono ?_
    rintro e w' ⟨rfl, k, rfl⟩
    go_wp2_with fail
    go_ret
    exact ⟨rfl, bl_drewN w k⟩

def short_post (b : Bool) (w : World) (e : Ending) (w' : World) : Prop := e = .returned (.bool b) ∧ w = w'
theorem short_yes (A B : Option Addr) (n c m d : Nat) (k : Int) (w : World) (h1 : (n : Int) ≤ k) (h2 : (m : Int) ≤ k) (hk : k ≤ 4294967296) :
    Calls Try.prog 11 #[.slice A n c, .slice B m d, .int .i64 k] w (short_post true w) := by
  go_enter Try.func11, Try.ntmps11
  go_wp2_with fail
  go_ret
  exact ⟨rfl, rfl⟩
theorem short_no (A B : Option Addr) (n c m d : Nat) (k : Int) (w : World) (hn : n ≤ 9223372036854775807) (hm : m ≤ 9223372036854775807) (h : k < (n : Int) ∨ k < (m : Int)) (hk : k ≤ 4294967296) :
    Calls Try.prog 11 #[.slice A n c, .slice B m d, .int .i64 k] w (short_post false w) := by
  by_cases h1 : (n : Int) ≤ k
  · have h2 : ¬ (m : Int) ≤ k := by omega
    clear h
    go_enter Try.func11, Try.ntmps11
    go_wp2_with fail
    go_ret
    exact ⟨rfl, rfl⟩
  · clear h
    go_enter Try.func11, Try.ntmps11
    go_wp2_with fail
    go_ret
    exact ⟨rfl, rfl⟩
end Go.Proofs.Ytlihnagfmfpdcaa
/- nat.divide, nat.Div, nat.Gcd. -/
namespace Go.Proofs.Ytlihnagfmfpdcaa
open Go.RowKit
open Limb (limb limb_lt upto upto_succ upto_all upto_zero)

theorem lt2 (a : Nat) (h : L a ≤ 2) : a / 4294967296 < 4294967296 := by
  have h1 := Nat.lt_of_lt_of_le (lt_L a) (Limb.pow_mono h)
  have : (4294967296 : Nat) ^ 2 = 4294967296 * 4294967296 := by rfl
  rw [this] at h1
  exact Nat.div_lt_of_lt_mul h1

theorem canon_one' (x : Nat) (h0 : x ≠ 0) (h : x < 4294967296) : Limb.canon x = [x] := by
  rw [Limb.canon_pos x h0]
  have e1 : x % 4294967296 = x := by omega
  have e2 : x / 4294967296 = 0 := by omega
  rw [e1, e2, Limb.canon_zero]
set_option maxHeartbeats 8000000 in
theorem divide_any (A B : Option Addr) (n c m d a b : Nat) (w : World) (hx : Nums w A n (Limb.canon a)) (hc : n ≤ c) (hm : c ≤ 9223372036854775807) (hy : Nums w B m (Limb.canon b)) (hd : m ≤ d) (hmd : d ≤ 9223372036854775807) (hn40 : n ≤ 549755813888) (hm40 : m ≤ 549755813888) (hb0 : b ≠ 0) :
    Calls Try.prog 86 #[.slice A n c, .slice B m d] w (TwoPost (a / b) (a % b) w) := by
  have hla : L a = n := hx.len
  have hlb : L b = m := hy.len
  have hm1 : 1 ≤ m := by
    rcases Nat.eq_zero_or_pos m with h | h
    · exact absurd ((Limb.canon_len_zero b).1 (by rw [h] at hlb; exact hlb)) hb0
    · exact h
  by_cases h1 : n < m
  · have hab : a < b := Limb.lt_of_len (by show L a < L b; omega)
    have H1 := hide (Nat.div_eq_of_lt hab)
    have H2 := hide (Nat.mod_eq_of_lt hab)
    clear hla hlb
    go_enter Try.func86, Try.ntmps86
    go_wp2_with fail
    refine (trim_any A n c _ w hx hc hm (by omega)).mono ?_
    rintro e w1 ⟨A1, n1, rfl, o1, b1⟩
    rw [Limb.val_canon] at o1
    go_wp2_with fail
    go_ret2
    exact ⟨none, 0, 0, A1, n1, n1, rfl, by rw [H1.out]; exact Own.zero _ _ _ _ (by omega), by rw [H2.out]; exact o1, b1⟩
  · by_cases h2 : n ≤ 2
    · have ha2 := lt2 a (by omega)
      have hb2 := lt2 b (by omega)
      have hqd : ((a : Int)) / (b : Int) = ((a / b : Nat) : Int) := (Int.natCast_ediv a b).symm
      have hqm : ((a : Int)) % (b : Int) = ((a % b : Nat) : Int) := (Int.natCast_emod a b).symm
      have HQD := Lib.hid hqd
      have HQM := Lib.hid hqm
      clear hqd hqm
      have hl1 : a / b / 4294967296 < 4294967296 := Nat.lt_of_le_of_lt (Nat.div_le_div_right (Nat.div_le_self a b)) ha2
      have hl2 : a % b / 4294967296 < 4294967296 := Nat.lt_of_le_of_lt (Nat.div_le_div_right (Nat.mod_le a b)) ha2
      have hb1 : (1 : Int) ≤ (b : Int) := by omega
      have hwr : IntKind.u64.wrap ((a : Int) / (b : Int)) = (a : Int) / (b : Int) := by
        have e2 := Nat.div_le_self a b
        have e3 : a ≤ 18446744073709551615 := by omega
        rw [HQD.out]
        generalize a / b = t at *
        exact IntWalk.u64_in _ ⟨by omega, by omega⟩
      have htm : (a : Int).tmod (b : Int) = (a : Int) % (b : Int) := Int.tmod_eq_emod_of_nonneg (by omega)
      have hne : ((b : Int) == 0) = false := by simp; omega
      clear hla hlb ha2 hb2
      go_enter Try.func86, Try.ntmps86
      go_wp2_with fail
      refine (word_any A n c _ w hx h2).mono ?_
      rintro e w' ⟨rfl, rfl⟩
      rw [Limb.val_canon]
      go_wp2_with fail
      refine (word_any B m d _ w hy (by omega)).mono ?_
      rintro e w' ⟨rfl, rfl⟩
      rw [Limb.val_canon]
      go_wp2_with fail
      go_region_with (first
        | (go_at_call 50; (with_reducible refine (of_int ((a : Int) / (b : Int)) (a / b) _ HQD.out hl1).mono ?_); rintro e w1 ⟨A1, n1, rfl, o1, b1⟩)
        | (go_at_call 50; (with_reducible refine (of_int ((a : Int) % (b : Int)) (a % b) _ HQM.out hl2).mono ?_); rintro e w2 ⟨A2, n2, rfl, o2, b2⟩))
      go_wp2_with fail
      go_ret2
      exact ⟨A1, n1, n1, A2, n2, n2, rfl, o1.below b2, o2.mono b1.size, (Below.refl w.heap.size w).drew.next (b1.next b2)⟩
    · have h2' : 2 < n := by omega
      by_cases h3 : m = 1
      · subst h3
        have hbl : b < 4294967296 := by have := lt_L b; rw [hlb, Nat.pow_one] at this; exact this
        have hcb : Limb.canon b = [b] := canon_one' b hb0 hbl
        obtain ⟨g0, o0, t, rfl, htl, hte, htc⟩ := hy.at_ (i := 0) (by omega)
        rw [hcb] at hte
        have htb : t = b := hte
        subst htb
        rw [Nat.add_zero] at htc
        have hy2 := hide hy
        clear hcb hte hy hlb
        go_enter Try.func86, Try.ntmps86
        go_wp2_with fail
        refine (trim_any A n c _ w hx hc hm (by omega)).mono ?_
        rintro e w1 ⟨A1, n1, rfl, o1, b1⟩
        rw [Limb.val_canon] at o1
        have htc1 := cell_later b1 htc
        have ha0 : a ≠ 0 := by intro h; subst h; have : L 0 = 0 := rfl; omega
        have hrow := o1.trimRow.2 ha0
        have hl1 : n1 = n := by rw [o1.len]; exact hla
        subst hl1
        obtain ⟨g, zs, rfl, hg, hr1, hzok, hzl, hwin⟩ := hrow
        have HW := Lib.hid hwin
        clear hwin hla htc o1
        go_wp2_with fail
        refine (divideBy_any g n1 n1 t zs w1 hr1 hzok hzl (by omega) (by omega) hbl).mono ?_
        rintro e w2 ⟨rfl, hr2, ho2⟩
        rw [HW.out, Limb.val_canon] at hr2
        rw [HW.out, Limb.val_canon]
        go_wp2_with fail
        refine (trimmed_row g n1 _ (a / t) w.heap.size _ _ hr2 (put_ok hzok _ (Limb.fixed_ok _ _)) (by rw [put_length _ _ _ (by rw [Limb.fixed_length]; omega)]; exact hzl) (Nat.le_refl _) (by omega) hg (by
          unfold put
          rw [List.take_zero, List.nil_append, List.take_append_of_le_length (by rw [Limb.fixed_length]; exact Nat.le_refl _), List.take_of_length_le (by rw [Limb.fixed_length]; exact Nat.le_refl _), Limb.fixed_val, Nat.mod_eq_of_lt]
          have := hx.lt
          rw [Limb.val_canon] at this
          exact Nat.lt_of_le_of_lt (Nat.div_le_self _ _) this)).mono ?_
        rintro e w' ⟨A', q', rfl, how, rfl⟩
        go_wp2_with fail
        have hwt : IntKind.u64.wrap ((a : Int) % (t : Int)) = ((a % t : Nat) : Int) := by
          have e1 : (a : Int) % (t : Int) = ((a % t : Nat) : Int) := (Int.natCast_emod a t).symm
          have e2 := Nat.mod_lt a (Nat.pos_of_ne_zero hb0)
          rw [e1]
          generalize a % t = u at *
          exact IntWalk.u64_in _ ⟨by omega, by omega⟩
        refine (of_int (IntKind.u64.wrap ((a : Int) % (t : Int))) (a % t) _ hwt (by have := Nat.mod_lt a (Nat.pos_of_ne_zero hb0); omega)).mono ?_
        clear hwt
        rintro e w4 ⟨A4, n4, rfl, o4, b4⟩
        go_wp2_with fail
        go_ret2
        have hB2 : Below w.heap.size w w2 := b1.trans (ho2.below b1.size hg)
        exact ⟨A', q', q', A4, n4, n4, rfl, how.below b4, o4.mono hB2.size, hB2.next b4⟩
      · obtain ⟨j, rfl⟩ : ∃ j, m = j + 2 := ⟨m - 2, by omega⟩
        clear hla hlb h3
        go_enter Try.func86, Try.ntmps86
        go_wp2_with fail
        refine (divideLong_any A B n c j d a b w hx hc hm hy hd hmd hn40 (by omega)).mono ?_
        rintro e w1 ⟨A1, n1, c1, B1, m1, d1, rfl, o1, o2, b1⟩
        go_wp2_with fail
        go_ret2
        exact ⟨A1, n1, c1, B1, m1, d1, rfl, o1, o2, b1⟩
end Go.Proofs.Ytlihnagfmfpdcaa
/- Decimal digits of plain numbers. -/
namespace Go.Proofs.Ytlihnagfmfpdcaa.Dec

/-- The lowest k decimal digits of N as bytes, the highest first. -/
def low (N : Nat) : Nat → List Nat
  | 0 => []
  | k + 1 => (48 + N / 10 ^ k % 10) :: low N k
theorem low_length (N k : Nat) : (low N k).length = k := by
  induction k with
  | zero => rfl
  | succ k ih => simp [low, ih]
theorem low_split (N b a : Nat) : low N (a + b) = low (N / 10 ^ b) a ++ low N b := by
  induction a with
  | zero => simp [low]
  | succ a ih =>
    have e : a + 1 + b = a + b + 1 := by omega
    rw [e, low, ih, low, List.cons_append, Nat.div_div_eq_div_mul, ← Nat.pow_add, Nat.add_comm b a]
theorem low_snoc (N k : Nat) : low N (k + 1) = low (N / 10) k ++ [48 + N % 10] := by
  rw [low_split N 1 k]; simp [low]
theorem low_byte (N k : Nat) : ∀ x ∈ low N k, 48 ≤ x ∧ x ≤ 57 := by
  induction k with
  | zero => intro x hx; simp [low] at hx
  | succ k ih =>
    intro x hx
    simp only [low, List.mem_cons] at hx
    rcases hx with rfl | hx
    · omega
    · exact ih x hx
theorem low_get (N k i : Nat) (h : i < k) : (low N k).getD i 0 = 48 + N / 10 ^ (k - 1 - i) % 10 := by
  induction k generalizing i with
  | zero => omega
  | succ k ih =>
    cases i with
    | zero => simp [low]
    | succ i =>
      have := ih i (by omega)
      have e : k + 1 - 1 - (i + 1) = k - 1 - i := by omega
      rw [e, ← this]
      simp [low]
theorem low_drop (N k j : Nat) (h : j ≤ k) : (low N k).drop j = low N (k - j) := by
  induction j generalizing k with
  | zero => simp
  | succ j ih =>
    obtain ⟨i, rfl⟩ : ∃ i, k = i + 1 := ⟨k - 1, by omega⟩
    have e : i + 1 - (j + 1) = i - j := by omega
    rw [low, List.drop_succ_cons, ih i (by omega), e]
theorem low_mod (N k j : Nat) (h : k ≤ j) : low (N % 10 ^ j) k = low N k := by
  induction k with
  | zero => rfl
  | succ k ih =>
    rw [low, low, ih (by omega)]
    congr 2
    obtain ⟨d, rfl⟩ : ∃ d, j = k + 1 + d := ⟨j - (k + 1), by omega⟩
    rw [Nat.pow_add, Nat.pow_succ, Nat.mul_assoc]
    rw [Nat.mod_mul_right_div_self, Nat.mod_mul_right_mod]

/-- N has k decimal digits (0 has one). -/
def IsLen (N k : Nat) : Prop := 1 ≤ k ∧ N < 10 ^ k ∧ (k = 1 ∨ 10 ^ (k - 1) ≤ N)
theorem isLen_le {N M j k : Nat} (h : IsLen N j) (h' : IsLen M k) (hle : N ≤ M) : j ≤ k := by
  rcases Nat.lt_or_ge k j with hlt | hge
  · rcases h.2.2 with h1 | h1
    · have := h'.1; omega
    · have h2 : 10 ^ k ≤ 10 ^ (j - 1) := Nat.pow_le_pow_right (by omega) (by omega)
      have := h'.2.1
      omega
  · exact hge
theorem isLen_uniq {N j k : Nat} (h : IsLen N j) (h' : IsLen N k) : j = k := by
  have h1 := isLen_le h h' (Nat.le_refl _)
  have h2 := isLen_le h' h (Nat.le_refl _)
  omega

/-- The number of the first i digits. -/
def upto (d : Nat → Nat) : Nat → Nat
  | 0 => 0
  | i + 1 => upto d i * 10 + d i
theorem upto_lt (d : Nat → Nat) (i : Nat) (h : ∀ j, j < i → d j ≤ 9) : upto d i < 10 ^ i := by
  induction i with
  | zero => simp [upto]
  | succ i ih =>
    have h1 := ih (fun j hj => h j (by omega))
    have h2 := h i (by omega)
    rw [upto, Nat.pow_succ]
    omega
theorem upto_low (N k : Nat) (hN : N < 10 ^ k) (d : Nat → Nat) (hd : ∀ i, i < k → d i = N / 10 ^ (k - 1 - i) % 10) : ∀ i, i ≤ k → upto d i = N / 10 ^ (k - i) := by
  intro i
  induction i with
  | zero => intro _; rw [upto, Nat.sub_zero, Nat.div_eq_of_lt hN]
  | succ i ih =>
    intro hi
    rw [upto, ih (by omega), hd i (by omega)]
    have e1 : k - i = k - (i + 1) + 1 := by omega
    have e2 : k - 1 - i = k - (i + 1) := by omega
    rw [e1, e2, Nat.pow_succ, ← Nat.div_div_eq_div_mul]
    omega
theorem limbs_room (i : Nat) : 10 ^ i < 4294967296 ^ (i / 9 + 1) := by
  have h1 : i ≤ 9 * (i / 9 + 1) := by omega
  have h2 : 10 ^ i ≤ 10 ^ (9 * (i / 9 + 1)) := Nat.pow_le_pow_right (by omega) h1
  refine Nat.lt_of_le_of_lt h2 ?_
  rw [Nat.pow_mul]
  exact Nat.pow_lt_pow_left (by omega) (by omega)
theorem digits_room (N m k : Nat) (hN : N < 4294967296 ^ m) (h : 10 ^ k ≤ N) : k < 10 * m := by
  rcases Nat.lt_or_ge k (10 * m) with h1 | h1
  · exact h1
  · have h2 : 10 ^ (10 * m) ≤ 10 ^ k := Nat.pow_le_pow_right (by omega) h1
    have h3 : 4294967296 ^ m ≤ 10 ^ (10 * m) := by
      rw [Nat.pow_mul]
      exact Nat.pow_le_pow_left (by omega) m
    omega
end Go.Proofs.Ytlihnagfmfpdcaa.Dec
/- nat.scale, nat.allDigits. -/
namespace Go.Proofs.Ytlihnagfmfpdcaa
open Go.RowKit
open Limb (limb limb_lt upto upto_succ upto_all upto_zero)

def ScRel (g f p : Nat) (zs : List Nat) (w : World) (k c : Nat) (wr : World) : Prop :=
  ∃ cur : List Nat, cur.length = zs.length ∧ Limb.Ok cur ∧ Row wr g cur ∧ Only g w wr ∧ (∀ t, k ≤ t → limb cur t = limb zs t) ∧ upto cur k + 4294967296 ^ k * c = upto zs k * f + p
theorem ScRel.start (g f p : Nat) (zs : List Nat) (w : World) (hz : Limb.Ok zs) (hr : Row w g zs) : ScRel g f p zs w 0 p w :=
  ⟨zs, rfl, hz, hr, Only.refl g w, fun _ _ => rfl, by rw [upto_zero, Nat.pow_zero]; omega⟩
theorem sc_alg (U V B z f p s c c' : Nat) (h : U + B * c = V * f + p) (hs : s + 4294967296 * c' = z * f + c) : U + B * s + B * 4294967296 * c' = (V + B * z) * f + p := by
  have e1 : B * (s + 4294967296 * c') = B * (z * f + c) := by rw [hs]
  rw [Nat.mul_add, Nat.mul_add] at e1
  rw [Nat.add_mul, Nat.mul_assoc B z f, Nat.mul_assoc B 4294967296 c']
  omega
theorem ScRel.at_ {g f p : Nat} {zs : List Nat} {w : World} {k c : Nat} {wr : World} (h : ScRel g f p zs w k c wr) (hk : k < zs.length) (hok : Limb.Ok zs) :
    ∃ z : Nat, z < 4294967296 ∧ wr.cell? ⟨g, k, none⟩ = some (.int .u32 (z : Int)) ∧ wr.frozen? ⟨g, k, none⟩ = false ∧
      ∀ s c' : Nat, s < 4294967296 → s + 4294967296 * c' = z * f + c → ScRel g f p zs w (k + 1) c' (wr.setCell ⟨g, k, none⟩ (.int .u32 (s : Int))) := by
  obtain ⟨cur, hl, ho, hr, hon, he, hv⟩ := h
  refine ⟨limb zs k, limb_lt hok k, ?_, hr.frozen _, fun s c' hs hsc => ?_⟩
  · rw [hr.cell (i := k) (by omega), ← he k (Nat.le_refl _)]; rfl
  · refine ⟨cur.set k s, by simp [hl], ho.set k s hs, hr.set_ _ _, hon.setCell _ _, fun t ht => ?_, ?_⟩
    · rw [limb_set_ne _ _ _ _ (by omega)]; exact he t (by omega)
    · rw [upto_succ, upto_succ, upto_set, limb_set_self _ _ _ (by omega), Nat.pow_succ]
      exact sc_alg _ _ _ _ _ _ _ _ _ hv hsc
def ScPost (g f p : Nat) (zs : List Nat) (w : World) (e : Ending) (w' : World) : Prop :=
  ∃ (cur : List Nat) (cy : Nat), e = .returned (.tuple #[]) ∧ cur.length = zs.length ∧ Limb.Ok cur ∧ Row w' g cur ∧ Only g w w' ∧ Hid (Limb.val cur + 4294967296 ^ zs.length * cy = Limb.val zs * f + p)

set_option maxHeartbeats 1000000 in
theorem scale_any (g c f p : Nat) (zs : List Nat) (w : World) (hr : Row w g zs) (hz : Limb.Ok zs) (hc : zs.length ≤ 4611686018427387904) (hf : f < 4294967296) (hp : p < 4294967296) :
    Calls Try.prog 57 #[.slice (some ⟨g, 0, none⟩) zs.length c, .int .u32 (f : Int), .int .u32 (p : Int)] w (ScPost g f p zs w) := by
  have R := hide (ScRel.start g f p zs w hz hr)
  obtain ⟨m, hm⟩ : ∃ m, zs.length = m := ⟨_, rfl⟩
  have HM := hide hm
  rw [hm] at hc ⊢
  clear hr hm
  go_enter Try.func57, Try.ntmps57
  go_wp2_with fail
  go_loopw [6, 13] (fun c i wr => ∃ k z : Nat, k ≤ m ∧ z < 4294967296 ∧ i = .int .i64 (k : Int) ∧ c = .int .u64 (z : Int) ∧ Hid (ScRel g f p zs w k z wr)) (fun _ i _ => m - (intOf i).toNat)
  case atStart => exact ⟨0, p, Nat.zero_le _, hp, rfl, rfl, R⟩
  case round =>
    clear R
    obtain ⟨k, z, hk, hz1, rfl, rfl, R⟩ := hrel
    by_cases hkm : k < m
    · obtain ⟨zz, hzz, hcell, hfroz, hstep⟩ := R.out.at_ (by rw [HM.out]; exact hkm) hz
      have hpn := prod_le _ _ hzz hf
      obtain ⟨hp1, hp2, hp3⟩ := prod_int _ _ hzz hf
      have HP := Lib.hid hp3
      have HS := hide hstep
      clear hstep hp3
      go_wp2_with fail
      have es : ((z : Int) + (zz : Int) * (f : Int)) % 4294967296 = (((zz * f + z) % 4294967296 : Nat) : Int) := by have := HP.out; omega
      have ec : ((z : Int) + (zz : Int) * (f : Int)) / 4294967296 = (((zz * f + z) / 4294967296 : Nat) : Int) := by have := HP.out; omega
      rw [es, ec]
      clear es ec
      go_roundw
      case rel => exact ⟨k + 1, _, by omega, by omega, by go_num, rfl, HS.out _ _ (by omega) (by omega)⟩
      case measure => simp [intOf]; omega
    · obtain rfl : k = m := by omega
      clear hkm
      go_wp2_with fail
      go_end0
      obtain ⟨cur, hl, ho, hr, hon, -, hv⟩ := R.out
      exact ⟨cur, z, rfl, hl, ho, hr, hon, by show _ = _; rw [upto_all cur k (by rw [hl, HM.out]; exact Nat.le_refl _), upto_all zs k (by rw [HM.out]; exact Nat.le_refl _)] at hv; rw [HM.out]; exact hv⟩

/-- Byte i of a text. -/
def byteAt (s : ByteArray) (i : Nat) : Nat := if h : i < s.size then (s[i]'h).toNat else 0
theorem byteAt_eq (s : ByteArray) (i : Nat) (h : i < s.size) : byteAt s i = (s[i]'h).toNat := by unfold byteAt; rw [dif_pos h]
theorem byteAt_lt (s : ByteArray) (i : Nat) : byteAt s i < 256 := by
  unfold byteAt
  split
  · exact UInt8.toNat_lt _
  · omega
def allDig (s : ByteArray) : Prop := ∀ i, i < s.size → 48 ≤ byteAt s i ∧ byteAt s i ≤ 57
theorem isEmpty_size (s : ByteArray) : s.toList.isEmpty = decide (s.size = 0) := by
  rw [Lib.toList_data]
  have h : s.data.toList.length = s.size := by simp
  cases hl : s.data.toList with
  | nil => rw [hl] at h; simp at h; simp [← h]
  | cons x xs => rw [hl] at h; simp at h; rw [decide_eq_false (by omega)]; rfl
set_option maxHeartbeats 1000000 in
theorem allDigits_any (s : ByteArray) (b : Bool) (w : World) (hs : s.size ≤ 4611686018427387904) (hb : b = true ↔ allDig s ∧ s.size ≠ 0) :
    Calls Try.prog 56 #[.string s] w (BoolPost b w) := by
  have HB := hide hb
  clear hb
  go_enter Try.func56, Try.ntmps56
  go_wp2_with fail
  go_loop [3, 6] (fun _ i => ∃ k : Nat, k ≤ s.size ∧ i = .int .i64 (k : Int) ∧ Hid (∀ j, j < k → 48 ≤ byteAt s j ∧ byteAt s j ≤ 57)) (fun _ i => s.size - (intOf i).toNat)
  case atStart => exact ⟨0, Nat.zero_le _, rfl, fun j hj => absurd hj (by omega)⟩
  case round =>
    obtain ⟨k, hk, rfl, HD⟩ := hrel
    by_cases hkn : k < s.size
    · have hbe := byteAt_eq s k hkn
      by_cases hd : 48 ≤ byteAt s k ∧ byteAt s k ≤ 57
      · have hd2 := hide hd
        rw [hbe] at hd
        have g1 : (48 : Int) ≤ ((s[k]'hkn).toNat : Int) := by omega
        have g2 : ((s[k]'hkn).toNat : Int) ≤ 57 := by omega
        clear hd hbe
        go_wp2_with fail
        go_round
        case rel => exact ⟨k + 1, by omega, by go_num, fun j hj => by
          rcases Nat.eq_or_lt_of_le (Nat.le_of_lt_succ hj) with h | h
          · subst h; exact hd2.out
          · exact HD.out j h⟩
        case measure => simp [intOf]; omega
      · have hb0 : b = false := by
          cases b with
          | false => rfl
          | true => exact absurd ((HB.out.1 rfl).1 k hkn) hd
        subst hb0
        rw [hbe] at hd
        by_cases g1 : (48 : Int) ≤ ((s[k]'hkn).toNat : Int)
        · have g2 : ¬ ((s[k]'hkn).toNat : Int) ≤ 57 := by omega
          clear hd hbe
          go_wp2_with fail
          go_ret
          exact ⟨rfl, 0, rfl⟩
        · clear hd hbe
          go_wp2_with fail
          go_ret
          exact ⟨rfl, 0, rfl⟩
    · obtain rfl : k = s.size := by omega
      go_wp2_with fail
      go_ret
      refine ⟨?_, 0, rfl⟩
      show Ending.returned (.bool (!s.toList.isEmpty)) = _
      rw [isEmpty_size]
      by_cases h0 : s.size = 0
      · have hb0 : b = false := by
          cases b with
          | false => rfl
          | true => exact absurd h0 (HB.out.1 rfl).2
        rw [hb0, decide_eq_true h0]; rfl
      · rw [HB.out.2 ⟨fun i hi => HD.out i hi, h0⟩, decide_eq_false h0]; rfl
end Go.Proofs.Ytlihnagfmfpdcaa
