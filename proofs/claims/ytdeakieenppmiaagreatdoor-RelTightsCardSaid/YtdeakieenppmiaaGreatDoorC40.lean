/- Texts of one seat, put together: TextN RefMath RefText TextZ. -/
import Derived.Test.YtdeakieenppmiaaGreatDoorC39
import Derived.Test.YtdeakieenppmiaaGreatDoorC10
import Derived.Test.YtdeakieenppmiaaGreatDoorC05
import Derived.Test.YtdeakieenppmiaaGreatDoorC15
set_option linter.unusedVariables false
set_option linter.unusedSimpArgs false
set_option maxRecDepth 100000
set_option maxHeartbeats 16000000
/- nat.Text: the walk. -/
namespace Go.Proofs.YtdeakieenppmiaaGreatDoor
open Go.RowKit
open Limb (limb limb_lt upto upto_succ upto_all upto_zero)

def TextPost (N : Nat) (w : World) (e : Ending) (w' : World) : Prop := e = .returned (.string (Dec.text N)) ∧ Below w.heap.size w w'
theorem row_ne {w : World} {g k : Nat} {bs zs : List Nat} (h : BRow w g bs) (h' : Row w k zs) : g ≠ k := by
 rintro rfl
 unfold BRow at h; unfold Row at h'
 rw [h] at h'
 injection h' with h'
 injection h' with _ ht
 exact absurd ht (by decide)
theorem Own.rowOf {w : World} {base : Nat} {A : Option Addr} {n c N : Nat} (h : Own w base A n c N) (h0 : N ≠ 0) : ∃ g zs, A = some ⟨g, 0, none⟩ ∧ base ≤ g ∧ Row w g zs ∧ Limb.Ok zs ∧ c ≤ zs.length ∧ zs.take n = Limb.canon N := h.2.2.2 h0
theorem TxRel.only {gT T N d r : Nat} {w wr : World} (h : TxRel gT T N d w) (ho : Only r w wr) (hne : gT ≠ r) : TxRel gT T N d wr := by
 obtain ⟨bs, hl, hd, hr, hv⟩ := h
 exact ⟨bs, hl, hd, hr.other ho hne, hv⟩
theorem TxRel.stepAt {gT T N d r D : Nat} {wr : World} (h : TxRel gT T N d wr) (hr : r + (d + 1) = T) (hD : D = N / 10 ^ d % 10) : TxRel gT T N (d + 1) (wr.setCell ⟨gT, r, none⟩ (.int .u8 ((48 + D : Nat) : Int))) := by
 have h1 := h.step (by omega)
 have e : T - (d + 1) = r := by omega
 rw [e, ← hD] at h1
 exact h1
theorem TxRel.start {gT T N : Nat} {w : World} (h : BRow w gT (List.replicate T 0)) : TxRel gT T N 0 w := ⟨_, by simp, Nat.zero_le _, h, by simp [Dec.low]⟩
theorem TxRel.row {gT T N d : Nat} {w : World} (h : TxRel gT T N d w) : ∃ bs, BRow w gT bs := by
 obtain ⟨bs, _, _, hr, _⟩ := h
 exact ⟨bs, hr⟩
theorem Own.ownOnly {w w' : World} {base : Nat} {A : Option Addr} {n c X gT T N d : Nat} (h : Own w base A n c X) (ho : Only gT w w') (ht : TxRel gT T N d w) : Own w' base A n c X := by
 rcases Nat.eq_zero_or_pos X with h0 | h0
 · subst h0
   exact ⟨h.1, h.2.1, h.2.2.1, fun hh => absurd rfl hh⟩
 · obtain ⟨g, zs, rfl, hg, hr, hz⟩ := h.rowOf (by omega)
   obtain ⟨bs, hb⟩ := ht.row
   exact h.grown ho (fun ad had he => row_ne hb hr (by injection had with had; subst had; exact he.symm))
theorem dlen_le {N k : Nat} (h : N < 10 ^ k) (hk : 1 ≤ k) : Dec.dlen N ≤ k := by
 obtain ⟨h1, h2, h3⟩ := Dec.dlen_is N
 rcases h3 with h3 | h3
 · omega
 · rcases Nat.lt_or_ge k (Dec.dlen N) with h4 | h4
   · have := Nat.pow_le_pow_right (show 0 < 10 by omega) (show k ≤ Dec.dlen N - 1 by omega)
     omega
   · exact h4
theorem TxRel.conv {gT T N d r c : Nat} {wr : World} (h : TxRel gT T N d wr) (hr : r + Dec.dlen N = T) (hd : Dec.dlen N ≤ d) :
  (convert 124 9 (.slice (some ⟨gT, r, none⟩) (Dec.dlen N) c)).run Tryz.prog wr = .ok (.string (Dec.text N)) wr := by
 obtain ⟨bs, hl, hdT, hb, hv⟩ := h
 have h1 : bs.drop r = Dec.low N (Dec.dlen N) := by
  have h2 := Dec.low_drop N d (d - Dec.dlen N) (by omega)
  rw [← hv, List.drop_drop, show T - d + (d - Dec.dlen N) = r by omega, show d - (d - Dec.dlen N) = Dec.dlen N by omega] at h2
  exact h2
 refine run_convert_bytes_arg wr _ 5 Tryz.underlying124 Tryz.underlying5 gT r (Dec.dlen N) c ((Dec.low N (Dec.dlen N)).map fun (x : Nat) => (x : Int)) (by rw [List.length_map, Dec.low_length]) (fun i hi => ?_) _ Tryz.underlying9
 rw [hb.cell (by omega)]
 have e : bs.getD (r + i) 0 = (Dec.low N (Dec.dlen N)).getD i 0 := by rw [← h1]; simp [List.getD_eq_getElem?_getD, List.getElem?_drop]
 rw [e]
 have hi2 : i < (Dec.low N (Dec.dlen N)).length := by rw [Dec.low_length]; exact hi
 simp [List.getD_eq_getElem?_getD, List.getElem?_eq_getElem hi2]
theorem win_from0 (zs : List Nat) (m : Nat) : win zs 0 m = zs.take m := by unfold win; rw [List.drop_zero]
theorem put_fixed_val (zs : List Nat) (m X : Nat) (h : X < 4294967296 ^ m) : Limb.val ((put zs 0 (Limb.fixed m X)).take m) = X := by
 unfold put
 rw [List.take_zero, List.nil_append, List.take_append_of_le_length (by rw [Limb.fixed_length]; exact Nat.le_refl _), List.take_of_length_le (by rw [Limb.fixed_length]; exact Nat.le_refl _), Limb.fixed_val, Nat.mod_eq_of_lt h]

theorem natText_zero (A : Option Addr) (n c : Nat) (xs : List Nat) (w : World) (hx : Nums w A n xs) (hc : n ≤ c) (hm : c ≤ 9223372036854775807) (hn : n ≤ 1099511627776) (h0 : Limb.val xs = 0) :
  Calls Tryz.prog 155 #[.slice A n c] w (TextPost 0 w) := by
 have ht := trim_any A n c xs w hx hc hm hn
 unfold TrimPost at ht
 rw [h0] at ht
 clear h0
 go_enter Tryz.func155, Tryz.ntmps155
 go_wp2_with fail
 refine ht.mono ?_
 rintro e w1 ⟨A1, n1, rfl, o1, b1⟩
 obtain rfl : n1 = 0 := o1.len
 go_wp2_with fail
 go_ret
 refine ⟨?_, b1⟩
 have e1 : Dec.dlen 0 = 1 := by rw [Dec.dlen]; rfl
 show Ending.returned (.string _) = .returned (.string (Dec.str (Dec.low 0 (Dec.dlen 0))))
 rw [e1]
 rfl

theorem natText_pos (A : Option Addr) (n c : Nat) (xs : List Nat) (w : World) (hx : Nums w A n xs) (hc : n ≤ c) (hm : c ≤ 9223372036854775807) (hn : n ≤ 1099511627776) (h0 : Limb.val xs ≠ 0) :
  Calls Tryz.prog 155 #[.slice A n c] w (TextPost (Limb.val xs) w) := by
 have ht := trim_any A n c xs w hx hc hm hn
 have hNlt := hx.lt
 generalize Limb.val xs = N at *
 have HN0 := hide h0
 clear h0
 go_enter Tryz.func155, Tryz.ntmps155
 go_wp2_with fail
 refine ht.mono ?_
 rintro e w1 ⟨A1, n1, rfl, o1, b1⟩
 have hn1 : n1 ≤ n := short_canon o1.nums hNlt
 have hn0 : 0 < n1 := by
  rcases Nat.eq_zero_or_pos n1 with h | h
  · exact absurd ((Limb.canon_len_zero N).1 (by rw [← o1.len]; exact h)) HN0.out
  · exact h
 have hne : ((n1 : Int) == 0) = false := by simp; omega
 have hlt1 := hide o1.nums.lt
 rw [Limb.val_canon] at hlt1
 clear ht hNlt hx
 obtain ⟨T, hT⟩ : ∃ T : Nat, T = n1 * 10 + 9 := ⟨_, rfl⟩
 have eT : (n1 : Int) * 10 + 9 = (T : Int) := by omega
 have hT9 : T ≤ 35184372088832 := by omega
 have HT := hide hT
 clear hT
 go_wp2_with (at_make; refine wpList_make_u8 _ rfl _ _ rfl _ T rfl rfl (by omega) (by omega) ?_; intro w2 hr2 hb2 hs2)
 have o2 := o1.below hb2
 have t2 := b1.next hb2
 have hg : w.heap.size ≤ w1.heap.size := b1.size
 generalize w1.heap.size = gT at *
 clear o1 b1 hb2 hne eT
 go_wp2_with fail
 go_loopg [3, 5] N (fun k va vb wr => ∃ (i r p : Nat) (B : Option Addr), va = .slice B p p ∧ vb = .int .i64 (r : Int) ∧ Hid (k = N / 10 ^ (9 * i)) ∧ Hid (r + 9 * i = T) ∧ Own wr w.heap.size B p p k ∧ Hid (TxRel gT T N (9 * i) wr) ∧ Below w.heap.size w wr ∧ p ≤ 1099511627776 ∧ r ≤ T)
 case atStart => exact ⟨0, T, n1, A1, rfl, rfl, by show _ = _; simp, by show _ = _; omega, o2, TxRel.start hr2, t2, by omega, Nat.le_refl _⟩
 case round =>
  clear hr2 o2 t2
  obtain ⟨i, r, p, B, rfl, rfl, HK, HR, o3, HT3, t3, hp, hrT⟩ := hrel
  by_cases hk0 : gk = 0
  · subst hk0
    obtain rfl : p = 0 := o3.len
    have hNi := hide (show N < 10 ^ (9 * i) by
     have h1 := HK.out
     rcases Nat.lt_or_ge N (10 ^ (9 * i)) with h2 | h2
     · exact h2
     · have := Nat.div_pos h2 (Nat.pow_pos (by omega)); omega)
    have hi1 : 1 ≤ i := by
     rcases Nat.eq_zero_or_pos i with h | h
     · subst h; have h1 := hNi.out; have h2 := HN0.out; simp at h1; omega
     · exact h
    have hdl := hide (dlen_le hNi.out (by omega))
    have htop := hide (Dec.top_digit N _ (Dec.dlen_is N) HN0.out)
    have hd1 := Dec.dlen_pos N
    have hNd := hide (Dec.dlen_is N).2.1
    have hconv := hide (fun (r2 c : Nat) (hr : r2 + Dec.dlen N = T) => HT3.out.conv (c := c) hr hdl.out)
    generalize Dec.dlen N = D at *
    have HR9 := HR.out
    have hdl2 := hdl.out
    go_wp2_with fail
    go_loop [5] (fun s => ∃ r2 : Nat, s = .int .i64 (r2 : Int) ∧ r2 < T ∧ Hid (r ≤ r2 ∧ r2 + D ≤ T)) (fun s => T - (intOf s).toNat)
    case atStart => exact ⟨r, rfl, by omega, by omega, by omega⟩
    case round =>
     clear HR9 hdl2
     obtain ⟨r2, rfl, hr2, HR2⟩ := hrel
     obtain ⟨d, hd⟩ : ∃ d, d = T - (r2 + 1) := ⟨_, rfl⟩
     have hcell := HT3.out.digit d (by have := HR2.out; have := HR.out; omega)
     rw [show T - (d + 1) = r2 by omega] at hcell
     by_cases hlast : r2 + D = T
     · have hdig := htop.out
       rw [show D - 1 = d by omega] at hdig
       have hcv := hconv.out r2 D hlast
       generalize N / 10 ^ d % 10 = dd at *
       obtain ⟨ch, hch⟩ : ∃ ch, ch = 48 + dd := ⟨_, rfl⟩
       rw [← hch] at hcell
       have htest : ((ch : Int) == 48) = false := by simp; omega
       have hne1 : ¬ T = r2 := by omega
       have eD : T - r2 = D := by omega
       clear hdig hlast hd hch
       go_wp2_with fail
       go_ret
       exact ⟨rfl, t3⟩
     · have hz := Dec.digit_beyond N D d hNd.out (by have := HR2.out; omega)
       rw [hz] at hcell
       clear hz hd
       go_wp2_with fail
       go_round
       case rel => exact ⟨r2 + 1, by go_num, by have := HR2.out; omega, by have := HR2.out; omega, by have := HR2.out; omega⟩
       case measure => simp [intOf]; omega
  · have hp0 : 0 < p := by
     rcases Nat.eq_zero_or_pos p with h | h
     · exact absurd ((Limb.canon_len_zero gk).1 (by rw [← o3.len]; exact h)) hk0
     · exact h
    have hplt := hide o3.nums.lt
    rw [Limb.val_canon] at hplt
    obtain ⟨g, zs, rfl, hgb, hrow, hzok, hzl, hzt⟩ := o3.rowOf hk0
    have hdb := divideBy_any g p p 1000000000 zs wr hrow hzok hzl (by omega) (by omega) (by omega)
    unfold DBPost at hdb
    rw [win_from0, hzt, Limb.val_canon] at hdb
    have hX := hide (put_fixed_val zs p (gk / 1000000000) (Nat.lt_of_le_of_lt (Nat.div_le_self _ _) hplt.out))
    have hroom := hide (Dec.group_room N n1 i hlt1.out (by rw [← HK.out]; exact hk0))
    have hgT := hide (row_ne HT3.out.row.choose_spec hrow)
    have hok2 := put_ok hzok 0 (Limb.fixed_ok p (gk / 1000000000))
    have hlen2 := hide (put_length zs 0 (Limb.fixed p (gk / 1000000000)) (by rw [Limb.fixed_length]; omega))
    have HK0 := hide hk0
    have hml := hide (Nat.div_lt_self (Nat.pos_of_ne_zero hk0) (show 1 < 1000000000 by omega))
    have hq9 : gk % 1000000000 < 1000000000 := Nat.mod_lt _ (by omega)
    have hq0 := hide (show gk % 1000000000 = gk % 1000000000 / 10 ^ 0 by simp)
    generalize put zs 0 (Limb.fixed p (gk / 1000000000)) = us at *
    generalize hqq : gk % 1000000000 = qq at *
    have HQQ := hide hqq
    clear hk0 o3 hzt hqq
    obtain ⟨wo, rfl⟩ : ∃ wo : World, wo = wr := ⟨_, rfl⟩
    go_wp2_with fail
    refine hdb.mono ?_
    rintro e w3 ⟨rfl, hrow3, hon3⟩
    have HT4 := hide (HT3.out.only hon3 hgT.out)
    have t4 := t3.trans (hon3.below t3.size hgb)
    clear hdb HT3 t3 hrow hon3
    go_wp2_with fail
    refine (trimmed_row g p p (gk / 1000000000) w.heap.size us w3 hrow3 hok2 (by rw [hlen2.out]; exact hzl) (Nat.le_refl _) (by omega) hgb hX.out).mono ?_
    rintro e w' ⟨A5, m5, rfl, o5, rfl⟩
    go_wp2_with fail
    have hm5 : m5 ≤ p := short_canon o5.nums (Nat.lt_of_le_of_lt (Nat.div_le_self _ _) hplt.out)
    go_loopw [5, 6, 26] (fun s q c wq => ∃ j r2 q2 : Nat, j ≤ 9 ∧ s = .int .i64 (r2 : Int) ∧ q = .int .u32 (q2 : Int) ∧ c = .int .i64 (j : Int) ∧ q2 ≤ 999999999 ∧ r2 ≤ T ∧ Hid (r2 + (9 * i + j) = T) ∧ Hid (q2 = qq / 10 ^ j) ∧ Hid (TxRel gT T N (9 * i + j) wq) ∧ Hid (Only gT w3 wq)) (fun _ _ c _ => 9 - (intOf c).toNat)
    case atStart => exact ⟨0, r, qq, by omega, rfl, rfl, rfl, by omega, hrT, by show _ = _; have := HR.out; omega, by show _ = _; simp, HT4.out, Only.refl _ _⟩
    case round =>
     obtain ⟨j, r2, q2, hj, rfl, rfl, rfl, hq2, hr2T, HR2, HQ2, HT5, HO5⟩ := hrel
     by_cases hj9 : j < 9
     · obtain ⟨r3, rfl⟩ : ∃ r3, r2 = r3 + 1 := ⟨r2 - 1, by have h1 := HR2.out; have h2 := hroom.out; have h3 := HT.out; omega⟩
       obtain ⟨b0, hcell, hfroz⟩ := HT5.out.cell r3 (by omega)
       have hstep := hide (HT5.out.stepAt (r := r3) (D := q2 % 10) (by have := HR2.out; omega) (by rw [HQ2.out, ← HQQ.out, HK.out, Dec.group_digit N i j hj9]))
       have hq3 := hide (show q2 / 10 = qq / 10 ^ (j + 1) by rw [HQ2.out, Nat.pow_succ, Nat.div_div_eq_div_mul])
       go_wp2_with fail
       have es : ((48 : Int) + (q2 : Int) % 10) = ((48 + q2 % 10 : Nat) : Int) := by omega
       have eq3 : (q2 : Int) / 10 = ((q2 / 10 : Nat) : Int) := by omega
       rw [es, eq3]
       clear es eq3
       go_roundw
       case rel => exact ⟨j + 1, r3, q2 / 10, by omega, rfl, rfl, by go_num, by omega, by omega, by show _ = _; have := HR2.out; omega, hq3.out, hstep.out, HO5.out.setCell _ _⟩
       case measure => simp [intOf]; omega
     · obtain rfl : j = 9 := by omega
       go_wp2_with fail
       go_roundg (gk / 1000000000)
       case rel => exact ⟨i + 1, r2, m5, A5, rfl, rfl, by show _ = _; rw [HK.out]; exact Dec.div_group N i, by show _ = _; have := HR2.out; omega, o5.ownOnly HO5.out HT4.out, HT5.out, t4.trans (HO5.out.below t4.size hg), by omega, hr2T⟩
       case measure => exact hml.out
theorem natText_any (A : Option Addr) (n c : Nat) (xs : List Nat) (w : World) (hx : Nums w A n xs) (hc : n ≤ c) (hm : c ≤ 9223372036854775807) (hn : n ≤ 1099511627776) :
   Calls Tryz.prog 155 #[.slice A n c] w (TextPost (Limb.val xs) w) := by
 by_cases h0 : Limb.val xs = 0
 · rw [h0]; exact natText_zero A n c xs w hx hc hm hn h0
 · exact natText_pos A n c xs w hx hc hm hn h0
end Go.Proofs.YtdeakieenppmiaaGreatDoor
/- A row of zeros with one more. -/
namespace Go.Proofs.YtdeakieenppmiaaGreatDoor
end Go.Proofs.YtdeakieenppmiaaGreatDoor
/- plumblineref01.Text. -/
namespace Go.Proofs.YtdeakieenppmiaaGreatDoor
open Go.RowKit
open Limb (limb limb_lt upto upto_succ upto_all upto_zero)

/-- The loop that divides by ten. -/
def DTRel (X m base : Nat) (v : Value) (w : World) (k z : Nat) (wr : World) : Prop :=
 ∃ cur : List Nat, cur.length = m ∧ Lst wr base v cur ∧ Below base w wr ∧ z < 10 ∧ Limb.val ((Limb.canon X).drop k) = 10 * Limb.val (cur.drop k) + z
theorem dlen_room {N m : Nat} (h : N < 4294967296 ^ m) : Dec.dlen N ≤ 10 * m + 1 := by
 obtain ⟨h1, h2, h3⟩ := Dec.dlen_is N
 rcases h3 with h3 | h3
 · omega
 · have := Dec.digits_room N m _ h h3
   omega
def RTx (N : Nat) (w : World) (i k : Nat) (va vb : Value) (wr : World) : Prop :=
 ∃ (X m c : Nat) (B : Option Addr), va = .slice B m c ∧ vb = .string (Dec.str (Dec.low N i)) ∧ X = N / 10 ^ i ∧ k = X + (if i = 0 then 1 else 0) ∧ i ≤ Dec.dlen N ∧ Nums wr B m (Limb.canon X) ∧ m ≤ c ∧ c ≤ 9223372036854775807 ∧ m ≤ 1099511627776 ∧ Below w.heap.size w wr
end Go.Proofs.YtdeakieenppmiaaGreatDoor
/- zint.Text, plumblineref02.Text. -/
namespace Go.Proofs.YtdeakieenppmiaaGreatDoor
open Go.RowKit

def ztext (Z : Int) : ByteArray := if Z < 0 then ⟨#[45]⟩ ++ Dec.text Z.natAbs else Dec.text Z.natAbs
theorem ztext_neg {Z : Int} (h : Z < 0) : ztext Z = ⟨#[45]⟩ ++ Dec.text Z.natAbs := by unfold ztext; rw [if_pos h]
theorem ztext_pos {Z : Int} (h : ¬ Z < 0) : ztext Z = Dec.text Z.natAbs := by unfold ztext; rw [if_neg h]
def ZTextPost (Z : Int) (w : World) (e : Ending) (w' : World) : Prop := e = .returned (.string (ztext Z)) ∧ Below w.heap.size w w'
theorem text_room {Z : Int} {k : Nat} (h : Z.natAbs < 4294967296 ^ k) (hk : k ≤ 1099511627776) : (⟨#[45]⟩ : ByteArray).size + (Dec.text Z.natAbs).size ≤ 9223372036854775807 := by
 rw [Dec.text_size]
 have := dlen_room h
 show 1 + _ ≤ _
 omega
theorem ztext_z (v : Value) (Z : Int) (k : Nat) (w : World) (hv : ZIn w v Z k) (hk : k ≤ 1099511627776) : Calls Tryz.prog 107 #[v] w (ZTextPost Z w) := by
 have hv0 := hv
 have hroom := text_room hv.lt hk
 obtain ⟨s, A, n, c, xs, rfl, hx, hc, hm, hn, hZ⟩ := hv
 obtain ⟨z1, z2, z3⟩ := zstart1 w #[.bool s, .slice A n c]
 have ht := natText_any A n c xs _ (hx.below z2) hc hm (by omega)
 unfold TextPost at ht
 rw [ZIn.abs hZ] at ht
 have HS := hide (fun W (hb : Below w.heap.size w W) => sign_z _ Z k W (hv0.below hb) hk)
 unfold SignPost at HS
 have HN := hide (fun (h : Z < 0) => ztext_neg h)
 have HP := hide (fun (h : ¬ Z < 0) => ztext_pos h)
 clear hx hZ hv0
 generalize Dec.text Z.natAbs = d at *
 by_cases h0 : Z < 0
 · have hs : Z.sign < 0 := by rw [Int.sign_eq_neg_one_of_neg h0]; omega
   have HE := HN.out h0
   generalize Z.sign = sgn at *
   have HE2 := hide HE
   clear h0 HE HN HP
   go_enter Tryz.func107, Tryz.ntmps107
   go_wp2_with fail
   refine ht.mono ?_
   rintro e w1 ⟨rfl, b1⟩
   have k1 := z1.next b1
   have k1a := k1.c0
   have k1b := k1.c1
   have t1 := z2.next b1
   clear ht
   go_wp2_with fail
   refine (HS.out w1 t1).mono ?_
   rintro e w2 ⟨rfl, b2⟩
   clear k1a k1b
   go_wp2_with fail
   go_ret
   exact ⟨by rw [HE2.out]; rfl, t1.next b2⟩
 · have hs : ¬ Z.sign < 0 := fun h => h0 (Int.sign_neg_iff.1 h)
   have HE := HP.out h0
   generalize Z.sign = sgn at *
   have HE2 := hide HE
   clear h0 HE HN HP hroom
   go_enter Tryz.func107, Tryz.ntmps107
   go_wp2_with fail
   refine ht.mono ?_
   rintro e w1 ⟨rfl, b1⟩
   have k1 := z1.next b1
   have k1a := k1.c0
   have k1b := k1.c1
   have t1 := z2.next b1
   clear ht
   go_wp2_with fail
   refine (HS.out w1 t1).mono ?_
   rintro e w2 ⟨rfl, b2⟩
   clear k1a k1b
   go_wp2_with fail
   go_ret
   exact ⟨by rw [HE2.out]; rfl, t1.next b2⟩
end Go.Proofs.YtdeakieenppmiaaGreatDoor
