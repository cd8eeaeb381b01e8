/- Texts of one seat, put together: RVar. -/
import Derived.Test.YtdeakieenppmiaaGreatB25
import Derived.Test.YtdeakieenppmiaaGreatB23
set_option linter.unusedVariables false
/- plumblineref03.Var, plumblineref01.SameInts. -/
namespace Go.Proofs.YtdeakieenppmiaaGreat
open Go.RowKit
open Tm

set_option maxRecDepth 100000 in
set_option maxHeartbeats 1000000 in
theorem rvar_any (x : Int) (w : World) : Calls Tryz.prog 27 #[.int .i64 x] w (TPost (norm [(x, 1)]) 0 3 w) := by
  obtain ⟨z0, z1, z2⟩ := bstart1 28 w #[.slice none 0 0, .bool false, .slice none 0 0]
  go_enter Tryz.func27, Tryz.ntmps27
  go_wp2_with fail
  refine (rof_z 1 _ (by omega) (by omega)).mono ?_
  rintro e w1 ⟨v1, rfl, r1, b1⟩
  obtain ⟨s1, A1, n1, c1, rfl⟩ := r1.form
  have t1 := z1.next b1
  have k1 := z0.next b1
  obtain ⟨y0, y1, -⟩ := bstart1 51 w1 #[.int .i64 x, .bool s1, .slice A1 n1 c1]
  have HT := hide (show TIn (w1.alloc (.cells #[.int .i64 x, .bool s1, .slice A1 n1 c1] 51)) (.agg #[.slice (some ⟨w1.heap.size, 0, none⟩) 1 1, .bool false, .slice none 0 0]) [(x, 1)] 0 2 from
    ⟨_, 1, 1, false, none, 0, 0, rfl, ⟨[⟨x, s1, A1, n1, c1, 1⟩], ⟨rfl, fun _ => ⟨w1.heap.size, 0, rfl, cells_newS w1 ⟨x, s1, A1, n1, c1, 1⟩ _ rfl⟩, fun p hp => by simp at hp; subst hp; exact (r1.in_).below y1⟩, rfl⟩, Nat.le_refl _, by omega, (ZRes.zero _ 2).in_⟩)
  have hpl := rplain_any _ [(x, 1)] 0 2 _ HT.out (by simp) (by omega)
  have k2 := k1.next y1
  have t2 := t1.next y1
  clear r1 y0 y1
  go_wp2_with fail
  refine hpl.mono ?_
  rintro e w2 ⟨v2, rfl, r2, b2⟩
  obtain ⟨A2, n2, c2, s2, B2, m2, d2, rfl⟩ := r2.form
  have k3 := k2.next b2
  go_wp2_with (with_reducible refine wpList_store_t rfl _ _ rfl w.heap.size _ _ _ _ _ _ _ rfl rfl _ _ _ k3 ?_; intro w3 k4 ho3)
  refine bodyPost_t rfl rfl k4 rfl ?_
  exact ⟨_, rfl, r2.only k3 ho3, zback (t2.next b2) (Nat.le_refl _) ho3⟩
end Go.Proofs.YtdeakieenppmiaaGreat
