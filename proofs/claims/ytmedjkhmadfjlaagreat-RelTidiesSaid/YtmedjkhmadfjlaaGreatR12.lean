/- Texts of one seat, put together: RefZ TermMath PartMem. -/
import Derived.Test.YtmedjkhmadfjlaaGreatR09
import Derived.Test.YtmedjkhmadfjlaaGreatR11
import Derived.Test.YtmedjkhmadfjlaaGreatR04
import Derived.Test.YtmedjkhmadfjlaaGreatR01
set_option linter.unusedVariables false
set_option linter.unusedSimpArgs false
set_option maxRecDepth 100000
set_option maxHeartbeats 16000000
namespace Go.Proofs.YtmedjkhmadfjlaaGreat
section
open Go.RowKit
open Limb (limb AQ upto upto_succ Az AC)
theorem Co (s:Bool) (A:Option Addr) (n c k:Nat) (xs:List Nat) (w:World) (hx:Av w A n xs) (hk:n<=k) (hb:k<=1099511627776) :
   Calls Tryz.prog 84 #[.bool s,.slice A n c] w (Cn (sg s (Limb.val xs)) k w):=by
 have hlt:=Ac hx.lt;obtain ⟨z1,z2,-⟩:=DW w #[.bool false,.slice none 0 0];have ht:=Cf A n c xs _ (hx.below z2) (by omega);generalize Limb.val xs=N at *;by_cases h0:N=0
 · subst h0;go_enter Tryz.func84,Tryz.ntmps84;go_wp2_with fail;refine ht.mono ?_;rintro e w1 ⟨A1,n1,c1,rfl,o1,l1,m1,b1⟩;obtain rfl:n1=0:=(by rw[<-o1.len];rfl);have k1:=z1.next b1;go_wp2_with (with_reducible refine An rfl _ _ rfl w.heap.size _ _ _ _ rfl rfl _ _ k1 ?_;intro w3 k3 ho3);refine Ay rfl rfl k3 rfl ?_;exact ⟨_,rfl,by rw[Gf];exact Au.zero _ _,AE (z2.next b1) (Nat.le_refl _) ho3⟩
 · have HP:=Ac (Nat.pos_of_ne_zero h0);go_enter Tryz.func84,Tryz.ntmps84;go_wp2_with fail;refine ht.mono ?_;rintro e w1 ⟨A1,n1,c1,rfl,o1,l1,m1,b1⟩;have hn1:((n1:Int)==0)=false:=by
    have:n1≠0:=fun h=>h0 ((Limb.canon_len_zero _).1 (by rw[o1.len];exact h))
    simp;omega
   have hl1:n1<=n:=AS o1 hlt.out;have k1:=z1.next b1;clear h0;go_wp2_with (with_reducible refine An rfl _ _ rfl w.heap.size _ _ _ _ rfl rfl _ _ k1 ?_;intro w3 k3 ho3);refine Ay rfl rfl k3 rfl ?_;exact ⟨_,rfl,⟨A1,n1,c1,by rw[RE s N HP.out],by rw[CP];exact o1.keepBlk k1 ho3,l1,m1,by omega⟩,AE (z2.next b1) (Nat.le_refl _) ho3⟩
theorem LS (v:Value) (Z:Int) (k:Nat) (w:World) (hv:BO w v Z k) (hk:k<=1099511627776):Calls Tryz.prog 28 #[v] w (Cn Z k w):=by
 obtain ⟨s,A,n,c,xs,rfl,hx,hc,hm,hn,rfl⟩:=hv;obtain ⟨z0,z1,z2,-⟩:=Dv w #[.bool s,.slice A n c] #[.bool false,.slice none 0 0];have hf:=Co s A n c k xs _ (hx.below z2) hn hk;skip
 go_enter Tryz.func28,Tryz.ntmps28;go_wp2_with fail;refine hf.mono ?_;rintro e w1 ⟨v1,rfl,r1,b1⟩;obtain ⟨s1,A1,n1,c1,rfl⟩:=r1.form;have k1:=z1.next b1;go_wp2_with (with_reducible refine An rfl _ _ rfl (w.heap.size+1) _ _ _ _ rfl rfl _ _ k1 ?_;intro w3 k3 ho3);refine Ay rfl rfl k3 rfl ?_;exact ⟨_,rfl,r1.only k1 ho3,AE (z2.next b1) (by omega) ho3⟩
theorem Of (v:Value) (Z:Int) (k:Nat) (w:World) (hv:BO w v Z k) (hk:k<=1099511627776):Calls Tryz.prog 27 #[v] w (Cn (-Z) k w):=by
 obtain ⟨s,A,n,c,xs,rfl,hx,hc,hm,hn,rfl⟩:=hv;obtain ⟨z0,z1,z2,-⟩:=Dv w #[.bool s,.slice A n c] #[.bool false,.slice none 0 0];have hf:=Co (!s) A n c k xs _ (hx.below z2) hn hk;rw[Oa]at hf;go_enter Tryz.func27,Tryz.ntmps27;go_wp2_with fail;refine hf.mono ?_;rintro e w1 ⟨v1,rfl,r1,b1⟩;obtain ⟨s1,A1,n1,c1,rfl⟩:=r1.form;have k1:=z1.next b1;go_wp2_with (with_reducible refine An rfl _ _ rfl (w.heap.size+1) _ _ _ _ rfl rfl _ _ k1 ?_;intro w3 k3 ho3);refine Ay rfl rfl k3 rfl ?_
 exact ⟨_,rfl,r1.only k1 ho3,AE (z2.next b1) (by omega) ho3⟩
def Dm (Z:Int) (w:World) (e:Ending) (w':World):Prop:=e=.returned (.int .i64 Z.sign)/\Below w.heap.size w w'
theorem Bb (v:Value) (Z:Int) (k:Nat) (w:World) (hv:BO w v Z k) (hk:k<=1099511627776):Calls Tryz.prog 80 #[v] w (Dm Z w):=by
 obtain ⟨s,A,n,c,xs,rfl,hx,hc,hm,hn,rfl⟩:=hv;obtain ⟨z1,z2,-⟩:=DW w #[.bool s,.slice A n c];have ht:=Cf A n c xs _ (hx.below z2) (by omega);generalize Limb.val xs=N at *;by_cases h0:N=0
 · subst h0;rw[Gf];go_enter Tryz.func80,Tryz.ntmps80;go_wp2_with fail;refine ht.mono ?_;rintro e w1 ⟨A1,n1,c1,rfl,o1,l1,m1,b1⟩;obtain rfl:n1=0:=(by rw[<-o1.len];rfl);go_wp2_with fail;go_ret
   exact ⟨rfl,z2.next b1⟩
 · cases s with
   |true=>
    have hs:Hid (Int.sign (sg true N)=-1):=(by show _=_;rw[DX];exact Int.sign_eq_neg_one_of_neg (by omega));go_enter Tryz.func80,Tryz.ntmps80;go_wp2_with fail;refine ht.mono ?_;rintro e w1 ⟨A1,n1,c1,rfl,o1,l1,m1,b1⟩;have hn1:((n1:Int)==0)=false:=by
     have:n1≠0:=fun h=>h0 ((Limb.canon_len_zero _).1 (by rw[o1.len];exact h))
     simp;omega
    have x1:=(z1.next b1).c0;clear h0;go_wp2_with fail;go_ret
    exact ⟨by rw[hs.out];rfl,z2.next b1⟩
   |false=>
    have hs:Hid (Int.sign (sg false N)=1):=(by show _=_;rw[DZ];exact Int.sign_eq_one_of_pos (by omega));go_enter Tryz.func80,Tryz.ntmps80;go_wp2_with fail;refine ht.mono ?_;rintro e w1 ⟨A1,n1,c1,rfl,o1,l1,m1,b1⟩;have hn1:((n1:Int)==0)=false:=by
     have:n1≠0:=fun h=>h0 ((Limb.canon_len_zero _).1 (by rw[o1.len];exact h))
     simp;omega
    have x1:=(z1.next b1).c0;clear h0;go_wp2_with fail;go_ret
    exact ⟨by rw[hs.out];rfl,z2.next b1⟩
theorem BO.abs {s:Bool} {Z:Int} {N:Nat} (h:Z=sg s N):N=Z.natAbs:=by rw[h,CP]
theorem JD (v u:Value) (Z Y:Int) (k:Nat) (w:World) (hv:BO w v Z k) (hu:BO w u Y k) (hk:k<=137438953472) (hno:¬(Z<0/\0<=Y)) :
   Calls Tryz.prog 98 #[v,u] w (Cn (Z+Y) (k+1) w):=by
 have hlv:=Ac hv.lt;have hlu:=Ac hu.lt;have hv0:=hv;have hu0:=hu;obtain ⟨s,A,n,c,xs,rfl,hx,hc,hm,hn,hZ⟩:=hv;obtain ⟨t,B,m,d,ys,rfl,hy,hd,hmd,hmk,hY⟩:=hu;have HN:=Ac (BO.abs hZ);have HM:=Ac (BO.abs hY);clear hZ hY;obtain ⟨x0,y0,r0,z2,-⟩:=Db w #[.bool s,.slice A n c] #[.bool t,.slice B m d] #[.bool false,.slice none 0 0];by_cases hz:Z<0
 · have hy0:Y<0:=(by omega);have hE:=Ac (show sg true (Z.natAbs+Y.natAbs)=Z+Y by rw[DX];omega);have hz2:=Int.sign_neg_iff.2 hz;have hy2:=Int.sign_neg_iff.2 hy0;clear hno;go_enter Tryz.func98,Tryz.ntmps98;go_wp2_with fail;refine (Bb _ Z k _ (hv0.below z2) (by omega)).mono ?_;rintro e w1 ⟨rfl,b1⟩;have t1:=z2.next b1;have x1:=x0.next b1;have y1:=y0.next b1;have x1a:=x1.c0;have x1b:=x1.c1;have y1a:=y1.c0;have y1b:=y1.c1;go_wp2_with fail
   refine (Bb _ Y k w1 (hu0.below t1) (by omega)).mono ?_;rintro e w2 ⟨rfl,b2⟩;have t2:=t1.next b2;have x2:=x1.next b2;have y2:=y1.next b2;have x2a:=x2.c0;have x2b:=x2.c1;have y2a:=y2.c0;have y2b:=y2.c1;go_wp2_with fail;refine (FM A B n c m d xs ys w2 (hx.below t2) (hy.below t2) (by omega) (by omega)).mono ?_;rintro e w3 ⟨A5,n5,c5,rfl,o5,l5,m5,b3⟩;rw[HN.out,HM.out]at o5;have ln5:n5<=k+1:=AS o5 (add_lt _ _ _ hlv.out hlu.out);go_wp2_with fail
   refine (Co true A5 n5 c5 (k+1) _ w3 o5 ln5 (by omega)).mono ?_;rintro e w4 ⟨v6,rfl,z6,b4⟩;rw[Limb.val_canon,hE.out]at z6;obtain ⟨s6,A6,n6,c6,rfl⟩:=z6.form;have k6:=((((r0.next b1).next b2).next b3).next b4);go_wp2_with (with_reducible refine An rfl _ _ rfl (w.heap.size+1+1) _ _ _ _ rfl rfl _ _ k6 ?_;intro w9 k9 ho9);refine Ay rfl rfl k9 rfl ?_;exact ⟨_,rfl,z6.only k6 ho9,AE ((t2.next b3).next b4) (by omega) ho9⟩
 · have hz2:0<=Z.sign:=Int.sign_nonneg_iff.2 (by omega);by_cases hy0:Y<0
   · have hy2:=Int.sign_neg_iff.2 hy0;by_cases hle:Y.natAbs<=Z.natAbs
     · have hE:=Ac (show sg false (Z.natAbs-Y.natAbs)=Z+Y by rw[DZ];omega);have hl:=Ac (show Z.natAbs-Y.natAbs<4294967296^(k+1) from Nat.lt_of_le_of_lt (Nat.sub_le _ _) (Nat.lt_of_lt_of_le hlv.out (Limb.pow_mono (by omega))));have hle':=Ac hle;clear hno hle;go_enter Tryz.func98,Tryz.ntmps98;go_wp2_with fail;refine (Bb _ Z k _ (hv0.below z2) (by omega)).mono ?_;rintro e w1 ⟨rfl,b1⟩;have t1:=z2.next b1;have x1:=x0.next b1;have y1:=y0.next b1;have x1a:=x1.c0
       have x1b:=x1.c1;have y1a:=y1.c0;have y1b:=y1.c1;go_wp2_with fail;refine (Bb _ Z k w1 (hv0.below t1) (by omega)).mono ?_;rintro e w2 ⟨rfl,b2⟩;have t2:=t1.next b2;have x2:=x1.next b2;have y2:=y1.next b2;have x2a:=x2.c0;have x2b:=x2.c1;have y2a:=y2.c0;have y2b:=y2.c1;go_wp2_with fail;refine (Bb _ Y k w2 (hu0.below t2) (by omega)).mono ?_;rintro e w3 ⟨rfl,b3⟩;have t3:=t2.next b3;have x3:=x2.next b3;have y3:=y2.next b3;have x3a:=x3.c0;have x3b:=x3.c1;have y3a:=y3.c0
       have y3b:=y3.c1;go_wp2_with fail;refine (Bb _ Z k w3 (hv0.below t3) (by omega)).mono ?_;rintro e w4 ⟨rfl,b4⟩;have t4:=t3.next b4;have x4:=x3.next b4;have y4:=y3.next b4;have x4a:=x4.c0;have x4b:=x4.c1;have y4a:=y4.c0;have y4b:=y4.c1;go_wp2_with fail;refine (Jv A B n c m d xs ys w4 (hx.below t4) (hy.below t4) (by omega) (by omega) (by rw[HN.out,HM.out];exact hle'.out)).mono ?_;rintro e w5 ⟨A5,n5,c5,rfl,o5,l5,m5,b5⟩;rw[HN.out,HM.out]at o5
       have ln5:n5<=k+1:=AS o5 hl.out;go_wp2_with fail;refine (Co false A5 n5 c5 (k+1) _ w5 o5 ln5 (by omega)).mono ?_;rintro e w6 ⟨v6,rfl,z6,b6⟩;rw[Limb.val_canon,hE.out]at z6;obtain ⟨s6,A6,n6,c6,rfl⟩:=z6.form;have k6:=((((((r0.next b1).next b2).next b3).next b4).next b5).next b6);go_wp2_with (with_reducible refine An rfl _ _ rfl (w.heap.size+1+1) _ _ _ _ rfl rfl _ _ k6 ?_;intro w9 k9 ho9);refine Ay rfl rfl k9 rfl ?_
       exact ⟨_,rfl,z6.only k6 ho9,AE ((t4.next b5).next b6) (by omega) ho9⟩
     · have hE:=Ac (show sg true (Y.natAbs-Z.natAbs)=Z+Y by rw[DX];omega);have hl:=Ac (show Y.natAbs-Z.natAbs<4294967296^(k+1) from Nat.lt_of_le_of_lt (Nat.sub_le _ _) (Nat.lt_of_lt_of_le hlu.out (Limb.pow_mono (by omega))));have hle':=Ac (show Z.natAbs<Y.natAbs by omega);clear hno hle;go_enter Tryz.func98,Tryz.ntmps98;go_wp2_with fail;refine (Bb _ Z k _ (hv0.below z2) (by omega)).mono ?_;rintro e w1 ⟨rfl,b1⟩;have t1:=z2.next b1;have x1:=x0.next b1;have y1:=y0.next b1
       have x1a:=x1.c0;have x1b:=x1.c1;have y1a:=y1.c0;have y1b:=y1.c1;go_wp2_with fail;refine (Bb _ Z k w1 (hv0.below t1) (by omega)).mono ?_;rintro e w2 ⟨rfl,b2⟩;have t2:=t1.next b2;have x2:=x1.next b2;have y2:=y1.next b2;have x2a:=x2.c0;have x2b:=x2.c1;have y2a:=y2.c0;have y2b:=y2.c1;go_wp2_with fail;refine (Bb _ Y k w2 (hu0.below t2) (by omega)).mono ?_;rintro e w3 ⟨rfl,b3⟩;have t3:=t2.next b3;have x3:=x2.next b3;have y3:=y2.next b3;have x3a:=x3.c0;have x3b:=x3.c1
       have y3a:=y3.c0;have y3b:=y3.c1;go_wp2_with fail;refine (Bb _ Z k w3 (hv0.below t3) (by omega)).mono ?_;rintro e w4 ⟨rfl,b4⟩;have t4:=t3.next b4;have x4:=x3.next b4;have y4:=y3.next b4;have x4a:=x4.c0;have x4b:=x4.c1;have y4a:=y4.c0;have y4b:=y4.c1;go_wp2_with fail;refine (Pg A B n c m d xs ys w4 (hx.below t4) (hy.below t4) (by omega) (by omega) (by rw[HN.out,HM.out];exact hle'.out)).mono ?_;rintro e w' ⟨rfl,rfl⟩;go_wp2_with fail
       refine (Jv B A m d n c ys xs w4 (hy.below t4) (hx.below t4) (by omega) (by omega) (by rw[HN.out,HM.out];exact Nat.le_of_lt hle'.out)).mono ?_;rintro e w5 ⟨A5,n5,c5,rfl,o5,l5,m5,b5⟩;rw[HN.out,HM.out]at o5;have ln5:n5<=k+1:=AS o5 hl.out;go_wp2_with fail;refine (Co true A5 n5 c5 (k+1) _ w5 o5 ln5 (by omega)).mono ?_;rintro e w6 ⟨v6,rfl,z6,b6⟩;rw[Limb.val_canon,hE.out]at z6;obtain ⟨s6,A6,n6,c6,rfl⟩:=z6.form
       have k6:=((((((r0.next b1).next b2).next b3).next b4).next b5).next b6);go_wp2_with (with_reducible refine An rfl _ _ rfl (w.heap.size+1+1) _ _ _ _ rfl rfl _ _ k6 ?_;intro w9 k9 ho9);refine Ay rfl rfl k9 rfl ?_;exact ⟨_,rfl,z6.only k6 ho9,AE ((t4.next b5).next b6) (by omega) ho9⟩
   · have hy2:0<=Y.sign:=Int.sign_nonneg_iff.2 (by omega);have hE:=Ac (show sg false (Z.natAbs+Y.natAbs)=Z+Y by rw[DZ];omega);clear hno;go_enter Tryz.func98,Tryz.ntmps98;go_wp2_with fail;refine (Bb _ Z k _ (hv0.below z2) (by omega)).mono ?_;rintro e w1 ⟨rfl,b1⟩;have t1:=z2.next b1;have x1:=x0.next b1;have y1:=y0.next b1;have x1a:=x1.c0;have x1b:=x1.c1;have y1a:=y1.c0;have y1b:=y1.c1;go_wp2_with fail;refine (Bb _ Z k w1 (hv0.below t1) (by omega)).mono ?_
     rintro e w2 ⟨rfl,b2⟩;have t2:=t1.next b2;have x2:=x1.next b2;have y2:=y1.next b2;have x2a:=x2.c0;have x2b:=x2.c1;have y2a:=y2.c0;have y2b:=y2.c1;go_wp2_with fail;refine (Bb _ Y k w2 (hu0.below t2) (by omega)).mono ?_;rintro e w3 ⟨rfl,b3⟩;have t3:=t2.next b3;have x3:=x2.next b3;have y3:=y2.next b3;have x3a:=x3.c0;have x3b:=x3.c1;have y3a:=y3.c0;have y3b:=y3.c1;go_wp2_with fail;refine (FM A B n c m d xs ys w3 (hx.below t3) (hy.below t3) (by omega) (by omega)).mono ?_
     rintro e w4 ⟨A5,n5,c5,rfl,o5,l5,m5,b4⟩;rw[HN.out,HM.out]at o5;have ln5:n5<=k+1:=AS o5 (add_lt _ _ _ hlv.out hlu.out);go_wp2_with fail;refine (Co false A5 n5 c5 (k+1) _ w4 o5 ln5 (by omega)).mono ?_;rintro e w5 ⟨v6,rfl,z6,b5⟩;rw[Limb.val_canon,hE.out]at z6;obtain ⟨s6,A6,n6,c6,rfl⟩:=z6.form;have k6:=(((((r0.next b1).next b2).next b3).next b4).next b5);go_wp2_with (with_reducible refine An rfl _ _ rfl (w.heap.size+1+1) _ _ _ _ rfl rfl _ _ k6 ?_;intro w9 k9 ho9)
     refine Ay rfl rfl k9 rfl ?_;exact ⟨_,rfl,z6.only k6 ho9,AE ((t3.next b4).next b5) (by omega) ho9⟩
theorem Jb (v u:Value) (Z Y:Int) (k:Nat) (w:World) (hv:BO w v Z k) (hu:BO w u Y k) (hk:k<=137438953472) :
   Calls Tryz.prog 98 #[v,u] w (Cn (Z+Y) (k+1) w):=by
 by_cases hno:Z<0/\0<=Y
 · have hz2:=Int.sign_neg_iff.2 hno.1;have hy2:0<=Y.sign:=Int.sign_nonneg_iff.2 hno.2;have hno':¬(Y<0/\0<=Z):=(by omega);have hz:=hno.1;have hy0:=hno.2;have hv0:=hv;have hu0:=hu;obtain ⟨s,A,n,c,xs,rfl,-⟩:=hv;obtain ⟨t,B,m,d,ys,rfl,-⟩:=hu;obtain ⟨x0,y0,r0,z2,-⟩:=Db w #[.bool s,.slice A n c] #[.bool t,.slice B m d] #[.bool false,.slice none 0 0];clear hno;go_enter Tryz.func98,Tryz.ntmps98;go_wp2_with fail;refine (Bb _ Z k _ (hv0.below z2) (by omega)).mono ?_
   rintro e w1 ⟨rfl,b1⟩;have t1:=z2.next b1;have x1:=x0.next b1;have y1:=y0.next b1;have x1a:=x1.c0;have x1b:=x1.c1;have y1a:=y1.c0;have y1b:=y1.c1;go_wp2_with fail;refine (Bb _ Y k w1 (hu0.below t1) (by omega)).mono ?_;rintro e w2 ⟨rfl,b2⟩;have t2:=t1.next b2;have x2:=x1.next b2;have y2:=y1.next b2;have x2a:=x2.c0;have x2b:=x2.c1;have y2a:=y2.c0;have y2b:=y2.c1;go_wp2_with fail;refine (Bb _ Z k w2 (hv0.below t2) (by omega)).mono ?_;rintro e w3 ⟨rfl,b3⟩;have t3:=t2.next b3
   have x3:=x2.next b3;have y3:=y2.next b3;have x3a:=x3.c0;have x3b:=x3.c1;have y3a:=y3.c0;have y3b:=y3.c1;go_wp2_with fail;refine (Bb _ Z k w3 (hv0.below t3) (by omega)).mono ?_;rintro e w4 ⟨rfl,b4⟩;have t4:=t3.next b4;have x4:=x3.next b4;have y4:=y3.next b4;have x4a:=x4.c0;have x4b:=x4.c1;have y4a:=y4.c0;have y4b:=y4.c1;have hmain:=JD _ _ Y Z k w4 (hu0.below t4) (hv0.below t4) hk hno';rw[Int.add_comm]at hmain;go_wp2_with fail;refine hmain.mono ?_
   rintro e w5 ⟨v6,rfl,z6,b5⟩;obtain ⟨s6,A6,n6,c6,rfl⟩:=z6.form;have k6:=(((((r0.next b1).next b2).next b3).next b4).next b5);go_wp2_with (with_reducible refine An rfl _ _ rfl (w.heap.size+1+1) _ _ _ _ rfl rfl _ _ k6 ?_;intro w9 k9 ho9);refine Ay rfl rfl k9 rfl ?_;exact ⟨_,rfl,z6.only k6 ho9,AE (t4.next b5) (by omega) ho9⟩
 · exact JD v u Z Y k w hv hu hk hno
end
end Go.Proofs.YtmedjkhmadfjlaaGreat
namespace Go.Proofs.YtmedjkhmadfjlaaGreat.Tm
section
def AB:List (Int×Int)->Int->Int
 |[],_=>0
 |(u,c)::ps,v=>(if u=v/\0<=v then c else 0)+AB ps v
theorem FP (v:Int):AB [] v=0:=rfl
theorem RX (ps:List (Int×Int)) (v:Int) (h:v<0):AB ps v=0:=by
 induction ps with
 |nil=>rfl
 |cons p ps ih=> obtain ⟨u,c⟩:=p;rw[AB,ih,if_neg (by omega)];rfl
theorem CK (ps qs:List (Int×Int)) (v:Int):AB (ps++qs) v=AB ps v+AB qs v:=by
 induction ps with
 |nil=>rw[List.nil_append,FP,Int.zero_add]
 |cons p ps ih=> obtain ⟨u,c⟩:=p;rw[List.cons_append,AB,AB,ih,Int.add_assoc]
theorem Qi {ps qs:List (Int×Int)} (h:ps.Perm qs) (v:Int):AB ps v=AB qs v:=by
 induction h with
 |nil=>rfl
 |cons p _ ih=>obtain ⟨u,c⟩:=p;rw[AB,AB,ih]
 |swap p q l=>
  obtain ⟨u,c⟩:=p;obtain ⟨u',c'⟩:=q;simp only[AB];omega
 |trans _ _ ih1 ih2=>rw[ih1,ih2]
theorem JE (n:Int) (ps:List (Int×Int)) (v:Int):AB (ps.map fun p=>(p.1,n*p.2)) v=n*AB ps v:=by
 induction ps with
 |nil=>simp[AB]
 |cons p ps ih=> obtain ⟨u,c⟩:=p;simp only[List.map_cons,AB,ih,Int.mul_add];split<;>simp
def BI:Int->List (Int×Int)->Prop
 |_,[]=>True
 |b,(u,c)::ps=>b<u/\c≠0/\BI u ps
def Hk (ps:List (Int×Int)):Prop:=BI (-1) ps
theorem BI.mono {b b':Int} {ps:List (Int×Int)} (h:BI b ps) (hb:b'<=b):BI b' ps:=by
 cases ps with
 |nil=>trivial
 |cons p ps=> obtain ⟨u,c⟩:=p;exact ⟨by have:=h.1;omega,h.2⟩
theorem BI.low {b:Int} {ps:List (Int×Int)} (h:BI b ps) (v:Int) (hv:v<=b):AB ps v=0:=by
 induction ps generalizing b with
 |nil=>rfl
 |cons p ps ih=> obtain ⟨u,c⟩:=p;obtain ⟨h1,h2,h3⟩:=h;rw[AB,if_neg (by omega),ih h3 (by omega)];rfl
theorem BI.head {b u c:Int} {ps:List (Int×Int)} (h:BI b ((u,c)::ps)) (hu:0<=u):AB ((u,c)::ps) u=c:=by rw[AB,if_pos ⟨rfl,hu⟩,h.2.2.low u (Int.le_refl _),Int.add_zero]
theorem MR {b b':Int} {ps qs:List (Int×Int)} (hb:-1<=b) (hb':-1<=b') (h:BI b ps) (h':BI b' qs) (he:∀v,AB ps v=AB qs v):ps=qs:=by
 induction ps generalizing b b' qs with
 |nil=>
  cases qs with
  |nil=>rfl
  |cons q qs=>
   obtain ⟨u,c⟩:=q;have h1:=he u;rw[h'.head (by have:=h'.1;omega),FP]at h1;exact absurd h1.symm h'.2.1
 |cons p ps ih=>
  obtain ⟨u,c⟩:=p;have hu:0<=u:=by have:=h.1;omega
  cases qs with
  |nil=>
   have h1:=he u;rw[h.head hu,FP]at h1;exact absurd h1 h.2.1
  |cons q qs=>
   obtain ⟨u',c'⟩:=q;have hu':0<=u':=(by have:=h'.1;omega);have huu:u=u':=by
    rcases Int.lt_trichotomy u u' with h1|h1|h1
    · have h2:=he u;rw[h.head hu,AB,if_neg (by omega),h'.2.2.low u (by omega)]at h2;exact absurd h2 h.2.1
    · exact h1
    · have h2:=he u';rw[h'.head hu',AB,if_neg (by omega),h.2.2.low u' (by omega)]at h2;exact absurd h2.symm h'.2.1
   subst huu;have hcc:c=c':=by have h2:=he u;rw[h.head hu,h'.head hu]at h2;exact h2
   subst hcc;rw[ih (by omega) (by omega) h.2.2 h'.2.2 (fun v=>by
    have h2:=he v;rw[AB,AB]at h2;omega)]
theorem Og {ps qs:List (Int×Int)} (h:Hk ps) (h':Hk qs) (he:∀v,AB ps v=AB qs v):ps=qs:=MR (Int.le_refl _) (Int.le_refl _) h h' he
def RY (u c:Int):List (Int×Int)->List (Int×Int)
 |[]=>if c=0 then [] else [(u,c)]
 |(v,d)::ps=>if u<v then (if c=0 then (v,d)::ps else (u,c)::(v,d)::ps) else if u=v then (if c+d=0 then ps else (v,c+d)::ps) else (v,d)::RY u c ps
theorem Oh {b u c:Int} {ps:List (Int×Int)} (h:BI b ps) (hu:b<u):BI b (RY u c ps):=by
 induction ps generalizing b with
 |nil=>
  unfold RY;split
  · trivial
  · exact ⟨hu,by assumption,trivial⟩
 |cons p ps ih=>
  obtain ⟨v,d⟩:=p;obtain ⟨h1,h2,h3⟩:=h;unfold RY;split
  · rename_i hlt
    split
    · exact ⟨h1,h2,h3⟩
    · exact ⟨hu,by assumption,hlt,h2,h3⟩
  · split
    · split
      · exact h3.mono (by omega)
      · exact ⟨h1,by assumption,h3⟩
    · exact ⟨h1,h2,ih h3 (by omega)⟩
theorem RZ (u c:Int) (ps:List (Int×Int)) (hu:0<=u) (w:Int):AB (RY u c ps) w=(if u=w/\0<=w then c else 0)+AB ps w:=by
 induction ps with
 |nil=>
  unfold RY;split
  · rename_i h;rw[h];simp[AB]
  · rfl
 |cons p ps ih=>
  obtain ⟨v,d⟩:=p;unfold RY;split
  · split
    · rename_i h;rw[h];simp
    · rfl
  · split
    · rename_i h;subst h
      split
      · rename_i h0
        rw[AB];split
        · omega
        · omega
      · rw[AB,AB];split<;>omega
    · rw[AB,AB,ih];omega
def norm:List (Int×Int)->List (Int×Int)
 |[]=>[]
 |(u,c)::ps=>if u<0 then norm ps else RY u c (norm ps)
theorem Cj (ps:List (Int×Int)):Hk (norm ps):=by
 induction ps with
 |nil=>trivial
 |cons p ps ih=>
  obtain ⟨u,c⟩:=p;unfold norm;split
  · exact ih
  · exact Oh ih (by omega)
theorem DJ (ps:List (Int×Int)) (v:Int):AB (norm ps) v=AB ps v:=by
 induction ps with
 |nil=>rfl
 |cons p ps ih=>
  obtain ⟨u,c⟩:=p;unfold norm;split
  · rw[AB,ih,if_neg (by omega),Int.zero_add]
  · rw[RZ _ _ _ (by omega),AB,ih]
theorem Jc {ps qs:List (Int×Int)} (h:Hk qs) (he:∀v,AB qs v=AB ps v):qs=norm ps:=
 Og h (Cj ps) (fun v=>by rw[he,DJ])
theorem Qj {ps qs:List (Int×Int)} (he:∀v,AB ps v=AB qs v):norm ps=norm qs:=Jc (Cj ps) (fun v=>by rw[DJ,he])
theorem LU {ps:List (Int×Int)} (h:Hk ps):norm ps=ps:=(Jc h (fun _=>rfl)).symm
def val (vals:List Int):List (Int×Int)->Int
 |[]=>0
 |(u,c)::ps=>(if 0<=u then c*vals.getD u.toNat 0 else 0)+val vals ps
theorem val_append (vals:List Int) (ps qs:List (Int×Int)):val vals (ps++qs)=val vals ps+val vals qs:=by
 induction ps with
 |nil=>simp[val]
 |cons p ps ih=>obtain ⟨u,c⟩:=p;rw[List.cons_append,val,val,ih,Int.add_assoc]
end
end Go.Proofs.YtmedjkhmadfjlaaGreat.Tm
namespace Go.Proofs.YtmedjkhmadfjlaaGreat
section
open Go.RowKit
structure PV where
 v:Int
 s:Bool
 B:Option Addr
 m:Nat
 d:Nat
 Z:Int
def PV.num (p:PV):Value:=.agg #[.bool p.s,.slice p.B p.m p.d]
def PV.cells (p:PV):List Value:=[.int .i64 p.v,.bool p.s,.slice p.B p.m p.d]
def PV.agg (p:PV):Value:=.agg #[.int .i64 p.v,.bool p.s,.slice p.B p.m p.d]
def PV.part (p:PV):Int×Int:=(p.v,p.Z)
def flat (ps:List PV):List Value:=(ps.map PV.cells).flatten
theorem Dn (p:PV) (ps:List PV):flat (p::ps)=p.cells++flat ps:=rfl
theorem Do (ps qs:List PV):flat (ps++qs)=flat ps++flat qs:=by simp[flat]
theorem Dp (ps:List PV):(flat ps).length=3*ps.length:=by
 induction ps with
 |nil=>rfl
 |cons p ps ih=>rw[Dn,List.length_append,ih,List.length_cons];show 3+_=_;omega
theorem flat_get (ps:List PV) (i:Nat) (p:PV) (h:ps[i]?=some p):(flat ps)[3*i]?=some (.int .i64 p.v)/\(flat ps)[3*i+1]?=some (.bool p.s)/\(flat ps)[3*i+2]?=some (.slice p.B p.m p.d):=by
 induction ps generalizing i with
 |nil=>simp at h
 |cons q ps ih=>
  rw[Dn];cases i with
  |zero=>
   simp at h;subst h;exact ⟨rfl,rfl,rfl⟩
  |succ i=>
   have h2:=ih i (by simpa using h);have hl:q.cells.length=3:=rfl;have e0:3*(i+1)=q.cells.length+3*i:=(by rw[hl];omega);have e1:3*(i+1)+1=q.cells.length+(3*i+1):=(by rw[hl];omega);have e2:3*(i+1)+2=q.cells.length+(3*i+2):=(by rw[hl];omega);rw[e0,show q.cells.length+3*i+1=q.cells.length+(3*i+1) by omega,show q.cells.length+3*i+2=q.cells.length+(3*i+2) by omega,List.getElem?_append_right (by omega),List.getElem?_append_right (by omega),List.getElem?_append_right (by omega)]
   simpa using h2
theorem Qk (ps:List PV) (k:Nat):flat (ps.take k)=(flat ps).take (3*k):=by
 induction ps generalizing k with
 |nil=>simp[flat]
 |cons p ps ih=>
  cases k with
  |zero=>simp[flat]
  |succ k=> rw[List.take_succ_cons,Dn,Dn,ih];have hl:p.cells.length=3:=rfl;rw[show 3*(k+1)=p.cells.length+3*k by rw[hl];omega,List.take_length_add_append]
def AJ (w:World) (A:Option Addr) (n:Nat) (ps:List PV) (k:Nat):Prop:=
 ps.length=n/\(0<n->∃b o,A=some ⟨b,o,none⟩/\∀j u,(flat ps)[j]?=some u->w.cell? ⟨b,o+j,none⟩=some u)/\∀p∈ps,BO w p.num p.Z k
section
variable {w w':World} {A:Option Addr} {n k:Nat} {ps:List PV}
theorem AJ.nil (w:World) (A:Option Addr) (k:Nat):AJ w A 0 [] k:=⟨rfl,fun h=>absurd h (by omega),fun p hp=>by cases hp⟩
theorem AJ.below (h:AJ w A n ps k) (hb:Below w.heap.size w w'):AJ w' A n ps k:=by refine ⟨h.1,fun hn=>?_,fun p hp=>(h.2.2 p hp).below hb⟩;obtain ⟨b,o,e,hc⟩:=h.2.1 hn;refine ⟨b,o,e,fun j u hu=>?_⟩;have h1:=hc j u hu;have hlt:=World.block_lt_of_cell? w _ h1;exact (World.cell?_of_block (w:=w) (a:=⟨b,o+j,none⟩) (hb.block b hlt)).trans h1
theorem AJ.mono {j:Nat} (h:AJ w A n ps k) (hj:k<=j):AJ w A n ps j:=⟨h.1,h.2.1,fun p hp=>(h.2.2 p hp).mono hj⟩
theorem AJ.at_ {i:Nat} (h:AJ w A n ps k) (hi:i<n):∃b o p,A=some ⟨b,o,none⟩/\ps[i]?=some p/\w.cell? ⟨b,o+3*i,none⟩=some (.int .i64 p.v)/\w.cell? ⟨b,o+(3*i+1),none⟩=some (.bool p.s)/\w.cell? ⟨b,o+(3*i+2),none⟩=some (.slice p.B p.m p.d)/\BO w p.num p.Z k:=by
 obtain ⟨b,o,e,hc⟩:=h.2.1 (by omega);have hl:i<ps.length:=by rw[h.1];exact hi
 obtain ⟨g0,g1,g2⟩:=flat_get ps i ps[i] (List.getElem?_eq_getElem hl);exact ⟨b,o,ps[i],e,List.getElem?_eq_getElem hl,hc _ _ g0,hc _ _ g1,hc _ _ g2,h.2.2 _ (List.getElem_mem hl)⟩
end
def Cl (ps:List PV):List (Int×Int):=ps.map PV.part
theorem Bu (ps qs:List PV):Cl (ps++qs)=Cl ps++Cl qs:=by simp[Cl]
theorem KJ (ps:List PV) (i:Nat) (p:PV) (h:ps[i]?=some p):Cl (ps.take (i+1))=Cl (ps.take i)++[p.part]:=by unfold Cl;rw[List.take_add_one,h,List.map_append];rfl
def Wd (w:World) (v:Value) (ps:List PV) (K:Int) (k:Nat):Prop:=∃A n c s B m d,v=.agg #[.slice A n c,.bool s,.slice B m d]/\AJ w A n ps k/\n<=c/\c<=9223372036854775807/\BO w (.agg #[.bool s,.slice B m d]) K k
structure IV where
 s:Bool
 B:Option Addr
 m:Nat
 d:Nat
 Z:Int
def IV.num (p:IV):Value:=.agg #[.bool p.s,.slice p.B p.m p.d]
def IV.cells (p:IV):List Value:=[.bool p.s,.slice p.B p.m p.d]
def MS (ps:List IV):List Value:=(ps.map IV.cells).flatten
theorem Oi (p:IV) (ps:List IV):MS (p::ps)=p.cells++MS ps:=rfl
theorem Ql (ps:List IV) (i:Nat) (p:IV) (h:ps[i]?=some p):(MS ps)[2*i]?=some (.bool p.s)/\(MS ps)[2*i+1]?=some (.slice p.B p.m p.d):=by
 induction ps generalizing i with
 |nil=>simp at h
 |cons q ps ih=>
  rw[Oi];cases i with
  |zero=>
   simp at h;subst h;exact ⟨rfl,rfl⟩
  |succ i=> have h2:=ih i (by simpa using h);have hl:q.cells.length=2:=rfl;rw[show 2*(i+1)=q.cells.length+2*i by rw[hl];omega,show q.cells.length+2*i+1=q.cells.length+(2*i+1) by omega,List.getElem?_append_right (by omega),List.getElem?_append_right (by omega)];simpa using h2
def FQ (w:World) (A:Option Addr) (n:Nat) (vs:List IV) (k:Nat):Prop:=
 vs.length=n/\(0<n->∃b o,A=some ⟨b,o,none⟩/\∀j u,(MS vs)[j]?=some u->w.cell? ⟨b,o+j,none⟩=some u)/\∀p∈vs,BO w p.num p.Z k
theorem FQ.below {w w':World} {A:Option Addr} {n k:Nat} {vs:List IV} (h:FQ w A n vs k) (hb:Below w.heap.size w w'):FQ w' A n vs k:=by refine ⟨h.1,fun hn=>?_,fun p hp=>(h.2.2 p hp).below hb⟩;obtain ⟨b,o,e,hc⟩:=h.2.1 hn;refine ⟨b,o,e,fun j u hu=>?_⟩;have h1:=hc j u hu;have hlt:=World.block_lt_of_cell? w _ h1;exact (World.cell?_of_block (w:=w) (a:=⟨b,o+j,none⟩) (hb.block b hlt)).trans h1
theorem FQ.at_ {w:World} {A:Option Addr} {n k i:Nat} {vs:List IV} (h:FQ w A n vs k) (hi:i<n):∃b o p,A=some ⟨b,o,none⟩/\vs[i]?=some p/\w.cell? ⟨b,o+2*i,none⟩=some (.bool p.s)/\w.cell? ⟨b,o+(2*i+1),none⟩=some (.slice p.B p.m p.d)/\BO w p.num p.Z k:=by
 obtain ⟨b,o,e,hc⟩:=h.2.1 (by omega);have hl:i<vs.length:=by rw[h.1];exact hi
 obtain ⟨g0,g1⟩:=Ql vs i vs[i] (List.getElem?_eq_getElem hl);exact ⟨b,o,vs[i],e,List.getElem?_eq_getElem hl,hc _ _ g0,hc _ _ g1,h.2.2 _ (List.getElem_mem hl)⟩
def nums (vs:List IV):List Int:=vs.map IV.Z
def Wz (T:TypeId) (w:World) (base:Nat) (v:Value) (ps:List PV) (k:Nat):Prop:=w.ownsRow base T 3 v ps.length (flat ps)/\∀p∈ps,BO w p.num p.Z k
section
variable {T:TypeId} {w w':World} {base k:Nat} {v:Value} {ps:List PV}
end
end
end Go.Proofs.YtmedjkhmadfjlaaGreat
