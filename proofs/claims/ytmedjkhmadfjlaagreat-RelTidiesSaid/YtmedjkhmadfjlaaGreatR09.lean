/- Texts of one seat, put together: ZintC ZBox Late. -/
import Derived.Test.YtmedjkhmadfjlaaGreatR08
set_option linter.unusedVariables false
set_option linter.unusedSimpArgs false
set_option maxRecDepth 100000
set_option maxHeartbeats 16000000
namespace Go.Proofs.YtmedjkhmadfjlaaGreat
section
open Go.RowKit
open Limb (limb AQ upto upto_succ Az AC)
theorem US (s:Bool) (N M:Nat):sg s (N+M)=sg s N+sg s M:=by cases s<;>simp[sg]<;>omega
theorem RH (s t:Bool) (N M:Nat) (h:s≠t) (hle:M<=N):sg s (N-M)=sg s N+sg t M:=by cases s<;>cases t<;>simp[sg] at*<;> omega
theorem UT (s t:Bool) (N M:Nat):sg (!(s==t)) (N*M)=sg s N*sg t M:=by cases s<;>cases t<;>simp[sg,Int.neg_mul,Int.mul_neg]
theorem TA {w w':World} (h:∃k,w'=w.drewN k):Below w.heap.size w w':=by obtain ⟨k,rfl⟩:=h;exact Ap w k
theorem UU {w W w':World} (hb:Below w.heap.size w W) (h:∃k,w'=W.drewN k):Below w.heap.size w w':=hb.next (TA h)
theorem ML (v u:Value) (Z Y:Int) (k:Nat) (w:World) (hv:BO w v Z k) (hu:BO w u Y k) (hk:k<=137438953472):Calls Tryz.prog 103 #[v,u] w (Cn (Z+Y) (k+1) w):=by
 have hlv:=Ac hv.lt;have hlu:=Ac hu.lt;obtain ⟨s,A,n,c,xs,rfl,hx,hc,hm,hn,rfl⟩:=hv;obtain ⟨t,B,m,d,ys,rfl,hy,hd,hmd,hmk,rfl⟩:=hu;rw[CP]at hlv hlu;obtain ⟨x0,y0,r0,z2,-⟩:=Db w #[.bool s,.slice A n c] #[.bool t,.slice B m d] #[.bool false,.slice none 0 0];by_cases hst:s=t
 · subst hst;rw[<-US];have heq:(s==s)=true:=(by simp);have hl:=Ac (add_lt _ _ _ hlv.out hlu.out);go_enter Tryz.func103,Tryz.ntmps103;go_wp2_with fail;go_region_held3 (fun w'=>w'.cell? ⟨w.heap.size,0,none⟩=some (.bool s)/\w'.cell? ⟨w.heap.size,1,none⟩=some (.slice A n c)/\w'.cell? ⟨w.heap.size+1,1,none⟩=some (.slice B m d))
     (first|exact ⟨x0.drew.c0,x0.drew.c1,y0.drew.c1⟩|exact ⟨x1.c0,x1.c1,y1.c1⟩|exact ⟨x2.c0,x2.c1,y2.c1⟩|exact ⟨(x2.other (AD _ _ _ _) (by omega)).c0,(x2.other (AD _ _ _ _) (by omega)).c1,(y2.other (AD _ _ _ _) (by omega)).c1⟩)
     (first
      |(go_at_call 148;(with_reducible refine (LH A B n c m d xs ys _ (hx.below z2).drew hc hm (by omega) (hy.below z2).drew hd hmd (by omega)).mono ?_);rintro e w1 ⟨A1,n1,rfl,o1,b1⟩;have l1:=EC o1;have x1:=x0.drew.next b1;have y1:=y0.drew.next b1)
      |(go_at_call 100;(with_reducible refine (Bo s A1 n1 n1 _ w1 o1.len (by omega)).mono ?_);rintro e w2 ⟨rfl,b2⟩;have x2:=x1.next b2;have y2:=y1.next b2;have k2:=(r0.drew.next b1).next b2;have k2a:=k2.c0;have k2b:=k2.c1;have k2c:=k2.fr 0;have k2d:=k2.fr 1))
   go_wp2_with fail;refine Ay rfl rfl (k2.set2 _ _) rfl ?_;exact ⟨_,rfl,((Ch o1 hl.out).below b2).only k2 (AD _ _ _ _),AE ((z2.drew.next b1).next b2) (by omega) (AD _ _ _ _)⟩
 · have hne:(s==t)=false:=(by simpa using hst);by_cases hle:Limb.val ys<=Limb.val xs
   · rw[<-RH s t _ _ hst hle];have hl:=Ac (show Limb.val xs-Limb.val ys<4294967296^(k+1) from Nat.lt_of_le_of_lt (Nat.sub_le _ _) (Nat.lt_of_lt_of_le hlv.out (Limb.pow_mono (by omega))));clear hst;go_enter Tryz.func103,Tryz.ntmps103;go_wp2_with fail;refine (Pe A B n c m d xs ys _ (hx.below z2) hc hm (by omega) (hy.below z2) hd hmd hle).mono ?_;rintro e w1 ⟨A1,n1,rfl,o1,b1⟩;have hn1:=EC o1;have x1:=(x0.next b1).c0;go_wp2_with fail
     refine (Bo s A1 n1 n1 _ w1 o1.len (by omega)).mono ?_;rintro e w2 ⟨rfl,b2⟩;have k2:=(r0.next b1).next b2;go_wp2_with (with_reducible refine An rfl _ _ rfl (w.heap.size+1+1) _ _ _ _ rfl rfl _ _ k2 ?_;intro w3 k3 ho3);refine Ay rfl rfl k3 rfl ?_;exact ⟨_,rfl,((Ch o1 hl.out).below b2).only k2 ho3,AE ((z2.next b1).next b2) (by omega) ho3⟩
   · rw[Int.add_comm,<-RH t s _ _ (Ne.symm hst) (by omega)];have hl:=Ac (show Limb.val ys-Limb.val xs<4294967296^(k+1) from Nat.lt_of_le_of_lt (Nat.sub_le _ _) (Nat.lt_of_lt_of_le hlu.out (Limb.pow_mono (by omega))));clear hst;go_enter Tryz.func103,Tryz.ntmps103;go_wp2_with fail;refine (UA A B n c m d xs ys _ (hx.below z2) hc hm (hy.below z2) hd hmd (by omega)).mono ?_;rintro e w1 ⟨rfl,hw1⟩;have b1:=UU z2 hw1;have c1:=TA hw1;clear hw1;have x1:=x0.next c1
     have y1:=y0.next c1;have x1a:=x1.c1;have y1a:=y1.c0;have y1b:=y1.c1;go_wp2_with fail;refine (Pe B A m d n c ys xs _ (hy.below b1) hd hmd (by omega) (hx.below b1) hc hm (by omega)).mono ?_;rintro e w2 ⟨A1,n1,rfl,o1,b2⟩;have hn1:=EC o1;have y2:=(y1.next b2).c0;go_wp2_with fail;refine (Bo t A1 n1 n1 _ w2 o1.len (by omega)).mono ?_;rintro e w3 ⟨rfl,b3⟩;have k3:=((r0.next c1).next b2).next b3
     go_wp2_with (with_reducible refine An rfl _ _ rfl (w.heap.size+1+1) _ _ _ _ rfl rfl _ _ k3 ?_;intro w4 k4 ho4);refine Ay rfl rfl k4 rfl ?_;exact ⟨_,rfl,((Ch o1 hl.out).below b3).only k3 ho4,AE ((b1.next b2).next b3) (by omega) ho4⟩
theorem BO.neg {w:World} {s:Bool} {A:Option Addr} {n c k:Nat} {xs:List Nat} (hx:Av w A n xs) (hc:n<=c) (hm:c<=9223372036854775807) (hn:n<=k):BO w (.agg #[.bool (!s),.slice A n c]) (-sg s (Limb.val xs)) k:=
 ⟨!s,A,n,c,xs,rfl,hx,hc,hm,hn,(Oa s _).symm⟩
theorem V0 (v u:Value) (Z Y:Int) (k:Nat) (w:World) (hv:BO w v Z k) (hu:BO w u Y k) (hk:k<=137438953472):Calls Tryz.prog 58 #[v,u] w (Cn (Z-Y) (k+1) w):=by
 have hv0:=hv;obtain ⟨s,A,n,c,xs,rfl,-⟩:=hv;obtain ⟨t,B,m,d,ys,rfl,hy,hd,hmd,hmk,rfl⟩:=hu;obtain ⟨x0,y0,r0,z2,-⟩:=Db w #[.bool s,.slice A n c] #[.bool (!t),.slice B m d] #[.bool false,.slice none 0 0];have ha:=ML _ _ Z _ k _ (hv0.below z2) (BO.neg (s:=t) (hy.below z2) hd hmd hmk) hk;rw[<-Int.sub_eq_add_neg]at ha;go_enter Tryz.func58,Tryz.ntmps58;go_wp2_with fail;refine ha.mono ?_;rintro e w1 ⟨v1,rfl,r1,b1⟩;obtain ⟨s1,A1,n1,c1,rfl⟩:=r1.form;have k1:=r0.next b1
 go_wp2_with (with_reducible refine An rfl _ _ rfl (w.heap.size+1+1) _ _ _ _ rfl rfl _ _ k1 ?_;intro w3 k3 ho3);refine Ay rfl rfl k3 rfl ?_;exact ⟨_,rfl,r1.only k1 ho3,AE (z2.next b1) (by omega) ho3⟩
theorem V1 (v u:Value) (Z Y:Int) (k j:Nat) (w:World) (hv:BO w v Z k) (hu:BO w u Y j) (hk:k<=137438953472) (hj:j<=137438953472):Calls Tryz.prog 57 #[v,u] w (Cn (Z*Y) (k+j) w):=by
 have hlv:=Ac hv.lt;have hlu:=Ac hu.lt;obtain ⟨s,A,n,c,xs,rfl,hx,hc,hm,hn,rfl⟩:=hv;obtain ⟨t,B,m,d,ys,rfl,hy,hd,hmd,hmk,rfl⟩:=hu;rw[CP]at hlv hlu;have hl:=Ac (CI _ _ _ _ hlv.out hlu.out);rw[<-UT];obtain ⟨x0,y0,r0,z2,-⟩:=Db w #[.bool s,.slice A n c] #[.bool t,.slice B m d] #[.bool false,.slice none 0 0];go_enter Tryz.func57,Tryz.ntmps57;go_wp2_with fail
 go_region_held3 (fun w'=>w'.cell? ⟨w.heap.size,0,none⟩=some (.bool s)/\w'.cell? ⟨w.heap.size,1,none⟩=some (.slice A n c)/\w'.cell? ⟨w.heap.size+1,0,none⟩=some (.bool t)/\w'.cell? ⟨w.heap.size+1,1,none⟩=some (.slice B m d))
  (first|exact ⟨x0.drew.c0,x0.drew.c1,y0.drew.c0,y0.drew.c1⟩|exact ⟨x1.c0,x1.c1,y1.c0,y1.c1⟩|exact ⟨x2.c0,x2.c1,y2.c0,y2.c1⟩|exact ⟨(x2.other (AD _ _ _ _) (by omega)).c0,(x2.other (AD _ _ _ _) (by omega)).c1,(y2.other (AD _ _ _ _) (by omega)).c0,(y2.other (AD _ _ _ _) (by omega)).c1⟩)
  (first
   |(go_at_call 102;(with_reducible refine (Tr A B n c m d xs ys _ (hx.below z2).drew hc hm (hy.below z2).drew hd hmd (by omega)).mono ?_);rintro e w1 ⟨A1,n1,rfl,o1,b1⟩;have l1:=EC o1;have x1:=x0.drew.next b1;have y1:=y0.drew.next b1)
   |(go_at_call 100;(with_reducible refine (Bo (!(s==t)) A1 n1 n1 _ w1 o1.len (by omega)).mono ?_);rintro e w2 ⟨rfl,b2⟩;have x2:=x1.next b2;have y2:=y1.next b2;have k2:=(r0.drew.next b1).next b2;have k2a:=k2.c0;have k2b:=k2.c1;have k2c:=k2.fr 0;have k2d:=k2.fr 1))
 go_wp2_with fail;refine Ay rfl rfl (k2.set2 _ _) rfl ?_;exact ⟨_,rfl,((Ch o1 hl.out).below b2).only k2 (AD _ _ _ _),AE ((z2.drew.next b1).next b2) (by omega) (AD _ _ _ _)⟩
theorem V2 (v u:Value) (Z Y:Int) (k:Nat) (w:World) (hv:BO w v Z k) (hu:BO w u Y k) (hk:k<=1099511627776):Calls Tryz.prog 119 #[v,u] w (Cn (if Y<Z then Y else Z) k w):=by
 have hv0:=hv;have hu0:=hu;obtain ⟨s,A,n,c,xs,rfl,hx,hc,hm,hn,hZ⟩:=hv;obtain ⟨t,B,m,d,ys,rfl,hy,hd,hmd,hmk,hY⟩:=hu;obtain ⟨x0,y0,r0,z2,-⟩:=Db w #[.bool s,.slice A n c] #[.bool t,.slice B m d] #[.bool false,.slice none 0 0];have hcm:=MK _ _ Z Y k _ (hv0.below z2) (hu0.below z2) hk;unfold BE at hcm;by_cases hlt:Y<Z
 · rw[Hj hlt]at hcm;rw[if_pos hlt];clear hlt hZ;go_enter Tryz.func119,Tryz.ntmps119;go_wp2_with fail;refine hcm.mono ?_;rintro e w1 ⟨rfl,b1⟩;clear hcm;have x1:=x0.next b1;have y1:=y0.next b1;have y1a:=y1.c0;have y1b:=y1.c1;go_wp2_with (with_reducible refine An rfl _ _ rfl w.heap.size _ _ _ _ rfl rfl _ _ x1 ?_;intro w2 x2 ho2;have x2a:=x2.c0;have x2b:=x2.c1);have b2:=AE (z2.next b1) (Nat.le_refl _) ho2;have hf:=Fb t B m d k ys w2 (hy.below b2) hd hmd hmk hk;rw[<-hY]at hf
   refine hf.mono ?_;rintro e w3 ⟨v3,rfl,r3,b3⟩;obtain ⟨s3,A3,n3,c3,rfl⟩:=r3.form;have k3:=((r0.next b1).other ho2 (by omega)).next b3;go_wp2_with (with_reducible refine An rfl _ _ rfl (w.heap.size+1+1) _ _ _ _ rfl rfl _ _ k3 ?_;intro w4 k4 ho4);refine Ay rfl rfl k4 rfl ?_;exact ⟨_,rfl,r3.only k3 ho4,AE (b2.next b3) (by omega) ho4⟩
 · have h1:¬(0<BC Z Y):=(by unfold BC;split<;>(try split)<;>omega);generalize BC Z Y=q at *;rw[if_neg hlt];clear hlt hY;go_enter Tryz.func119,Tryz.ntmps119;go_wp2_with fail;refine hcm.mono ?_;rintro e w1 ⟨rfl,b1⟩;clear hcm;have x1:=x0.next b1;have x1a:=x1.c0;have x1b:=x1.c1;have hf:=Fb s A n c k xs w1 (hx.below (z2.next b1)) hc hm hn hk;rw[<-hZ]at hf;go_wp2_with fail;refine hf.mono ?_;rintro e w3 ⟨v3,rfl,r3,b3⟩;obtain ⟨s3,A3,n3,c3,rfl⟩:=r3.form;have k3:=(r0.next b1).next b3
   go_wp2_with (with_reducible refine An rfl _ _ rfl (w.heap.size+1+1) _ _ _ _ rfl rfl _ _ k3 ?_;intro w4 k4 ho4);refine Ay rfl rfl k4 rfl ?_;exact ⟨_,rfl,r3.only k3 ho4,AE ((z2.next b1).next b3) (by omega) ho4⟩
theorem V3 (v u:Value) (Z Y:Int) (k:Nat) (w:World) (hv:BO w v Z k) (hu:BO w u Y k) (hk:k<=1099511627776):Calls Tryz.prog 118 #[v,u] w (Cn (if Z<Y then Y else Z) k w):=by
 have hv0:=hv;have hu0:=hu;obtain ⟨s,A,n,c,xs,rfl,hx,hc,hm,hn,hZ⟩:=hv;obtain ⟨t,B,m,d,ys,rfl,hy,hd,hmd,hmk,hY⟩:=hu;obtain ⟨x0,y0,r0,z2,-⟩:=Db w #[.bool s,.slice A n c] #[.bool t,.slice B m d] #[.bool false,.slice none 0 0];have hcm:=MK _ _ Z Y k _ (hv0.below z2) (hu0.below z2) hk;unfold BE at hcm;by_cases hlt:Z<Y
 · rw[Hi hlt]at hcm;rw[if_pos hlt];clear hlt hZ;go_enter Tryz.func118,Tryz.ntmps118;go_wp2_with fail;refine hcm.mono ?_;rintro e w1 ⟨rfl,b1⟩;clear hcm;have x1:=x0.next b1;have y1:=y0.next b1;have y1a:=y1.c0;have y1b:=y1.c1;go_wp2_with (with_reducible refine An rfl _ _ rfl w.heap.size _ _ _ _ rfl rfl _ _ x1 ?_;intro w2 x2 ho2;have x2a:=x2.c0;have x2b:=x2.c1);have b2:=AE (z2.next b1) (Nat.le_refl _) ho2;have hf:=Fb t B m d k ys w2 (hy.below b2) hd hmd hmk hk;rw[<-hY]at hf
   refine hf.mono ?_;rintro e w3 ⟨v3,rfl,r3,b3⟩;obtain ⟨s3,A3,n3,c3,rfl⟩:=r3.form;have k3:=((r0.next b1).other ho2 (by omega)).next b3;go_wp2_with (with_reducible refine An rfl _ _ rfl (w.heap.size+1+1) _ _ _ _ rfl rfl _ _ k3 ?_;intro w4 k4 ho4);refine Ay rfl rfl k4 rfl ?_;exact ⟨_,rfl,r3.only k3 ho4,AE (b2.next b3) (by omega) ho4⟩
 · have h1:¬(BC Z Y<0):=(by unfold BC;split<;>(try split)<;>omega);generalize BC Z Y=q at *;rw[if_neg hlt];clear hlt hY;go_enter Tryz.func118,Tryz.ntmps118;go_wp2_with fail;refine hcm.mono ?_;rintro e w1 ⟨rfl,b1⟩;clear hcm;have x1:=x0.next b1;have x1a:=x1.c0;have x1b:=x1.c1;have hf:=Fb s A n c k xs w1 (hx.below (z2.next b1)) hc hm hn hk;rw[<-hZ]at hf;go_wp2_with fail;refine hf.mono ?_;rintro e w3 ⟨v3,rfl,r3,b3⟩;obtain ⟨s3,A3,n3,c3,rfl⟩:=r3.form;have k3:=(r0.next b1).next b3
   go_wp2_with (with_reducible refine An rfl _ _ rfl (w.heap.size+1+1) _ _ _ _ rfl rfl _ _ k3 ?_;intro w4 k4 ho4);refine Ay rfl rfl k4 rfl ?_;exact ⟨_,rfl,r3.only k3 ho4,AE ((z2.next b1).next b3) (by omega) ho4⟩
end
section
open Go.RowKit
def Bg (w:World) (L:List (Nat×Value×Value)) (W:World):Prop:=Below w.heap.size w W/\∀p∈L,AH W p.1 #[p.2.1,p.2.2]/\w.heap.size<=p.1
variable {w W W':World} {L:List (Nat×Value×Value)} {g:Nat} {a b:Value}
theorem Bg.old (h:Bg w L W):Below w.heap.size w W:=h.1
theorem Bg.blk (h:Bg w L W) (hm:(g,a,b)∈L):AH W g #[a,b]:=(h.2 _ hm).1
theorem Bg.nil (h:Below w.heap.size w W):Bg w [] W:=⟨h,fun p hp=>by cases hp⟩
theorem Bg.add (h:Bg w L W) (hb:AH W g #[a,b]) (hg:w.heap.size<=g):Bg w ((g,a,b)::L) W:=
 ⟨h.1,fun p hp=>by
  rcases List.mem_cons.1 hp with rfl|hp
  · exact ⟨hb,hg⟩
  · exact h.2 p hp⟩
theorem Bg.drew (h:Bg w L W):Bg w L W.drew:=⟨h.1.drew,fun p hp=>h.2 p hp⟩
theorem Bg.call (h:Bg w L W) (k:Below W.heap.size W W'):Bg w L W':=⟨h.1.next k,fun p hp=>⟨(h.2 p hp).1.next k,(h.2 p hp).2⟩⟩
theorem Bg.far (h:Bg w L W) (ho:AA g W W') (hg:w.heap.size<=g) (hne:∀p∈L,p.1≠g):Bg w L W':=
 ⟨AE h.1 hg ho,fun p hp=>⟨(h.2 p hp).1.other ho (hne p hp),(h.2 p hp).2⟩⟩
theorem Bg.lt (h:Bg w L W):∀p∈L,p.1<W.heap.size:=fun p hp=>(h.2 p hp).1.lt
theorem Bg.size (h:Bg w L W):w.heap.size<=W.heap.size:=h.1.size
theorem Au.set2 {v:Value} {Z:Int} {k:Nat} {s:Bool} {B:Option Addr} {m d:Nat} (h:Au W v Z k) (hb:AH W g #[.bool s,.slice B m d]) (x y:Value):Au ((W.setCell ⟨g,0,none⟩ x).setCell ⟨g,1,none⟩ y) v Z k:=h.only hb (AD W g x y)
def Aq (w:World) (B:Nat) (L:List (Nat×Value×Value)) (W:World):Prop:=Bg w L W/\B<=W.heap.size/\w.heap.size<=B/\∀p∈L,p.1<B
variable {B:Nat}
theorem Bg.begin (h:Bg w L W):Aq w W.heap.size L W:=⟨h,Nat.le_refl _,h.size,h.lt⟩
theorem Aq.keeps (h:Aq w B L W):Bg w L W:=h.1
theorem Aq.old (h:Aq w B L W):Below w.heap.size w W:=h.1.1
theorem Aq.size (h:Aq w B L W):B<=W.heap.size:=h.2.1
theorem Aq.drew (h:Aq w B L W):Aq w B L W.drew:=⟨h.1.drew,h.2⟩
theorem Aq.call (h:Aq w B L W) (k:Below W.heap.size W W'):Aq w B L W':=⟨h.1.call k,Nat.le_trans h.2.1 k.size,h.2.2⟩
theorem Aq.alloc (h:Aq w B L W) (o:Obj):Aq w B L (W.alloc o):=h.call (Af W o)
theorem Aq.far (h:Aq w B L W) (ho:AA g W W') (hg:B<=g):Aq w B L W':=
 ⟨h.1.far ho (by have:=h.2.2.1;omega) (fun p hp=>by have:=h.2.2.2 p hp;omega),Nat.le_trans h.2.1 (ho.below (B:=0) (Nat.zero_le _) (Nat.zero_le _)).size,h.2.2⟩
def st2 (W:World) (g:Nat) (x y:Value):World:=(W.setCell ⟨g,0,none⟩ x).setCell ⟨g,1,none⟩ y
theorem BS (W:World) (g:Nat) (x y:Value):(W.setCell ⟨g,0,none⟩ x).setCell ⟨g,1,none⟩ y=st2 W g x y:=rfl
theorem Aq.st (h:Aq w B L W) (x y:Value) (hg:B<=g):Aq w B L (st2 W g x y):=h.far (AD W g x y) hg
theorem BF (W:World) (g:Nat) (x y:Value):(st2 W g x y).heap.size=W.heap.size:=by simp[st2,World.setCell]
theorem AH.newAt (W:World) (cs:Array Value) (h:g=W.heap.size):AH (W.alloc (.cells cs 38)) g cs:=h▸AH.new W cs
theorem AH.stSame {x y:Value} (h:AH W g #[.bool false,.slice none 0 0]):AH (st2 W g x y) g #[x,y]:=h.set2 x y
theorem AH.stOther {k:Nat} {cs:Array Value} {x y:Value} (h:AH W k cs) (hne:k≠g):AH (st2 W g x y) k cs:=h.other (AD W g x y) hne
theorem Au.alloc {v:Value} {Z:Int} {k:Nat} (h:Au W v Z k) (o:Obj):Au (W.alloc o) v Z k:=h.below (Af W o)
theorem Au.st {v:Value} {Z:Int} {k:Nat} {s:Bool} {A:Option Addr} {m d:Nat} {x y:Value} (h:Au W v Z k) (hb:AH W g #[.bool s,.slice A m d]):Au (st2 W g x y) v Z k:=h.set2 hb x y
theorem Aq.add1 (h:Aq w B L W) (hg:AH W g #[a,b]) (h0:B<=g):Bg w ((g,a,b)::L) W:=h.1.add hg (Nat.le_trans h.2.2.1 h0)
theorem Aq.mk2 {g k:Nat} {a' b':Value} (h:Bg w [(g,a,b),(k,a',b')] W) (h1:B<=W.heap.size) (h2:w.heap.size<=B) (h3:g<B) (h4:k<B):Aq w B [(g,a,b),(k,a',b')] W:=
 ⟨h,h1,h2,fun p hp=>by
  rcases List.mem_cons.1 hp with rfl|hp
  · exact h3
  · rcases List.mem_cons.1 hp with rfl|hp
    · exact h4
    · cases hp⟩
theorem Bg.tail {p:Nat×Value×Value} (h:Bg w (p::L) W):Bg w L W:=⟨h.1,fun q hq=>h.2 q (List.Mem.tail _ hq)⟩
end
section
open Go.RowKit
section
variable {P:Program} {ops:Array Oper} {Q:Exit->Act->World->Prop} {md:Region.Mode} {S:World->Prop} {late:List Nat}
def DF (P:Program) (md:Region.Mode) (ops:Array Oper) (Q:Exit->Act->World->Prop) (S:World->Prop) (late:List Nat):Nat->Array Bool->Act->World->Prop
 |0,l9,a,w=>Region.ready md ops l9=[]/\Q .normal a w
 |fuel+1,l9,a,w=>(Region.ready md ops l9=[]->Q .normal a w) /\
  ∀i∈Region.ready md ops l9,wpOp P ops Q i (fun a' w'=>(i ∉ late->S w')/\DF P md ops Q S late fuel (l9.setIfInBounds i true) a' w') a w
theorem DF.any:∀(fuel:Nat) (l9:Array Bool) (a:Act) (w:World),DF P md ops Q S late fuel l9 a w->wpAny P md ops Q fuel l9 a w
 |0,_,_,_,h=>h
 |fuel+1,_,_,_,h=>⟨h.1,fun i hi=>wpOp_mono (fun a' w' k=>DF.any fuel _ a' w' k.2) (h.2 i hi)⟩
def Bp (md:Region.Mode) (ops:Array Oper) (l9:Array Bool):Prop:=
 ∀k o,ops[k]?=some o->l9.getD k false=true->∀e∈o.after,Region.binds md e=true->l9.getD e.on false=true
def Ja (md:Region.Mode) (ops:Array Oper) (late:List Nat) (i:Nat):Bool:=
 late.all fun j=>match ops[j]? with
  |none=>true
  |some oj=>oj.after.any fun e=>Region.binds md e&&(e.on==i || match ops[e.on]? with
   |none=>false
   |some ok=>ok.after.any fun e2=>Region.binds md e2&&e2.on==i)
theorem LP {i j:Nat} {oj:Oper} (h:Ja md ops late i=true) (hj:j∈late) (ho:ops[j]?=some oj) :
   ∃e∈oj.after,Region.binds md e=true/\(e.on=i\/∃ok,ops[e.on]?=some ok/\∃e2∈ok.after,Region.binds md e2=true/\e2.on=i):=by
 have h1:=List.all_eq_true.1 h j hj;rw[ho]at h1;obtain ⟨x,hx,h2⟩:=Array.any_eq_true.1 h1;simp only[Bool.and_eq_true,Bool.or_eq_true,beq_iff_eq]at h2;refine ⟨_,Array.getElem_mem hx,h2.1,h2.2.imp id fun h3=>?_⟩;split at h3
 · cases h3
 · rename_i ok hok
   obtain ⟨y,hy,h4⟩:=Array.any_eq_true.1 h3;simp only[Bool.and_eq_true,beq_iff_eq]at h4;exact ⟨ok,hok,_,Array.getElem_mem hy,h4.1,h4.2⟩
theorem DG {l9:Array Bool} {k:Nat} (h1:l9.getD k false=true) (h0:l9.getD k true=false):False:=by
 rcases Nat.lt_or_ge k l9.size with h|h
 · simp[h]at h0 h1;rw[h0]at h1;cases h1
 · simp[Array.getElem?_eq_none h]at h1
theorem Bp.next {l9:Array Bool} {j:Nat} (hc:Bp md ops l9) (hr:j∈Region.ready md ops l9):Bp md ops (l9.setIfInBounds j true):=by
 intro k o ho hk e he hb;obtain ⟨-,oj,hoj,hall⟩:=mem_ready.1 hr;by_cases hjk:j=k
 · subst hjk;rw[hoj]at ho;injection ho with ho
   subst ho;exact getD_set_true (hall e he hb)
 · rw[getD_set_ne false hjk]at hk;exact getD_set_true (hc k o ho hk e he hb)
theorem RI {i j:Nat} {l9:Array Bool} (hl:Ja md ops late i=true) (hc:Bp md ops l9) (hi:l9.getD i true=false) (hj:j∈Region.ready md ops l9):j ∉ late:=by
 intro hm;obtain ⟨-,oj,hoj,hall⟩:=mem_ready.1 hj;obtain ⟨e,he,hb,h⟩:=LP hl hm hoj;rcases h with h|⟨ok,hok,e2,he2,hb2,h⟩
 · exact DG (h▸hall e he hb) hi
 · exact DG (h▸hc _ ok hok (hall e he hb) e2 he2 hb2) hi
theorem DF.first {i:Nat} {oi:Oper} {v:Value} (hi:ops[i]?=some oi) (hsel:∀(j:Nat) (o:Oper) cs b,ops[j]?=some o->o.op≠.select cs b)
  (hQ:∀c a w,Q (.panic c) (a.put oi.dst v) w->Q (.panic c) a w) (hlate:Ja md ops late i=true) (hnl:i ∉ late) :
  ∀(fuel:Nat) (l9:Array Bool) (a:Act) (w:World),
    (∀j oj,ops[j]?=some oj->j≠i->l9.getD j true=false->(∀e∈oj.after,Region.binds md e=true->e.on≠i)->oi.apart ops oj=true) ->
    Bp md ops l9->i∈Region.ready md ops l9->YieldsIf P ops S oi v a->S w ->
    DF P md ops Q S late fuel (l9.setIfInBounds i true) (a.put oi.dst v) w->DF P md ops Q S late (fuel+1) l9 a w:=by
 intro fuel;induction fuel with
 |zero=>
  intro l9 a w _ _ hr hy hS H;refine ⟨fun h=>(by rw[h]at hr;cases hr),fun j hj=>?_⟩;by_cases hji:j=i
  · subst hji;exact hy.wpOp hi hS ⟨fun _=>hS,H⟩
  · have:=ready_mono hj hji;rw[H.1]at this;cases this
 |succ fuel ih=>
  intro l9 a w hfree hc hr hy hS H;refine ⟨fun h=>(by rw[h]at hr;cases hr),fun j hj=>?_⟩;have hi0:=(mem_ready.1 hr).1;by_cases hji:j=i
  · subst hji;exact hy.wpOp hi hS ⟨fun _=>hS,H⟩
  · have hjl:=RI hlate hc hi0 hj;obtain ⟨hjun,oj,hoj,hall⟩:=mem_ready.1 hj;have hno:∀e∈oj.after,Region.binds md e=true->e.on≠i:=fun e he hb heq=>DG (heq▸hall e he hb) hi0
    refine wpOp_mono (fun a' w' k=>⟨fun _=>k.2.1 hjl,?_⟩) (wpOp_putIf hoj (hfree j oj hoj hji hjun hno) (fun cs b=>hsel i oi cs b hi) (fun cs b=>hsel j oj cs b hoj) hQ hy (H.2 j (ready_mono hj hji)));refine ih (l9.setIfInBounds j true) a' w' (fun m om hm hmi hun hn=>hfree m om hm hmi ?_ hn) (hc.next hj) (ready_mono hr (Ne.symm hji)) k.1 (k.2.1 hjl) ?_
    · by_cases hjm:j=m
      · subst hjm;exact hjun
      · rw[getD_set_ne true hjm]at hun;exact hun
    · rw[Array.setIfInBounds_comm _ _ hji];exact k.2.2
theorem DF.take {i:Nat} {oi:Oper} {v:Value} {fuel:Nat} {l9:Array Bool} {a:Act} {w:World} (hi:ops[i]?=some oi)
  (hs:Region.noSelect ops=true) (hf:Region.free md ops l9 i=true) (hr:(Region.ready md ops l9).contains i=true) (hl:(Ja md ops late i&&!late.contains i)=true)
  (hQ:∀c a w,Q (.panic c) (a.put oi.dst v) w->Q (.panic c) a w) (hc:Bp md ops l9) (hy:YieldsIf P ops S oi v a) (hS:S w)
  (h:Bp md ops (l9.setIfInBounds i true)->DF P md ops Q S late fuel (l9.setIfInBounds i true) (a.put oi.dst v) w):DF P md ops Q S late (fuel+1) l9 a w:=by
 simp only[Bool.and_eq_true,Bool.not_eq_true',List.contains_eq_mem,decide_eq_false_iff_not]at hl;have hm:i∈Region.ready md ops l9:=by simpa using hr
 exact DF.first hi (Region.noSelect_spec hs) hQ hl.1 hl.2 fuel l9 a w (Region.free_spec hi hf) hc hm hy hS (h (hc.next hm))
theorem DF.one {i:Nat} {oi:Oper} {fuel:Nat} {l9:Array Bool} {a:Act} {w:World} (hr:Region.ready md ops l9=[i]) (hi:ops[i]?=some oi) (hw:Region.wanted oi (yielded ops a.tmps)=true)
  (h:∀K:Act->World->Prop,Hid (∀a' w',(i ∉ late->S w')->DF P md ops Q S late fuel (l9.setIfInBounds i true) a' w'->K a' w')->Oper.wp P oi a w K Q):DF P md ops Q S late (fuel+1) l9 a w:=
 ⟨fun h0=>(by rw[h0]at hr;cases hr),fun j hj=>by
  rw[hr]at hj;obtain rfl:=List.mem_singleton.1 hj;exact wpOp_step hi (fun K hK=>by rw[if_pos hw];exact h K (fun a' w' h1 h2=>hK a' w' ⟨h1,h2⟩))⟩
theorem DF.done {l9:Array Bool} {a:Act} {w:World} {fuel:Nat} (hr:Region.ready md ops l9=[]) (h:Q .normal a w):DF P md ops Q S late fuel l9 a w:=by
 cases fuel with
 |zero=>exact ⟨hr,h⟩
 |succ n=>exact ⟨fun _=>h,by rw[hr];simp⟩
theorem Bp.zero (n:Nat):Bp md ops (Array.replicate n false):=by
 intro k o _ hk;rcases Nat.lt_or_ge k n with h|h
 · simp[h]at hk
 · simp[Nat.not_lt.2 h]at hk
theorem J5 {id:Nat} {a:Act} {w:World} (hm:P.follows .mixedOrders=true) (late:List Nat) (S:World->Prop)
  (h:Bp .any ops (Array.replicate ops.size false)->DF P .any ops Q S late ops.size (Array.replicate ops.size false) a w.drew):(Code.region id ops true).wp P Q a w:=
 wp_region_any hm (DF.any _ _ _ _ (h (Bp.zero _)))
end
end
end Go.Proofs.YtmedjkhmadfjlaaGreat
