/- Texts of one seat, put together: ZintC RefM RefZ RefZB ZintD. -/
import Derived.Test.YtgohmojcopajoaaGreatDoorH12
import Derived.Test.YtgohmojcopajoaaGreatDoorH10
import Derived.Test.YtgohmojcopajoaaGreatDoorH11
set_option linter.unusedVariables false
set_option linter.unusedSimpArgs false
set_option maxRecDepth 100000
set_option maxHeartbeats 16000000
namespace Go.Proofs.YtgohmojcopajoaaGreatDoor.Nu
section
open Go.RowKit
open Limb (limb AK upto upto_succ Az AA)
theorem WC (s:Bool) (N M:Nat):sg s (N+M)=sg s N+sg s M:=by cases s<;>simp[sg]<;>omega
theorem Tu (s t:Bool) (N M:Nat) (h:s≠t) (hle:M<=N):sg s (N-M)=sg s N+sg t M:=by cases s<;>cases t<;>simp[sg] at*<;> omega
theorem WE (s t:Bool) (N M:Nat):sg (!(s==t)) (N*M)=sg s N*sg t M:=by cases s<;>cases t<;>simp[sg,Int.neg_mul,Int.mul_neg]
theorem Xz {w w':World} (h:∃k,w'=w.drewN k):Below w.heap.size w w':=by obtain ⟨k,rfl⟩:=h;exact Ao w k
theorem WG {w W w':World} (hb:Below w.heap.size w W) (h:∃k,w'=W.drewN k):Below w.heap.size w w':=hb.next (Xz h)
theorem VR (v u:Value) (Z Y:Int) (k:Nat) (w:World) (hv:Cy w v Z k) (hu:Cy w u Y k) (hk:k<=137438953472):Calls Tryz.prog 93 #[v,u] w (Do (Z+Y) (k+1) w):=by
 have hlv:=Aa hv.lt;have hlu:=Aa hu.lt;obtain ⟨s,A,n,c,xs,rfl,hx,hc,hm,hn,rfl⟩:=hv;obtain ⟨t,B,m,d,ys,rfl,hy,hd,hmd,hmk,rfl⟩:=hu;rw[Ek]at hlv hlu;obtain ⟨x0,y0,r0,z2,-⟩:=Gp w #[.bool s,.slice A n c] #[.bool t,.slice B m d] #[.bool false,.slice none 0 0];by_cases hst:s=t
 · subst hst;rw[<-WC];have heq:(s==s)=true:=(by simp);have hl:=Aa (add_lt _ _ _ hlv.out hlu.out);go_enter Tryz.func93,Tryz.ntmps93;go_wp2_with fail;go_region_held3 (fun w'=>w'.cell? ⟨w.heap.size,0,none⟩=some (.bool s)/\w'.cell? ⟨w.heap.size,1,none⟩=some (.slice A n c)/\w'.cell? ⟨w.heap.size+1,1,none⟩=some (.slice B m d))
     (first|exact ⟨x0.drew.c0,x0.drew.c1,y0.drew.c1⟩|exact ⟨x1.c0,x1.c1,y1.c1⟩|exact ⟨x2.c0,x2.c1,y2.c1⟩|exact ⟨(x2.other (AM _ _ _ _) (by omega)).c0,(x2.other (AM _ _ _ _) (by omega)).c1,(y2.other (AM _ _ _ _) (by omega)).c1⟩)
     (first
      |(go_at_call 130;(with_reducible refine (LX A B n c m d xs ys _ (hx.below z2).drew hc hm (by omega) (hy.below z2).drew hd hmd (by omega)).mono ?_);rintro e w1 ⟨A1,n1,rfl,o1,b1⟩;have l1:=I7 o1;have x1:=x0.drew.next b1;have y1:=y0.drew.next b1)
      |(go_at_call 119;(with_reducible refine (CF s A1 n1 n1 _ w1 o1.len (by omega)).mono ?_);rintro e w2 ⟨rfl,b2⟩;have x2:=x1.next b2;have y2:=y1.next b2;have k2:=(r0.drew.next b1).next b2;have k2a:=k2.c0;have k2b:=k2.c1;have k2c:=k2.fr 0;have k2d:=k2.fr 1))
   go_wp2_with fail;refine Au rfl rfl (k2.set2 _ _) rfl ?_;exact ⟨_,rfl,((DR o1 hl.out).below b2).only k2 (AM _ _ _ _),Bg ((z2.drew.next b1).next b2) (by omega) (AM _ _ _ _)⟩
 · have hne:(s==t)=false:=(by simpa using hst);by_cases hle:Limb.val ys<=Limb.val xs
   · rw[<-Tu s t _ _ hst hle];have hl:=Aa (show Limb.val xs-Limb.val ys<4294967296^(k+1) from Nat.lt_of_le_of_lt (Nat.sub_le _ _) (Nat.lt_of_lt_of_le hlv.out (Limb.pow_mono (by omega))));clear hst;go_enter Tryz.func93,Tryz.ntmps93;go_wp2_with fail;refine (PW A B n c m d xs ys _ (hx.below z2) hc hm (by omega) (hy.below z2) hd hmd hle).mono ?_;rintro e w1 ⟨A1,n1,rfl,o1,b1⟩;have hn1:=I7 o1;have x1:=(x0.next b1).c0;go_wp2_with fail
     refine (CF s A1 n1 n1 _ w1 o1.len (by omega)).mono ?_;rintro e w2 ⟨rfl,b2⟩;have k2:=(r0.next b1).next b2;go_wp2_with (with_reducible refine Aj rfl _ _ rfl (w.heap.size+1+1) _ _ _ _ rfl rfl _ _ k2 ?_;intro w3 k3 ho3);refine Au rfl rfl k3 rfl ?_;exact ⟨_,rfl,((DR o1 hl.out).below b2).only k2 ho3,Bg ((z2.next b1).next b2) (by omega) ho3⟩
   · rw[Int.add_comm,<-Tu t s _ _ (Ne.symm hst) (by omega)];have hl:=Aa (show Limb.val ys-Limb.val xs<4294967296^(k+1) from Nat.lt_of_le_of_lt (Nat.sub_le _ _) (Nat.lt_of_lt_of_le hlu.out (Limb.pow_mono (by omega))));clear hst;go_enter Tryz.func93,Tryz.ntmps93;go_wp2_with fail;refine (Ws A B n c m d xs ys _ (hx.below z2) hc hm (hy.below z2) hd hmd (by omega)).mono ?_;rintro e w1 ⟨rfl,hw1⟩;have b1:=WG z2 hw1;have c1:=Xz hw1;clear hw1;have x1:=x0.next c1;have y1:=y0.next c1
     have x1a:=x1.c1;have y1a:=y1.c0;have y1b:=y1.c1;go_wp2_with fail;refine (PW B A m d n c ys xs _ (hy.below b1) hd hmd (by omega) (hx.below b1) hc hm (by omega)).mono ?_;rintro e w2 ⟨A1,n1,rfl,o1,b2⟩;have hn1:=I7 o1;have y2:=(y1.next b2).c0;go_wp2_with fail;refine (CF t A1 n1 n1 _ w2 o1.len (by omega)).mono ?_;rintro e w3 ⟨rfl,b3⟩;have k3:=((r0.next c1).next b2).next b3
     go_wp2_with (with_reducible refine Aj rfl _ _ rfl (w.heap.size+1+1) _ _ _ _ rfl rfl _ _ k3 ?_;intro w4 k4 ho4);refine Au rfl rfl k4 rfl ?_;exact ⟨_,rfl,((DR o1 hl.out).below b3).only k3 ho4,Bg ((b1.next b2).next b3) (by omega) ho4⟩
theorem X8 (v u:Value) (Z Y:Int) (k j:Nat) (w:World) (hv:Cy w v Z k) (hu:Cy w u Y j) (hk:k<=137438953472) (hj:j<=137438953472):Calls Tryz.prog 128 #[v,u] w (Do (Z*Y) (k+j) w):=by
 have hlv:=Aa hv.lt;have hlu:=Aa hu.lt;obtain ⟨s,A,n,c,xs,rfl,hx,hc,hm,hn,rfl⟩:=hv;obtain ⟨t,B,m,d,ys,rfl,hy,hd,hmd,hmk,rfl⟩:=hu;rw[Ek]at hlv hlu;have hl:=Aa (CB _ _ _ _ hlv.out hlu.out);rw[<-WE];obtain ⟨x0,y0,r0,z2,-⟩:=Gp w #[.bool s,.slice A n c] #[.bool t,.slice B m d] #[.bool false,.slice none 0 0];go_enter Tryz.func128,Tryz.ntmps128;go_wp2_with fail
 go_region_held3 (fun w'=>w'.cell? ⟨w.heap.size,0,none⟩=some (.bool s)/\w'.cell? ⟨w.heap.size,1,none⟩=some (.slice A n c)/\w'.cell? ⟨w.heap.size+1,0,none⟩=some (.bool t)/\w'.cell? ⟨w.heap.size+1,1,none⟩=some (.slice B m d))
  (first|exact ⟨x0.drew.c0,x0.drew.c1,y0.drew.c0,y0.drew.c1⟩|exact ⟨x1.c0,x1.c1,y1.c0,y1.c1⟩|exact ⟨x2.c0,x2.c1,y2.c0,y2.c1⟩|exact ⟨(x2.other (AM _ _ _ _) (by omega)).c0,(x2.other (AM _ _ _ _) (by omega)).c1,(y2.other (AM _ _ _ _) (by omega)).c0,(y2.other (AM _ _ _ _) (by omega)).c1⟩)
  (first
   |(go_at_call 159;(with_reducible refine (Vb A B n c m d xs ys _ (hx.below z2).drew hc hm (hy.below z2).drew hd hmd (by omega)).mono ?_);rintro e w1 ⟨A1,n1,rfl,o1,b1⟩;have l1:=I7 o1;have x1:=x0.drew.next b1;have y1:=y0.drew.next b1)
   |(go_at_call 119;(with_reducible refine (CF (!(s==t)) A1 n1 n1 _ w1 o1.len (by omega)).mono ?_);rintro e w2 ⟨rfl,b2⟩;have x2:=x1.next b2;have y2:=y1.next b2;have k2:=(r0.drew.next b1).next b2;have k2a:=k2.c0;have k2b:=k2.c1;have k2c:=k2.fr 0;have k2d:=k2.fr 1))
 go_wp2_with fail;refine Au rfl rfl (k2.set2 _ _) rfl ?_;exact ⟨_,rfl,((DR o1 hl.out).below b2).only k2 (AM _ _ _ _),Bg ((z2.drew.next b1).next b2) (by omega) (AM _ _ _ _)⟩
end
section
open Go.RowKit
open Limb (limb AK upto upto_succ Az AA)
theorem Km (ys:List Nat) (j:Nat) (h:j<ys.length):Limb.val (ys.drop j)=limb ys j+4294967296*Limb.val (ys.drop (j+1)):=by rw[List.drop_eq_getElem_cons h];unfold limb;rw[List.getD_eq_getElem?_getD,List.getElem?_eq_getElem h];rfl
theorem Tv (X y D:Nat):4294967296*(X*D)+X*y=X*(y+4294967296*D):=by rw[Nat.mul_add,Nat.mul_left_comm X 4294967296 D];omega
theorem Nl (ys:List Nat) (h:Limb.Ok ys) (k:Nat):Limb.val (ys.drop k)<4294967296^ys.length:=by have:=Limb.val_lt (ys.drop k) (h.drop k);exact Nat.lt_of_lt_of_le this (Limb.pow_mono (by rw[List.length_drop];omega))
theorem Tw (A B:Option Addr) (n c m d:Nat) (xs ys:List Nat) (w:World) (hx:Nums w A n xs) (hy:Nums w B m ys) (hn:n<=137438953472) (hm:m<=137438953472) :
  Calls Tryz.prog 117 #[.slice A n c,.slice B m d] w (IX (Limb.val xs*Limb.val ys) w):=by
 go_enter Tryz.func117,Tryz.ntmps117;go_wp2_with fail;go_loopw [5,6] (fun v i wr=>∃(k n1 c1:Nat) (A1:Option Addr),k<=m/\i=.int .i64 ((k:Int)-1)/\v=.slice A1 n1 c1/\n1<=n+m/\n1<=c1/\c1<=9223372036854775807/\Nums wr A1 n1 (Limb.canon (Limb.val xs*Limb.val (ys.drop k)))/\Below w.heap.size w wr) (fun _ i _=>((intOf i)+1).toNat)
 case atStart=>
  refine ⟨m,0,0,_,Nat.le_refl _,rfl,rfl,by omega,by omega,by omega,?_,(Below.refl _ _).alloc (Nat.le_refl _) _⟩;have e:Limb.val xs*Limb.val (ys.drop m)=0:=by rw[List.drop_of_length_le (by rw[hy.len];exact Nat.le_refl _)];simp[Limb.val]
  rw[e];exact Nums.nil _ _
 case round=>
  obtain ⟨k,n1,c1,A1,hk,rfl,rfl,hn1,hc1,hc9,hN,hB⟩:=hrel;rcases Nat.eq_zero_or_pos k with hk0|hk0
  · subst hk0;rw[List.drop_zero]at hN;go_wp2_with fail;refine (D8 A1 n1 c1 _ wr hN (by omega)).mono ?_;rintro e w2 ⟨A2,n2,c2,rfl,hN2,h1,h2,hB2⟩;rw[Limb.val_canon]at hN2;go_wp2_with fail;go_ret
    exact ⟨A2,n2,c2,rfl,hN2,h1,h2,hB.next hB2⟩
  · obtain ⟨j,rfl⟩:∃j,k=j+1:=⟨k-1,by omega⟩;have e1:(((j+1:Nat):Int)-1)=(j:Int):=(by omega);rw[e1];clear e1 hk0;generalize hN0:Limb.val xs*Limb.val (ys.drop (j+1))=N at *;have HN0:=Lib.hid hN0;clear hN0;have hlenN:=hN.len;have HLN:=Lib.hid hlenN;clear hlenN;obtain ⟨wo,rfl⟩:∃wo:World,wo=wr:=⟨_,rfl⟩;go_wp2_with fail
    go_loopw [7,8] (fun v i wr=>∃t:Nat,t<=n1/\i=.int .i64 (t:Int)/\Lb wr wo.heap.size v (0::(Limb.canon N).take t)/\Below wo.heap.size wo wr) (fun _ i _=>n1-(intOf i).toNat)
    case atStart=> refine ⟨0,Nat.zero_le _,rfl,⟨⟨rfl,.inr ⟨wo.heap.size,1,#[.int .u32 0],rfl,Nat.le_refl _,heap_alloc_new wo _,Nat.le_refl _,by unfold maxLen;omega,rfl,rfl⟩⟩,Limb.Ok.cons (by omega) (by rw[List.take_zero];exact Limb.Ok.nil)⟩,Ae wo _⟩
    case round=>
     obtain ⟨t,ht,rfl,hL,hB2⟩:=hrel;by_cases htn:t<n1
     · obtain ⟨b,o,x,rfl,hxl,hxe,hcx⟩:=(hN.below hB2).at_ htn;have HX:=Lib.hid hxe;clear hxe;have hlen:(0::(Limb.canon N).take t).length<=4398046511104:=(by rw[List.length_cons,List.length_take];omega);go_wp2_with (at_builtin;refine BD _ rfl _ _ rfl wo.heap.size _ _ rfl (hL.alloc _) _ x rfl (J2 _ _ _) hxl hlen (by have:=hB2.size;simp;omega) ?_;intro v' w1 hL1 hB1);go_roundw
       case rel=> refine ⟨t+1,by omega,by go_num,?_,(hB2.alloc hB2.size _).trans hB1⟩;rw[Limb.take_succ_getD _ t (by rw[HLN.out];omega),<-HX.out];exact hL1
       case measure=>simp[intOf]<;>omega
     · rw[List.take_of_length_le (by rw[HLN.out];omega)]at hL;obtain ⟨A3,c3,rfl,hN3,hc3,hc93⟩:=hL.form;have e3:(0::Limb.canon N).length=n1+1:=(by rw[List.length_cons,HLN.out]);rw[e3];rw[e3]at hN3 hc3;have E3:=Lib.hid e3;have t2:=hB.next hB2;obtain ⟨b,o,y,rfl,hyl,hye,hcy⟩:=(hy.below t2).at_ (i:=j) (by omega);have HY:=Lib.hid hye;clear hye e3 hL;go_wp2_with fail;refine (Lf A n c xs y wr (hx.below t2) (by omega) hyl).mono ?_;rintro e w4 ⟨A4,n4,c4,rfl,hN4,h1,h2,hB4⟩
       have l4:n4<=n+1:=by rw[<-hN4.len];exact Limb.canon_len_le _ _ (CB _ _ _ 1 hx.lt (by omega))
       go_wp2_with fail;refine (Gb A3 A4 (n1+1) c3 n4 c4 _ _ w4 (hN3.below hB4) hN4 (by omega) (by omega)).mono ?_;rintro e w5 ⟨A5,n5,c5,rfl,hN5,h15,h25,hB5⟩;have ev:Limb.val (0::Limb.canon N)+Limb.val (Limb.canon (Limb.val xs*y))=Limb.val xs*Limb.val (ys.drop j):=by rw[Limb.val_canon,Limb.val_cons,Limb.val_canon,<-HN0.out,Km ys j (by rw[hy.len];omega),Nat.zero_add,HY.out];exact Tv _ _ _
       rw[ev]at hN5;clear ev;go_wp2_with fail;go_roundw
       case rel=> refine ⟨j,n5,c5,A5,by omega,by go_num,rfl,?_,h15,h25,hN5,(t2.next hB4).next hB5⟩;rw[<-hN5.len];have h1:=CB _ _ n m hx.lt (by have:=Nl ys hy.ok j;rwa [hy.len]at this);exact Limb.canon_len_le _ _ h1
       case measure=>simp[intOf]<;>omega
end
section
open Go.RowKit
open Limb (limb AK upto upto_succ Az AA)
theorem BV (s:Bool) (A:Option Addr) (n c k:Nat) (xs:List Nat) (w:World) (hx:Nums w A n xs) (hk:n<=k) (hb:k<=1099511627776) :
   Calls Tryz.prog 114 #[.bool s,.slice A n c] w (Do (sg s (Limb.val xs)) k w):=by
 have hlt:=Aa hx.lt;obtain ⟨z1,z2,-⟩:=Dn w #[.bool false,.slice none 0 0];have ht:=D8 A n c xs _ (hx.below z2) (by omega);generalize Limb.val xs=N at *;by_cases h0:N=0
 · subst h0;go_enter Tryz.func114,Tryz.ntmps114;go_wp2_with fail;refine ht.mono ?_;rintro e w1 ⟨A1,n1,c1,rfl,o1,l1,m1,b1⟩;obtain rfl:n1=0:=(by rw[<-o1.len];rfl);have k1:=z1.next b1;go_wp2_with (with_reducible refine Aj rfl _ _ rfl w.heap.size _ _ _ _ rfl rfl _ _ k1 ?_;intro w3 k3 ho3);refine Au rfl rfl k3 rfl ?_;exact ⟨_,rfl,by rw[Gr];exact AL.zero _ _,Bg (z2.next b1) (Nat.le_refl _) ho3⟩
 · have HP:=Aa (Nat.pos_of_ne_zero h0);go_enter Tryz.func114,Tryz.ntmps114;go_wp2_with fail;refine ht.mono ?_;rintro e w1 ⟨A1,n1,c1,rfl,o1,l1,m1,b1⟩;have hn1:((n1:Int)==0)=false:=by
    have:n1≠0:=fun h=>h0 ((Limb.canon_len_zero _).1 (by rw[o1.len];exact h))
    simp;omega
   have hl1:n1<=n:=Bj o1 hlt.out;have k1:=z1.next b1;clear h0;go_wp2_with (with_reducible refine Aj rfl _ _ rfl w.heap.size _ _ _ _ rfl rfl _ _ k1 ?_;intro w3 k3 ho3);refine Au rfl rfl k3 rfl ?_;exact ⟨_,rfl,⟨A1,n1,c1,by rw[Tq s N HP.out],by rw[Ek];exact o1.keepBlk k1 ho3,l1,m1,by omega⟩,Bg (z2.next b1) (Nat.le_refl _) ho3⟩
theorem Vh (v:Value) (Z:Int) (k:Nat) (w:World) (hv:Cy w v Z k) (hk:k<=1099511627776):Calls Tryz.prog 113 #[v] w (Do Z k w):=by
 obtain ⟨s,A,n,c,xs,rfl,hx,hc,hm,hn,rfl⟩:=hv;obtain ⟨z0,z1,z2,-⟩:=Fz w #[.bool s,.slice A n c] #[.bool false,.slice none 0 0];have hf:=BV s A n c k xs _ (hx.below z2) hn hk;skip
 go_enter Tryz.func113,Tryz.ntmps113;go_wp2_with fail;refine hf.mono ?_;rintro e w1 ⟨v1,rfl,r1,b1⟩;obtain ⟨s1,A1,n1,c1,rfl⟩:=r1.form;have k1:=z1.next b1;go_wp2_with (with_reducible refine Aj rfl _ _ rfl (w.heap.size+1) _ _ _ _ rfl rfl _ _ k1 ?_;intro w3 k3 ho3);refine Au rfl rfl k3 rfl ?_;exact ⟨_,rfl,r1.only k1 ho3,Bg (z2.next b1) (by omega) ho3⟩
theorem Tx (v:Value) (Z:Int) (k:Nat) (w:World) (hv:Cy w v Z k) (hk:k<=1099511627776):Calls Tryz.prog 82 #[v] w (Do (-Z) k w):=by
 obtain ⟨s,A,n,c,xs,rfl,hx,hc,hm,hn,rfl⟩:=hv;obtain ⟨z0,z1,z2,-⟩:=Fz w #[.bool s,.slice A n c] #[.bool false,.slice none 0 0];have hf:=BV (!s) A n c k xs _ (hx.below z2) hn hk;rw[Ts]at hf;go_enter Tryz.func82,Tryz.ntmps82;go_wp2_with fail;refine hf.mono ?_;rintro e w1 ⟨v1,rfl,r1,b1⟩;obtain ⟨s1,A1,n1,c1,rfl⟩:=r1.form;have k1:=z1.next b1;go_wp2_with (with_reducible refine Aj rfl _ _ rfl (w.heap.size+1) _ _ _ _ rfl rfl _ _ k1 ?_;intro w3 k3 ho3);refine Au rfl rfl k3 rfl ?_
 exact ⟨_,rfl,r1.only k1 ho3,Bg (z2.next b1) (by omega) ho3⟩
def Iu (Z:Int) (w:World) (e:Ending) (w':World):Prop:=e=.returned (.int .i64 Z.sign)/\Below w.heap.size w w'
theorem Bz (v:Value) (Z:Int) (k:Nat) (w:World) (hv:Cy w v Z k) (hk:k<=1099511627776):Calls Tryz.prog 75 #[v] w (Iu Z w):=by
 obtain ⟨s,A,n,c,xs,rfl,hx,hc,hm,hn,rfl⟩:=hv;obtain ⟨z1,z2,-⟩:=Dn w #[.bool s,.slice A n c];have ht:=D8 A n c xs _ (hx.below z2) (by omega);generalize Limb.val xs=N at *;by_cases h0:N=0
 · subst h0;rw[Gr];go_enter Tryz.func75,Tryz.ntmps75;go_wp2_with fail;refine ht.mono ?_;rintro e w1 ⟨A1,n1,c1,rfl,o1,l1,m1,b1⟩;obtain rfl:n1=0:=(by rw[<-o1.len];rfl);go_wp2_with fail;go_ret
   exact ⟨rfl,z2.next b1⟩
 · cases s with
   |true=>
    have hs:Hid (Int.sign (sg true N)=-1):=(by show _=_;rw[Gq];exact Int.sign_eq_neg_one_of_neg (by omega));go_enter Tryz.func75,Tryz.ntmps75;go_wp2_with fail;refine ht.mono ?_;rintro e w1 ⟨A1,n1,c1,rfl,o1,l1,m1,b1⟩;have hn1:((n1:Int)==0)=false:=by
     have:n1≠0:=fun h=>h0 ((Limb.canon_len_zero _).1 (by rw[o1.len];exact h))
     simp;omega
    have x1:=(z1.next b1).c0;clear h0;go_wp2_with fail;go_ret
    exact ⟨by rw[hs.out];rfl,z2.next b1⟩
   |false=>
    have hs:Hid (Int.sign (sg false N)=1):=(by show _=_;rw[EV];exact Int.sign_eq_one_of_pos (by omega));go_enter Tryz.func75,Tryz.ntmps75;go_wp2_with fail;refine ht.mono ?_;rintro e w1 ⟨A1,n1,c1,rfl,o1,l1,m1,b1⟩;have hn1:((n1:Int)==0)=false:=by
     have:n1≠0:=fun h=>h0 ((Limb.canon_len_zero _).1 (by rw[o1.len];exact h))
     simp;omega
    have x1:=(z1.next b1).c0;clear h0;go_wp2_with fail;go_ret
    exact ⟨by rw[hs.out];rfl,z2.next b1⟩
theorem Cy.abs {s:Bool} {Z:Int} {N:Nat} (h:Z=sg s N):N=Z.natAbs:=by rw[h,Ek]
theorem J9 (v u:Value) (Z Y:Int) (k:Nat) (w:World) (hv:Cy w v Z k) (hu:Cy w u Y k) (hk:k<=137438953472) (hno:¬(Z<0/\0<=Y)) :
   Calls Tryz.prog 83 #[v,u] w (Do (Z+Y) (k+1) w):=by
 have hlv:=Aa hv.lt;have hlu:=Aa hu.lt;have hv0:=hv;have hu0:=hu;obtain ⟨s,A,n,c,xs,rfl,hx,hc,hm,hn,hZ⟩:=hv;obtain ⟨t,B,m,d,ys,rfl,hy,hd,hmd,hmk,hY⟩:=hu;have HN:=Aa (Cy.abs hZ);have HM:=Aa (Cy.abs hY);clear hZ hY;obtain ⟨x0,y0,r0,z2,-⟩:=Gp w #[.bool s,.slice A n c] #[.bool t,.slice B m d] #[.bool false,.slice none 0 0];by_cases hz:Z<0
 · have hy0:Y<0:=(by omega);have hE:=Aa (show sg true (Z.natAbs+Y.natAbs)=Z+Y by rw[Gq];omega);have hz2:=Int.sign_neg_iff.2 hz;have hy2:=Int.sign_neg_iff.2 hy0;clear hno;go_enter Tryz.func83,Tryz.ntmps83;go_wp2_with fail;refine (Bz _ Z k _ (hv0.below z2) (by omega)).mono ?_;rintro e w1 ⟨rfl,b1⟩;have t1:=z2.next b1;have x1:=x0.next b1;have y1:=y0.next b1;have x1a:=x1.c0;have x1b:=x1.c1;have y1a:=y1.c0;have y1b:=y1.c1;go_wp2_with fail
   refine (Bz _ Y k w1 (hu0.below t1) (by omega)).mono ?_;rintro e w2 ⟨rfl,b2⟩;have t2:=t1.next b2;have x2:=x1.next b2;have y2:=y1.next b2;have x2a:=x2.c0;have x2b:=x2.c1;have y2a:=y2.c0;have y2b:=y2.c1;go_wp2_with fail;refine (Gb A B n c m d xs ys w2 (hx.below t2) (hy.below t2) (by omega) (by omega)).mono ?_;rintro e w3 ⟨A5,n5,c5,rfl,o5,l5,m5,b3⟩;rw[HN.out,HM.out]at o5;have ln5:n5<=k+1:=Bj o5 (add_lt _ _ _ hlv.out hlu.out);go_wp2_with fail
   refine (BV true A5 n5 c5 (k+1) _ w3 o5 ln5 (by omega)).mono ?_;rintro e w4 ⟨v6,rfl,z6,b4⟩;rw[Limb.val_canon,hE.out]at z6;obtain ⟨s6,A6,n6,c6,rfl⟩:=z6.form;have k6:=((((r0.next b1).next b2).next b3).next b4);go_wp2_with (with_reducible refine Aj rfl _ _ rfl (w.heap.size+1+1) _ _ _ _ rfl rfl _ _ k6 ?_;intro w9 k9 ho9);refine Au rfl rfl k9 rfl ?_;exact ⟨_,rfl,z6.only k6 ho9,Bg ((t2.next b3).next b4) (by omega) ho9⟩
 · have hz2:0<=Z.sign:=Int.sign_nonneg_iff.2 (by omega);by_cases hy0:Y<0
   · have hy2:=Int.sign_neg_iff.2 hy0;by_cases hle:Y.natAbs<=Z.natAbs
     · have hE:=Aa (show sg false (Z.natAbs-Y.natAbs)=Z+Y by rw[EV];omega);have hl:=Aa (show Z.natAbs-Y.natAbs<4294967296^(k+1) from Nat.lt_of_le_of_lt (Nat.sub_le _ _) (Nat.lt_of_lt_of_le hlv.out (Limb.pow_mono (by omega))));have hle':=Aa hle;clear hno hle;go_enter Tryz.func83,Tryz.ntmps83;go_wp2_with fail;refine (Bz _ Z k _ (hv0.below z2) (by omega)).mono ?_;rintro e w1 ⟨rfl,b1⟩;have t1:=z2.next b1;have x1:=x0.next b1;have y1:=y0.next b1;have x1a:=x1.c0
       have x1b:=x1.c1;have y1a:=y1.c0;have y1b:=y1.c1;go_wp2_with fail;refine (Bz _ Z k w1 (hv0.below t1) (by omega)).mono ?_;rintro e w2 ⟨rfl,b2⟩;have t2:=t1.next b2;have x2:=x1.next b2;have y2:=y1.next b2;have x2a:=x2.c0;have x2b:=x2.c1;have y2a:=y2.c0;have y2b:=y2.c1;go_wp2_with fail;refine (Bz _ Y k w2 (hu0.below t2) (by omega)).mono ?_;rintro e w3 ⟨rfl,b3⟩;have t3:=t2.next b3;have x3:=x2.next b3;have y3:=y2.next b3;have x3a:=x3.c0;have x3b:=x3.c1;have y3a:=y3.c0
       have y3b:=y3.c1;go_wp2_with fail;refine (Bz _ Z k w3 (hv0.below t3) (by omega)).mono ?_;rintro e w4 ⟨rfl,b4⟩;have t4:=t3.next b4;have x4:=x3.next b4;have y4:=y3.next b4;have x4a:=x4.c0;have x4b:=x4.c1;have y4a:=y4.c0;have y4b:=y4.c1;go_wp2_with fail;refine (MU A B n c m d xs ys w4 (hx.below t4) (hy.below t4) (by omega) (by omega) (by rw[HN.out,HM.out];exact hle'.out)).mono ?_;rintro e w5 ⟨A5,n5,c5,rfl,o5,l5,m5,b5⟩;rw[HN.out,HM.out]at o5
       have ln5:n5<=k+1:=Bj o5 hl.out;go_wp2_with fail;refine (BV false A5 n5 c5 (k+1) _ w5 o5 ln5 (by omega)).mono ?_;rintro e w6 ⟨v6,rfl,z6,b6⟩;rw[Limb.val_canon,hE.out]at z6;obtain ⟨s6,A6,n6,c6,rfl⟩:=z6.form;have k6:=((((((r0.next b1).next b2).next b3).next b4).next b5).next b6);go_wp2_with (with_reducible refine Aj rfl _ _ rfl (w.heap.size+1+1) _ _ _ _ rfl rfl _ _ k6 ?_;intro w9 k9 ho9);refine Au rfl rfl k9 rfl ?_
       exact ⟨_,rfl,z6.only k6 ho9,Bg ((t4.next b5).next b6) (by omega) ho9⟩
     · have hE:=Aa (show sg true (Y.natAbs-Z.natAbs)=Z+Y by rw[Gq];omega);have hl:=Aa (show Y.natAbs-Z.natAbs<4294967296^(k+1) from Nat.lt_of_le_of_lt (Nat.sub_le _ _) (Nat.lt_of_lt_of_le hlu.out (Limb.pow_mono (by omega))));have hle':=Aa (show Z.natAbs<Y.natAbs by omega);clear hno hle;go_enter Tryz.func83,Tryz.ntmps83;go_wp2_with fail;refine (Bz _ Z k _ (hv0.below z2) (by omega)).mono ?_;rintro e w1 ⟨rfl,b1⟩;have t1:=z2.next b1;have x1:=x0.next b1;have y1:=y0.next b1
       have x1a:=x1.c0;have x1b:=x1.c1;have y1a:=y1.c0;have y1b:=y1.c1;go_wp2_with fail;refine (Bz _ Z k w1 (hv0.below t1) (by omega)).mono ?_;rintro e w2 ⟨rfl,b2⟩;have t2:=t1.next b2;have x2:=x1.next b2;have y2:=y1.next b2;have x2a:=x2.c0;have x2b:=x2.c1;have y2a:=y2.c0;have y2b:=y2.c1;go_wp2_with fail;refine (Bz _ Y k w2 (hu0.below t2) (by omega)).mono ?_;rintro e w3 ⟨rfl,b3⟩;have t3:=t2.next b3;have x3:=x2.next b3;have y3:=y2.next b3;have x3a:=x3.c0;have x3b:=x3.c1
       have y3a:=y3.c0;have y3b:=y3.c1;go_wp2_with fail;refine (Bz _ Z k w3 (hv0.below t3) (by omega)).mono ?_;rintro e w4 ⟨rfl,b4⟩;have t4:=t3.next b4;have x4:=x3.next b4;have y4:=y3.next b4;have x4a:=x4.c0;have x4b:=x4.c1;have y4a:=y4.c0;have y4b:=y4.c1;go_wp2_with fail;refine (UW A B n c m d xs ys w4 (hx.below t4) (hy.below t4) (by omega) (by omega) (by rw[HN.out,HM.out];exact hle'.out)).mono ?_;rintro e w' ⟨rfl,rfl⟩;go_wp2_with fail
       refine (MU B A m d n c ys xs w4 (hy.below t4) (hx.below t4) (by omega) (by omega) (by rw[HN.out,HM.out];exact Nat.le_of_lt hle'.out)).mono ?_;rintro e w5 ⟨A5,n5,c5,rfl,o5,l5,m5,b5⟩;rw[HN.out,HM.out]at o5;have ln5:n5<=k+1:=Bj o5 hl.out;go_wp2_with fail;refine (BV true A5 n5 c5 (k+1) _ w5 o5 ln5 (by omega)).mono ?_;rintro e w6 ⟨v6,rfl,z6,b6⟩;rw[Limb.val_canon,hE.out]at z6;obtain ⟨s6,A6,n6,c6,rfl⟩:=z6.form
       have k6:=((((((r0.next b1).next b2).next b3).next b4).next b5).next b6);go_wp2_with (with_reducible refine Aj rfl _ _ rfl (w.heap.size+1+1) _ _ _ _ rfl rfl _ _ k6 ?_;intro w9 k9 ho9);refine Au rfl rfl k9 rfl ?_;exact ⟨_,rfl,z6.only k6 ho9,Bg ((t4.next b5).next b6) (by omega) ho9⟩
   · have hy2:0<=Y.sign:=Int.sign_nonneg_iff.2 (by omega);have hE:=Aa (show sg false (Z.natAbs+Y.natAbs)=Z+Y by rw[EV];omega);clear hno;go_enter Tryz.func83,Tryz.ntmps83;go_wp2_with fail;refine (Bz _ Z k _ (hv0.below z2) (by omega)).mono ?_;rintro e w1 ⟨rfl,b1⟩;have t1:=z2.next b1;have x1:=x0.next b1;have y1:=y0.next b1;have x1a:=x1.c0;have x1b:=x1.c1;have y1a:=y1.c0;have y1b:=y1.c1;go_wp2_with fail;refine (Bz _ Z k w1 (hv0.below t1) (by omega)).mono ?_
     rintro e w2 ⟨rfl,b2⟩;have t2:=t1.next b2;have x2:=x1.next b2;have y2:=y1.next b2;have x2a:=x2.c0;have x2b:=x2.c1;have y2a:=y2.c0;have y2b:=y2.c1;go_wp2_with fail;refine (Bz _ Y k w2 (hu0.below t2) (by omega)).mono ?_;rintro e w3 ⟨rfl,b3⟩;have t3:=t2.next b3;have x3:=x2.next b3;have y3:=y2.next b3;have x3a:=x3.c0;have x3b:=x3.c1;have y3a:=y3.c0;have y3b:=y3.c1;go_wp2_with fail;refine (Gb A B n c m d xs ys w3 (hx.below t3) (hy.below t3) (by omega) (by omega)).mono ?_
     rintro e w4 ⟨A5,n5,c5,rfl,o5,l5,m5,b4⟩;rw[HN.out,HM.out]at o5;have ln5:n5<=k+1:=Bj o5 (add_lt _ _ _ hlv.out hlu.out);go_wp2_with fail;refine (BV false A5 n5 c5 (k+1) _ w4 o5 ln5 (by omega)).mono ?_;rintro e w5 ⟨v6,rfl,z6,b5⟩;rw[Limb.val_canon,hE.out]at z6;obtain ⟨s6,A6,n6,c6,rfl⟩:=z6.form;have k6:=(((((r0.next b1).next b2).next b3).next b4).next b5);go_wp2_with (with_reducible refine Aj rfl _ _ rfl (w.heap.size+1+1) _ _ _ _ rfl rfl _ _ k6 ?_;intro w9 k9 ho9)
     refine Au rfl rfl k9 rfl ?_;exact ⟨_,rfl,z6.only k6 ho9,Bg ((t3.next b4).next b5) (by omega) ho9⟩
theorem Hr (v u:Value) (Z Y:Int) (k:Nat) (w:World) (hv:Cy w v Z k) (hu:Cy w u Y k) (hk:k<=137438953472) :
   Calls Tryz.prog 83 #[v,u] w (Do (Z+Y) (k+1) w):=by
 by_cases hno:Z<0/\0<=Y
 · have hz2:=Int.sign_neg_iff.2 hno.1;have hy2:0<=Y.sign:=Int.sign_nonneg_iff.2 hno.2;have hno':¬(Y<0/\0<=Z):=(by omega);have hz:=hno.1;have hy0:=hno.2;have hv0:=hv;have hu0:=hu;obtain ⟨s,A,n,c,xs,rfl,-⟩:=hv;obtain ⟨t,B,m,d,ys,rfl,-⟩:=hu;obtain ⟨x0,y0,r0,z2,-⟩:=Gp w #[.bool s,.slice A n c] #[.bool t,.slice B m d] #[.bool false,.slice none 0 0];clear hno;go_enter Tryz.func83,Tryz.ntmps83;go_wp2_with fail;refine (Bz _ Z k _ (hv0.below z2) (by omega)).mono ?_
   rintro e w1 ⟨rfl,b1⟩;have t1:=z2.next b1;have x1:=x0.next b1;have y1:=y0.next b1;have x1a:=x1.c0;have x1b:=x1.c1;have y1a:=y1.c0;have y1b:=y1.c1;go_wp2_with fail;refine (Bz _ Y k w1 (hu0.below t1) (by omega)).mono ?_;rintro e w2 ⟨rfl,b2⟩;have t2:=t1.next b2;have x2:=x1.next b2;have y2:=y1.next b2;have x2a:=x2.c0;have x2b:=x2.c1;have y2a:=y2.c0;have y2b:=y2.c1;go_wp2_with fail;refine (Bz _ Z k w2 (hv0.below t2) (by omega)).mono ?_;rintro e w3 ⟨rfl,b3⟩;have t3:=t2.next b3
   have x3:=x2.next b3;have y3:=y2.next b3;have x3a:=x3.c0;have x3b:=x3.c1;have y3a:=y3.c0;have y3b:=y3.c1;go_wp2_with fail;refine (Bz _ Z k w3 (hv0.below t3) (by omega)).mono ?_;rintro e w4 ⟨rfl,b4⟩;have t4:=t3.next b4;have x4:=x3.next b4;have y4:=y3.next b4;have x4a:=x4.c0;have x4b:=x4.c1;have y4a:=y4.c0;have y4b:=y4.c1;have hmain:=J9 _ _ Y Z k w4 (hu0.below t4) (hv0.below t4) hk hno';rw[Int.add_comm]at hmain;go_wp2_with fail;refine hmain.mono ?_
   rintro e w5 ⟨v6,rfl,z6,b5⟩;obtain ⟨s6,A6,n6,c6,rfl⟩:=z6.form;have k6:=(((((r0.next b1).next b2).next b3).next b4).next b5);go_wp2_with (with_reducible refine Aj rfl _ _ rfl (w.heap.size+1+1) _ _ _ _ rfl rfl _ _ k6 ?_;intro w9 k9 ho9);refine Au rfl rfl k9 rfl ?_;exact ⟨_,rfl,z6.only k6 ho9,Bg (t4.next b5) (by omega) ho9⟩
 · exact J9 v u Z Y k w hv hu hk hno
end
section
open Go.RowKit
open Limb (limb AK upto upto_succ Az AA)
theorem Vi (v u:Value) (Z Y:Int) (k:Nat) (w:World) (hv:Cy w v Z k) (hu:Cy w u Y k) (hk:k<=137438953472) :
  Calls Tryz.prog 77 #[v,u] w (Do (Z-Y) (k+1) w):=by
 have hv0:=hv;have hu0:=hu;obtain ⟨s,A,n,c,xs,rfl,-⟩:=hv;obtain ⟨t,B,m,d,ys,rfl,-⟩:=hu;obtain ⟨x0,y0,r0,z2,-⟩:=Gp w #[.bool s,.slice A n c] #[.bool t,.slice B m d] #[.bool false,.slice none 0 0];go_enter Tryz.func77,Tryz.ntmps77;go_wp2_with fail;go_region_held3 (fun w'=>w'.cell? ⟨w.heap.size,0,none⟩=some (.bool s)/\w'.cell? ⟨w.heap.size,1,none⟩=some (.slice A n c)/\w'.cell? ⟨w.heap.size+1,0,none⟩=some (.bool t)/\w'.cell? ⟨w.heap.size+1,1,none⟩=some (.slice B m d))
  (first|exact ⟨x0.drew.c0,x0.drew.c1,y0.drew.c0,y0.drew.c1⟩|exact ⟨x1.c0,x1.c1,y1.c0,y1.c1⟩|exact ⟨x2.c0,x2.c1,y2.c0,y2.c1⟩|exact ⟨(x2.other (AM _ _ _ _) (by omega)).c0,(x2.other (AM _ _ _ _) (by omega)).c1,(y2.other (AM _ _ _ _) (by omega)).c0,(y2.other (AM _ _ _ _) (by omega)).c1⟩)
  (first
   |(go_at_call 82;(with_reducible refine (Tx _ Y k _ (hu0.below z2.drew) (by omega)).mono ?_);rintro e w1 ⟨v1,rfl,z1,b1⟩;have t1:=z2.drew.next b1;have x1:=x0.drew.next b1;have y1:=y0.drew.next b1)
   |(go_at_call 83;(with_reducible refine (Hr _ v1 Z (-Y) k w1 (hv0.below t1) z1.in_ hk).mono ?_);rintro e w2 ⟨v2,rfl,q2,b2⟩;have t2:=t1.next b2;have x2:=x1.next b2;have y2:=y1.next b2;obtain ⟨s2,A2,n2,c2,rfl⟩:=q2.form;have k2:=(r0.drew.next b1).next b2;have k2a:=k2.c0;have k2b:=k2.c1;have k2c:=k2.fr 0;have k2d:=k2.fr 1))
 go_wp2_with fail;refine Au rfl rfl (k2.set2 _ _) rfl ?_;exact ⟨_,rfl,(q2.ofEq (by omega)).only k2 (AM _ _ _ _),Bg t2 (by omega) (AM _ _ _ _)⟩
theorem Ty (Z Y:Int):(Z-Y).sign=Cn Z Y:=by
 rcases Int.lt_trichotomy Z Y with h|h|h
 · rw[Vf h];exact Int.sign_eq_neg_one_of_neg (by omega)
 · subst h;rw[Int.sub_self];unfold Cn;simp
 · rw[Vg h];exact Int.sign_eq_one_of_pos (by omega)
theorem QT (Z Y:Int):sg (decide (Z.sign*Y.sign<0)) (Z.natAbs*Y.natAbs)=Z*Y:=by
 rw[<-Int.sign_mul,<-Int.natAbs_mul];have:decide ((Z*Y).sign<0)=decide (Z*Y<0):=by rw[decide_eq_decide];exact Int.sign_neg_iff
 rw[this,Ni]
theorem JA (Z Y:Int):-1<=Z.sign*Y.sign/\Z.sign*Y.sign<=1:=by rw[<-Int.sign_mul];exact O4 _
theorem Qa (v u:Value) (Z Y:Int) (k j:Nat) (w:World) (hv:Cy w v Z k) (hu:Cy w u Y j) (hk:k<=68719476736) (hj:j<=68719476736) :
  Calls Tryz.prog 81 #[v,u] w (Do (Z*Y) (k+j) w):=by
 have hlv:=Aa hv.lt;have hlu:=Aa hu.lt;have hv0:=hv;have hu0:=hu;obtain ⟨s,A,n,c,xs,rfl,hx,hc,hm,hn,hZ⟩:=hv;obtain ⟨t,B,m,d,ys,rfl,hy,hd,hmd,hmk,hY⟩:=hu;have HN:=Aa (Cy.abs hZ);have HM:=Aa (Cy.abs hY);have hE:=Aa (QT Z Y);have hr:=JA Z Y;have hsa:=fun w' hw=>Bz _ Z k w' (hv0.below hw) (by omega)
 have hsb:=fun w' hw=>Bz _ Y j w' (hu0.below hw) (by omega)
 unfold Iu at hsa hsb;generalize Z.sign=p at *;generalize Y.sign=q at *;have hw:IntKind.i64.wrap (p*q)=p*q:=IntWalk.i64_in _ (by omega);have HSA:=Aa hsa;have HSB:=Aa hsb;clear hZ hY hsa hsb;obtain ⟨x0,y0,r0,z2,-⟩:=Gp w #[.bool s,.slice A n c] #[.bool t,.slice B m d] #[.bool false,.slice none 0 0];go_enter Tryz.func81,Tryz.ntmps81;go_wp2_with fail
 go_region_held3 (fun w'=>w'.cell? ⟨w.heap.size,0,none⟩=some (.bool s)/\w'.cell? ⟨w.heap.size,1,none⟩=some (.slice A n c)/\w'.cell? ⟨w.heap.size+1,0,none⟩=some (.bool t)/\w'.cell? ⟨w.heap.size+1,1,none⟩=some (.slice B m d))
  (first|exact ⟨x0.drew.c0,x0.drew.c1,y0.drew.c0,y0.drew.c1⟩|exact ⟨x1.c0,x1.c1,y1.c0,y1.c1⟩|exact ⟨x2.c0,x2.c1,y2.c0,y2.c1⟩|exact ⟨x3.c0,x3.c1,y3.c0,y3.c1⟩|exact ⟨x4.c0,x4.c1,y4.c0,y4.c1⟩|exact ⟨(x4.other (AM _ _ _ _) (by omega)).c0,(x4.other (AM _ _ _ _) (by omega)).c1,(y4.other (AM _ _ _ _) (by omega)).c0,(y4.other (AM _ _ _ _) (by omega)).c1⟩)
  (first
   |(go_at_call_of 75 (Value.agg #[.bool s,.slice A n c]);(with_reducible refine (HSA.out _ z2.drew).mono ?_);rintro e w1 ⟨rfl,b1⟩;have t1:=z2.drew.next b1;have x1:=x0.drew.next b1;have y1:=y0.drew.next b1;have r1:=r0.drew.next b1)
   |(go_at_call_of 75 (Value.agg #[.bool t,.slice B m d]);(with_reducible refine (HSB.out w1 t1).mono ?_);rintro e w2 ⟨rfl,b2⟩;have t2:=t1.next b2;have x2:=x1.next b2;have y2:=y1.next b2;have r2:=r1.next b2)
   |(go_at_call 117;(with_reducible refine (Tw A B n c m d xs ys w2 (hx.below t2) (hy.below t2) (by omega) (by omega)).mono ?_);rintro e w3 ⟨A3,n3,c3,rfl,o3,l3,m3,b3⟩;have x3:=x2.next b3;have y3:=y2.next b3;have r3:=r2.next b3;rw[HN.out,HM.out]at o3;have ln3:n3<=k+j:=Bj o3 (CB _ _ _ _ hlv.out hlu.out))
   |(go_at_call 114;(with_reducible refine (BV (decide (p*q<0)) A3 n3 c3 (k+j) _ w3 o3 ln3 (by omega)).mono ?_);rintro e w4 ⟨v4,rfl,z4,b4⟩;rw[Limb.val_canon,hE.out]at z4;obtain ⟨s4,A4,n4,c4,rfl⟩:=z4.form;have x4:=x3.next b4;have y4:=y3.next b4;have k4:=r3.next b4;have k4a:=k4.c0;have k4b:=k4.c1;have k4c:=k4.fr 0;have k4d:=k4.fr 1))
 go_wp2_with fail;refine Au rfl rfl (k4.set2 _ _) rfl ?_;exact ⟨_,rfl,z4.only k4 (AM _ _ _ _),Bg ((t2.next b3).next b4) (by omega) (AM _ _ _ _)⟩
def Xk (b:Bool) (w:World) (e:Ending) (w':World):Prop:=e=.returned (.bool b)/\Below w.heap.size w w'
end
section
open Go.RowKit
open Limb (limb AK upto upto_succ Az AA)
theorem VS (n:Int):IntKind.u64.wrap n=n%18446744073709551616:=by simp[IntKind.wrap,IntKind.bits,IntKind.signed]
theorem Kn (n:Int) (w:World) (h1:-9223372036854775808<=n) (h2:n<=9223372036854775807):Calls Tryz.prog 84 #[.int .i64 n] w (Do n 2 w):=by
 obtain ⟨z1,z2,-⟩:=Dn w #[.bool false,.slice none 0 0];have hl:n.natAbs<18446744073709551616:=by omega
 by_cases hn:n<0
 · have hE:=Aa (show sg true n.natAbs=n by rw[Gq];omega);have hd:decide (n<0)=true:=decide_eq_true hn;go_enter Tryz.func84,Tryz.ntmps84;go_wp2_with fail;refine (of_int _ n.natAbs _ (by rw[VS,VS];omega) (by omega)).mono ?_;rintro e w1 ⟨A1,n1,rfl,o1,b1⟩;have hn1:=I7 o1;go_wp2_with fail;refine (CF true A1 n1 n1 _ w1 o1.len (by omega)).mono ?_;rintro e w2 ⟨rfl,b2⟩;have r2:=(DR (s:=true) (k:=2) o1 (by omega)).below b2;rw[hE.out,hd]at r2;rw[hE.out,hd]
   have k2:=(z1.next b1).next b2;go_wp2_with (with_reducible refine Aj rfl _ _ rfl w.heap.size _ _ _ _ rfl rfl _ _ k2 ?_;intro w3 k3 ho3);refine Au rfl rfl k3 rfl ?_;exact ⟨_,rfl,r2.only k2 ho3,Bg ((z2.next b1).next b2) (Nat.le_refl _) ho3⟩
 · have hE:=Aa (show sg false n.natAbs=n by rw[EV];omega);have hd:decide (n<0)=false:=decide_eq_false hn;go_enter Tryz.func84,Tryz.ntmps84;go_wp2_with fail;refine (of_int _ n.natAbs _ (by omega) (by omega)).mono ?_;rintro e w1 ⟨A1,n1,rfl,o1,b1⟩;have hn1:=I7 o1;go_wp2_with fail;refine (CF false A1 n1 n1 _ w1 o1.len (by omega)).mono ?_;rintro e w2 ⟨rfl,b2⟩;have r2:=(DR (s:=false) (k:=2) o1 (by omega)).below b2;rw[hE.out,hd]at r2;rw[hE.out,hd];have k2:=(z1.next b1).next b2
   go_wp2_with (with_reducible refine Aj rfl _ _ rfl w.heap.size _ _ _ _ rfl rfl _ _ k2 ?_;intro w3 k3 ho3);refine Au rfl rfl k3 rfl ?_;exact ⟨_,rfl,r2.only k2 ho3,Bg ((z2.next b1).next b2) (Nat.le_refl _) ho3⟩
theorem Nm (w:World) (x y:Nat) (us:Array Value) (hus:us=(Ch [x,y]).toArray) (h:x<4294967296) (hy:y<4294967296):Nums (w.alloc (.cells us 173)) (some ⟨w.heap.size,0,none⟩) 2 [x,y]:=
 Nums.new w [x,y] us hus (Limb.Ok.cons h (Limb.Ok.cons hy Limb.Ok.nil)) 2 rfl
theorem XB (n:Int) (w:World) (h1:-9223372036854775808<=n) (h2:n<=9223372036854775807):Calls Tryz.prog 78 #[.int .i64 n] w (Do n 2 w):=by
 obtain ⟨z1,z2,z3⟩:=Dn w #[.bool false,.slice none 0 0];by_cases hn:n<0
 · obtain ⟨m,rfl⟩:∃m:Nat,n=-(m:Int)-1:=⟨(-n-1).toNat,by omega⟩;have hm:m<=9223372036854775807:=(by omega);have e1:-(m:Int)-1+1=-(m:Int):=(by omega);have e2:0 - -(m:Int)=(m:Int):=(by omega);clear h1 h2;have hx:=Nm (w.alloc (.cells #[.bool false,.slice none 0 0] 54)) (m%4294967296) (m/4294967296) #[.int .u32 ((m:Int)%4294967296),.int .u32 ((m:Int)/4294967296)] (by simp[Ch]) (by omega) (by omega)
   have t2:=Ae (w.alloc (.cells #[.bool false,.slice none 0 0] 54)) (.cells #[.int .u32 ((m:Int)%4294967296),.int .u32 ((m:Int)/4294967296)] 173);have s2:=size_alloc (w.alloc (.cells #[.bool false,.slice none 0 0] 54)) (.cells #[.int .u32 ((m:Int)%4294967296),.int .u32 ((m:Int)/4294967296)] 173);rw[z3]at hx s2;have hv:=Aa (show Limb.val [m%4294967296,m/4294967296]=m by simp[Limb.val];omega)
   have hy:=YK ((w.alloc (.cells #[.bool false,.slice none 0 0] 54)).alloc (.cells #[.int .u32 ((m:Int)%4294967296),.int .u32 ((m:Int)/4294967296)] 173)) 1 1 #[.int .u32 1] rfl (by omega) (by omega) rfl;have t3:=Ae ((w.alloc (.cells #[.bool false,.slice none 0 0] 54)).alloc (.cells #[.int .u32 ((m:Int)%4294967296),.int .u32 ((m:Int)/4294967296)] 173)) (.cells #[.int .u32 1] 173);rw[s2]at hy;have T:=(z2.next t2).next t3;have K:=(z1.next t2).next t3;have X:=hx.below t3
   have hE:=Aa (show sg true (m+1)=-(m:Int)-1 by rw[Gq];omega);clear hx t2 t3 s2 z3;go_enter Tryz.func78,Tryz.ntmps78;go_wp2_with fail;refine (Gb _ _ 2 2 1 1 _ _ _ X hy (by omega) (by omega)).mono ?_;rintro e w1 ⟨A1,n1,c1,rfl,o1,l1,m1,b1⟩;rw[hv.out,Limb.val_canon]at o1;have ln1:n1<=2:=Bj o1 (by omega);go_wp2_with fail;refine (BV true A1 n1 c1 2 _ w1 o1 ln1 (by omega)).mono ?_;rintro e w2 ⟨v2,rfl,r2,b2⟩;rw[Limb.val_canon,hE.out]at r2;obtain ⟨s2,A2,n2,c2,rfl⟩:=r2.form
   have k2:=(K.next b1).next b2;go_wp2_with (with_reducible refine Aj rfl _ _ rfl w.heap.size _ _ _ _ rfl rfl _ _ k2 ?_;intro w3 k3 ho3);refine Au rfl rfl k3 rfl ?_;exact ⟨_,rfl,r2.only k2 ho3,Bg ((T.next b1).next b2) (Nat.le_refl _) ho3⟩
 · obtain ⟨m,rfl⟩:=Int.eq_ofNat_of_zero_le (show 0<=n by omega);clear hn h1;have hx:=Nm (w.alloc (.cells #[.bool false,.slice none 0 0] 54)) (m%4294967296) (m/4294967296) #[.int .u32 ((m:Int)%4294967296),.int .u32 ((m:Int)/4294967296)] (by simp[Ch]) (by omega) (by omega);have t2:=Ae (w.alloc (.cells #[.bool false,.slice none 0 0] 54)) (.cells #[.int .u32 ((m:Int)%4294967296),.int .u32 ((m:Int)/4294967296)] 173);rw[z3]at hx
   have hv:=Aa (show Limb.val [m%4294967296,m/4294967296]=m by simp[Limb.val];omega);have hf:=BV false _ 2 2 2 _ _ hx (by omega) (by omega);rw[hv.out,EV]at hf;have K:=z1.next t2;have T:=z2.next t2;clear hx t2 z3 hv;go_enter Tryz.func78,Tryz.ntmps78;go_wp2_with fail;refine hf.mono ?_;rintro e w2 ⟨v2,rfl,r2,b2⟩;obtain ⟨s2,A2,n2,c2,rfl⟩:=r2.form;have k2:=K.next b2;go_wp2_with (with_reducible refine Aj rfl _ _ rfl w.heap.size _ _ _ _ rfl rfl _ _ k2 ?_;intro w3 k3 ho3)
   refine Au rfl rfl k3 rfl ?_;exact ⟨_,rfl,r2.only k2 ho3,Bg (T.next b2) (Nat.le_refl _) ho3⟩
end
end Go.Proofs.YtgohmojcopajoaaGreatDoor.Nu
