/- Texts of one seat, put together: R4Tight TCoef. -/
import Derived.Test.YtmedjkhmadfjlaaGreatR25
import Derived.Test.YtmedjkhmadfjlaaGreatR26
import Derived.Test.YtmedjkhmadfjlaaGreatR27
import Derived.Test.YtmedjkhmadfjlaaGreatR24
import Derived.Test.YtmedjkhmadfjlaaGreatR28
import Derived.Test.YtmedjkhmadfjlaaGreatR18
set_option linter.unusedVariables false
set_option linter.unusedSimpArgs false
set_option maxRecDepth 100000
set_option maxHeartbeats 16000000
namespace Go.Proofs.YtmedjkhmadfjlaaGreat
section
open Go.RowKit
open Tm
theorem CL (L:List (Int×Int)):Ak (norm L)=Ak L:=by unfold Ak;rw[Gg]
theorem Ik (L:List (Int×Int)):norm (L.map fun p=>(p.1,p.2*-1))=norm (L.map fun p=>(p.1,-1*p.2)):=by
 congr 1
 apply List.map_congr_left;intro p _;rw[Int.mul_comm]
theorem Iz (v:Value) (L:List (Int×Int)) (K:Int) (e:Bool) (k:Nat) (w0:World) (hv:Qr w0 v L K e k) (hle:L.length<=100000) (hk:k<=100000):Calls Tryz.prog 25 #[v] w0 (Lz L K e (k+L.length+L.length+2+L.length) w0):=by
 obtain ⟨A,n,c,s,B,m,d,rfl,ht⟩:=hv;obtain ⟨z0,z1,z2,-⟩:=Bi 42 42 w0 #[.slice A n c,.bool s,.slice B m d,.bool e] #[.slice none 0 0,.bool false,.slice none 0 0,.bool false];have hpl:=DN _ L K k _ (ht.below z2) (by omega) (by omega);have HNL:=Ac (Bz L);have x0:=z0.r0;have x1:=z0.r1;have x2:=z0.r2;go_enter Tryz.func25,Tryz.ntmps25;go_wp2_with fail;refine hpl.mono ?_;rintro en w1 ⟨v1,rfl,r1,b1⟩;obtain ⟨A1,n1,c1,s1,B1,m1,d1,rfl⟩:=r1.form
 have y1:=Af w1 (.cells #[.slice A1 n1 c1,.bool s1,.slice B1 m1 d1] 40);have T2:=Ac ((z2.next b1).next y1);have XR:=Ac ((z0.next b1).next y1);have XO:=Ac ((z1.next b1).next y1);have XT:=Ac (AK.new 40 w1 #[.slice A1 n1 c1,.bool s1,.slice B1 m1 d1]);have R1:=Ac (r1.below y1);have hs1:=Ac (show w0.heap.size+1+1<=w1.heap.size by have:=b1.size;simp only[size_alloc]at this;omega);have HNS:=Ac (r1.opn.1.len)
 have hsg:=Bb (.agg #[.bool s1,.slice B1 m1 d1]) K _ _ R1.out.opn.2.2.2.in_ (by omega);unfold Dm at hsg;have a0:=XT.out.c0;have a1:=XT.out.c1;have a2:=XT.out.c2;clear hpl r1 b1 y1 z0 z1 z2 x0 x1 x2 ht;go_wp2_with fail;refine hsg.mono ?_;rintro en w2 ⟨rfl,b2⟩;have T3:=Ac (T2.out.next b2);have XR3:=Ac (XR.out.next b2);have XO3:=Ac (XO.out.next b2);have XT3:=Ac (XT.out.next b2);have R3:=Ac (R1.out.below b2);have hs2:=Ac (show w1.heap.size<w2.heap.size from XT3.out.lt)
 clear hsg b2 a0 a1 a2;have x3:=XR3.out.r3;have a0:=XT3.out.c0;have xo:=XO3.out;by_cases hns:n1=0
 · subst hns;have HNN:=Ac (List.length_eq_zero_iff.1 HNS.out);have HKN:=Ac (EG (K:=K) (e:=e) HNN.out);rcases Int.lt_trichotomy K 0 with h|h|h
   · have hkn:AR L K e=-1:=by
       rw[HKN.out,if_neg];unfold Dh;have a1:¬K=0:=(by omega);have a2:¬0<=K:=(by omega);cases e<;>simp[a1,a2]
     rw[Int.sign_eq_neg_one_of_neg h];clear h;cases e with
     |false=>
       go_wp2_with (with_reducible refine AG rfl _ _ rfl (w0.heap.size+1) _ _ _ _ _ _ _ _ rfl rfl _ _ _ _ xo ?_;intro w17 k17 ho17);refine Bf rfl rfl rfl k17 rfl ?_;obtain ⟨e1,e2,e3⟩:=Dx (L:=L) (K:=K) (e:=false) (by rw[hkn];decide);exact ⟨_,by rw[hkn]<;>rfl,by rw[e1,e2,e3];exact DC.zero _ _,AE T3.out (by omega) ho17⟩
     |true=>
       go_wp2_with (with_reducible refine AG rfl _ _ rfl (w0.heap.size+1) _ _ _ _ _ _ _ _ rfl rfl _ _ _ _ xo ?_;intro w17 k17 ho17);refine Bf rfl rfl rfl k17 rfl ?_;obtain ⟨e1,e2,e3⟩:=Dx (L:=L) (K:=K) (e:=true) (by rw[hkn];decide);exact ⟨_,by rw[hkn]<;>rfl,by rw[e1,e2,e3];exact DC.zero _ _,AE T3.out (by omega) ho17⟩
   · have hkn:AR L K e=1:=by
       rw[HKN.out,if_pos];unfold Dh;cases e<;>simp[h]
     rw[show K.sign=0 by rw[h];rfl];clear h;go_wp2_with (with_reducible refine AG rfl _ _ rfl (w0.heap.size+1) _ _ _ _ _ _ _ _ rfl rfl _ _ _ _ xo ?_;intro w17 k17 ho17);refine Bf rfl rfl rfl k17 rfl ?_;obtain ⟨e1,e2,e3⟩:=Dx (L:=L) (K:=K) (e:=e) (by rw[hkn];decide);exact ⟨_,by rw[hkn]<;>rfl,by rw[e1,e2,e3];exact DC.zero _ _,AE T3.out (by omega) ho17⟩
   · rw[Int.sign_eq_one_of_pos h];cases e with
     |false=>
       have hkn:AR L K false=1:=by rw[HKN.out,if_pos];unfold Dh;simp;omega
       clear h;go_wp2_with (with_reducible refine AG rfl _ _ rfl (w0.heap.size+1) _ _ _ _ _ _ _ _ rfl rfl _ _ _ _ xo ?_;intro w17 k17 ho17);refine Bf rfl rfl rfl k17 rfl ?_;obtain ⟨e1,e2,e3⟩:=Dx (L:=L) (K:=K) (e:=false) (by rw[hkn];decide);exact ⟨_,by rw[hkn]<;>rfl,by rw[e1,e2,e3];exact DC.zero _ _,AE T3.out (by omega) ho17⟩
     |true=>
       have hkn:AR L K true=-1:=by rw[HKN.out,if_neg];unfold Dh;simp;omega
       clear h;go_wp2_with (with_reducible refine AG rfl _ _ rfl (w0.heap.size+1) _ _ _ _ _ _ _ _ rfl rfl _ _ _ _ xo ?_;intro w17 k17 ho17);refine Bf rfl rfl rfl k17 rfl ?_;obtain ⟨e1,e2,e3⟩:=Dx (L:=L) (K:=K) (e:=true) (by rw[hkn];decide);exact ⟨_,by rw[hkn]<;>rfl,by rw[e1,e2,e3];exact DC.zero _ _,AE T3.out (by omega) ho17⟩
 · have HNN:=Ac (show norm L≠[] from fun h=>hns (by rw[<-HNS.out,h];rfl));have hnz:¬(n1:Int)=0:=(by omega);have HC0:=Ac (show Ak L≠0 from fun h=>HNN.out (Cw.1 h));have hct:=Ht _ (norm L) K (k+L.length) w2 R3.out.in_ (by have:=HNL.out;omega) (by omega);rw[CL]at hct;have a1:=XT3.out.c1;have a2:=XT3.out.c2;generalize hsgn:K.sign=sgk at *;clear hsgn;go_wp2_with fail;refine hct.mono ?_;rintro en w3 ⟨v3,rfl,g3,b3⟩;obtain ⟨s3,A3,n3,c3,rfl⟩:=g3.form
   have y3:=Af w3 (.cells #[.bool s3,.slice A3 n3 c3] 38);have hB:=b3.next y3;have T4:=Ac (T3.out.next hB);have XR4:=Ac (XR3.out.next hB);have XO4:=Ac (XO3.out.next hB);have XT4:=Ac (XT3.out.next hB);have R4:=Ac (R3.out.below hB);have XG:=Ac (AH.new w3 #[.bool s3,.slice A3 n3 c3]);have G4:=Ac (g3.below y3)
   have hdv:=Ij (.agg #[.bool s1,.slice B1 m1 d1]) (.agg #[.bool s3,.slice A3 n3 c3]) K (Ak L) (k+L.length) (k+L.length+(norm L).length) _ R4.out.opn.2.2.2.in_ G4.out.in_ HC0.out (by omega) (by have:=HNL.out;omega);clear hct g3 b3 y3 hB a0 a1 a2 xo x3;have a1:=XT4.out.c1;have a2:=XT4.out.c2;have g0:=AH.c0 XG.out;have g1:=AH.c1 XG.out;go_wp2_with fail;refine hdv.mono ?_;rintro en w4 ⟨q4,v4,rfl,zq,zr,b4⟩;obtain ⟨s5,A5,n5,c5,rfl⟩:=zq.form;obtain ⟨s6,A6,n6,c6,rfl⟩:=zr.form
   have y5:=Af w4 (.cells #[.bool s5,.slice A5 n5 c5] 38);have y6:=Af (w4.alloc (.cells #[.bool s5,.slice A5 n5 c5] 38)) (.cells #[.bool s6,.slice A6 n6 c6] 38);have hB:=(b4.next y5).next y6;have T5:=Ac (T4.out.next hB);have XR5:=Ac (XR4.out.next hB);have XO5:=Ac (XO4.out.next hB);have XT5:=Ac (XT4.out.next hB);have R5:=Ac (R4.out.below hB);have k6:=AH.new (w4.alloc (.cells #[.bool s5,.slice A5 n5 c5] 38)) #[.bool s6,.slice A6 n6 c6];rw[size_alloc]at k6
   have ZR:=Ac ((zr.below y5).below y6);have XK:=Ac k6;clear hdv zq zr b4 y5 y6 hB a1 a2 g0 g1 k6;have x3:=XR5.out.r3;have HQL:=Ac (show (Ce (Ak L) (norm L)).length<=L.length by rw[Ez];exact HNL.out);have hsh:=fun W (h:D9 W (.agg #[.slice A1 n1 c1,.bool s1,.slice B1 m1 d1]) (norm L) K (k+L.length))=>Nr _ (norm L) K (k+L.length) W h (by have:=HNL.out;omega) (by omega)
   cases e with
   |false=>
     have hkn:=EW (L:=L) (K:=K) HNN.out;have a0:=XT5.out.c0;have a1:=XT5.out.c1;have a2:=XT5.out.c2;go_wp2_with fail;refine (hsh _ R5.out.in_).mono ?_;rintro en w5 ⟨v5,u5,rfl,r5,g5,b5⟩;obtain ⟨As,ns,cs,ss,Bs,ms,ds,rfl⟩:=r5.form;obtain ⟨sg,Ag,ng,cg,rfl⟩:=g5.form;have y7:=Af w5 (.cells #[.slice As ns cs,.bool ss,.slice Bs ms ds] 40);have y8:=Af (w5.alloc (.cells #[.slice As ns cs,.bool ss,.slice Bs ms ds] 40)) (.cells #[.bool sg,.slice Ag ng cg] 38)
     have hB:=(b5.next y7).next y8;have T6:=Ac (T5.out.next hB);have XO6:=Ac (XO5.out.next hB);have x3':=(XR5.out.next hB).r3;have xo:=XO6.out;have xs:=(AK.new 40 w5 #[.slice As ns cs,.bool ss,.slice Bs ms ds]).next y8;have t0:=xs.c0;have t1:=xs.c1;have t2:=xs.c2;have RS:=Ac ((r5.below y7).below y8);clear a0 a1 a2 x3 r5 g5 b5 y7 y8 hB xs;go_wp2_with (with_reducible refine AG rfl _ _ rfl (w0.heap.size+1) _ _ _ _ _ _ _ _ rfl rfl _ _ _ _ xo ?_;intro w17 k17 ho17)
     refine Bf rfl rfl rfl k17 rfl ?_;obtain ⟨e1,e2,e3⟩:=Ey (L:=L) (K:=K) (e:=false) hkn rfl;refine ⟨_,by rw[hkn]<;>rfl,?_,AE T6.out (by omega) ho17⟩
     rw[e1,e2,e3,<-Hs HNN.out];exact ⟨_,_,_,_,_,_,_,rfl,((Aw.ofEq RS.out (by rw[CL,Gg]) (show CZ (norm L) K=CZ L K by unfold CZ;rw[CL])).mono (by have:=HNL.out;omega)).onlyR XO6.out ho17⟩
   |true=>
     have hsg:=Bb (.agg #[.bool s6,.slice A6 n6 c6]) (K.fmod (Ak L)) _ _ ZR.out.in_ (by have:=HNL.out;omega);unfold Dm at hsg;have k0:=AH.c0 XK.out;have k1:=AH.c1 XK.out;go_wp2_with fail;refine hsg.mono ?_;rintro en w6 ⟨rfl,b6⟩;have T6:=Ac (T5.out.next b6);have XR6:=Ac (XR5.out.next b6);have XO6:=Ac (XO5.out.next b6);have XT6:=Ac (XT5.out.next b6);have R6:=Ac (R5.out.below b6);clear hsg b6 k0 k1 x3;by_cases hr:K.fmod (Ak L)=0
     · have hkn:=En HNN.out hr;rw[show (K.fmod (Ak L)).sign=0 by rw[hr];rfl];clear hr;have x3:=XR6.out.r3;have a0:=XT6.out.c0;have a1:=XT6.out.c1;have a2:=XT6.out.c2;go_wp2_with fail;refine (hsh _ R6.out.in_).mono ?_;rintro en w5 ⟨v5,u5,rfl,r5,g5,b5⟩;obtain ⟨As,ns,cs,ss,Bs,ms,ds,rfl⟩:=r5.form;obtain ⟨sg,Ag,ng,cg,rfl⟩:=g5.form;have y7:=Af w5 (.cells #[.slice As ns cs,.bool ss,.slice Bs ms ds] 40)
       have y8:=Af (w5.alloc (.cells #[.slice As ns cs,.bool ss,.slice Bs ms ds] 40)) (.cells #[.bool sg,.slice Ag ng cg] 38);have hB:=(b5.next y7).next y8;have T7:=Ac (T6.out.next hB);have XR7:=Ac (XR6.out.next hB);have XO7:=Ac (XO6.out.next hB);have XS:=Ac ((AK.new 40 w5 #[.slice As ns cs,.bool ss,.slice Bs ms ds]).next y8)
       have HSR:=Ac (((Aw.ofEq r5 (show Ce (Ak (norm L)) (norm (norm L))=Ce (Ak L) (norm L) by rw[CL,Gg]) (show CZ (norm L) K=K.fdiv (Ak L) by rw[show CZ (norm L) K=CZ L K by unfold CZ;rw[CL],Hs HNN.out])).mono (show _<=k+L.length+L.length by have:=HNL.out;omega)).below y7 |>.below y8);have hns2:ns=n1:=(by rw[<-HSR.out.opn.1.len,Ez,HNS.out])
       have hs5:=Ac (show w0.heap.size+1+1<=w5.heap.size by have:=XO6.out.lt;have:=b5.size;have:=hs1.out;have:=hs2.out;have:=XT6.out.lt;omega);clear a0 a1 a2 x3 r5 g5 b5 y7 y8 hB;generalize hW7:((w5.alloc (.cells #[.slice As ns cs,.bool ss,.slice Bs ms ds] 40)).alloc (.cells #[.bool sg,.slice Ag ng cg] 38))=w7 at *;obtain ⟨bb,o,p,hAs,hlt,hLp,p0,p1,p2,hz⟩:=(HSR.out.opn.1.in_).at_ (i:=0) (by omega);simp only[Nat.zero_mul,Nat.add_zero]at p0 p1 p2;have HLD:=Ac (Mj hLp)
       have hsg:=Bb (.agg #[.bool p.s,.slice p.B p.m p.d]) p.Z _ w7 hz (by omega);unfold Dm at hsg;subst hAs;have x3:=XR7.out.r3;have t0:=XS.out.c0;have hns3:0<ns:=(by omega);clear hLp hz hns2;subst hW7;go_wp2_with fail;refine hsg.mono ?_;rintro en w8 ⟨rfl,b8⟩;have T8:=Ac (T7.out.next b8);have XR8:=Ac (XR7.out.next b8);have XO8:=Ac (XO7.out.next b8);have XS8:=Ac (XS.out.next b8);have HSR8:=Ac (HSR.out.below b8);clear hsg b8 x3 t0 p0 p1 p2 HSR;by_cases hn:p.Z<0
       · have hf:Cp L true=true:=(by unfold Cp;rw[HLD.out];simp[hn]);have hsn:p.Z.sign<0:=Int.sign_neg_iff.2 hn;have HSR:=HSR8;go_wp2_with fail;have SOF:=Ac (show ∀W,Below w8.heap.size w8 W->(W.cell? ⟨w5.heap.size,0,none⟩=some (.slice (some ⟨bb,o,none⟩) ns cs)/\W.cell? ⟨w5.heap.size,1,none⟩=some (.bool ss)/\W.cell? ⟨w5.heap.size,2,none⟩=some (.slice Bs ms ds)) from fun W h=>⟨(XS8.out.next h).c0,(XS8.out.next h).c1,(XS8.out.next h).c2⟩)
         refine AW (by kernel_rfl) (by kernel_rfl) (by kernel_rfl) (by kernel_rfl) (fun w w'=>Below w.heap.size w w') (fun j v w=>match j with|0=>v=.agg #[.slice (some ⟨bb,o,none⟩) ns cs,.bool ss,.slice Bs ms ds]|1=>Au w v (-1) 2|2=>Aw w v ((Ce (Ak L) (norm L)).map fun p=>(p.1,-1*p.2)) (-(K.fdiv (Ak L))) (k+L.length+L.length+2+L.length)|_=>True) (fun _ _ w=>Below w8.heap.size w8 w) ?_ (fun _=>Ap w8 1) ?_ ?_
         · intro j v w w' hT h;match j,h with
           |0,h=>exact h
           |1,h=>exact h.below hT
           |2,h=>exact h.below hT
           |j+3,h=>trivial
         · refine ⟨?_,?_,?_,trivial⟩
           · intro l9 σ w a hin hout hl hla hs hc hp hG hF;refine Ad.none rfl ?_;have e10:a.tmps.getD 10 undef=.pointer (some ⟨w5.heap.size,0,none⟩):=hout 10 (Ae (by kernel_rfl));have CC:=SOF.out w hG;obtain ⟨C0,C1,C2⟩:=CC;refine Does.val (.agg #[.slice (some ⟨bb,o,none⟩) ns cs,.bool ss,.slice Bs ms ds]) (w':=w) ?_ ⟨Below.refl _ _,rfl,hG⟩;go_simp
           · intro l9 σ w a hin hout hl hla hs hc hp hG hF;refine Ad.none rfl ?_;refine Does.call ?_ (JK (-1) w (by decide) (by decide)) ?_
             · go_simp
             · rintro e w' ⟨v,rfl,z,hb⟩;exact ⟨_,rfl,hb,z,hG.next hb⟩
           · intro l9 σ w a hin hout hl hla hs hc hp hG hF;refine Ad.none rfl ?_;have e69:a.tmps.getD 69 undef=.agg #[.slice (some ⟨bb,o,none⟩) ns cs,.bool ss,.slice Bs ms ds]:=Am (hin 0 69) rfl (hp ⟨0,.data⟩ (by simp) rfl) (hF 0);have e70:=hin 1 70 rfl (hp ⟨1,.data⟩ (by simp) rfl);have z1:=hF 1 (hp ⟨1,.data⟩ (by simp) rfl)
             refine Does.call ?_ (EI _ _ (Ce (Ak L) (norm L)) (K.fdiv (Ak L)) (-1) (k+L.length+L.length) 2 w (HSR.out.below hG).in_ z1.in_ (by have:=HQL.out;omega) (by omega) (by decide)) ?_
             · go_simp
             · rintro e w' ⟨v,rfl,z,hb⟩;exact ⟨_,rfl,hb,(z.ofEq (by rw[Ik];exact FW L) (by omega)).mono (by have:=HQL.out;omega),hG.next hb⟩
         · intro o ho;injection ho with ho;subst ho
           intro l9 σ w a hall hin hout hG hF;refine Ad.none rfl ?_;have e10:a.tmps.getD 10 undef=.pointer (some ⟨w5.heap.size,0,none⟩):=hout 10 (KH (by kernel_rfl));have e71:=hin 2 71 rfl (by decide);have z2:=hF 2 (by decide);obtain ⟨A9,n9,c9,s9,B9,m9,d9,ev9⟩:=Aw.form z2;rw[ev9]at e71 z2;refine Does.store_box (T:=40) (cells:=#[.slice A9 n9 c9,.bool s9,.slice B9 m9 d9]) rfl e10 e71 (XS8.out.next hG) (by kernel_rfl) rfl (by simp[Value.oneCell']) (fun w2' x9 o9=>?_)
           rw[show fin _ σ undef _=(Act.put (Act.put (Act.put (Act.put _ (some 69) (σ 0)) (some 70) (σ 1)) (some 71) (σ 2)) none undef) from (Bt hall).trans rfl];simp only[Act.put,List.setIfInBounds_toArray,List.set_cons_zero,List.set_cons_succ];have HR9:=Ac (z2.only (XS8.out.next hG) o9);have X9:=Ac x9;have T9:=Ac (AE (T8.out.next hG) (by have:=hs5.out;omega) o9);have XR9:=Ac ((XR8.out.next hG).other o9 (by have:=hs5.out;omega))
           have XO9:=Ac ((XO8.out.next hG).other o9 (by have:=hs5.out;omega));generalize σ 0=tt0 at *;generalize σ 1=tt1 at *;generalize σ 2=tt2 at *;clear hF hG hall hin hout SOF z2 o9 e10 e71 ev9 x9;have t0:=X9.out.c0;have t1:=X9.out.c1;have t2:=X9.out.c2;have x3:=XR9.out.r3;have xo:=XO9.out;go_wp2_with (with_reducible refine AG rfl _ _ rfl (w0.heap.size+1) _ _ _ _ _ _ _ _ rfl rfl _ _ _ _ xo ?_;intro w17 k17 ho17);refine Bf rfl rfl rfl k17 rfl ?_
           obtain ⟨e1,e2,e3⟩:=Hr (L:=L) (K:=K) (e:=true) hkn hf;refine ⟨_,by rw[hkn]<;>rfl,?_,AE T9.out (by omega) ho17⟩
           rw[e1,e2,e3];exact ⟨_,_,_,_,_,_,_,rfl,HR9.out.onlyR XO9.out ho17⟩
       · have hf:Cp L true=false:=(by unfold Cp;rw[HLD.out];simp;omega);have hsn:¬p.Z.sign<0:=(by rw[Int.sign_neg_iff];exact hn);have t0:=XS8.out.c0;have t1:=XS8.out.c1;have t2:=XS8.out.c2;have x3:=XR8.out.r3;have xo:=XO8.out;go_wp2_with (with_reducible refine AG rfl _ _ rfl (w0.heap.size+1) _ _ _ _ _ _ _ _ rfl rfl _ _ _ _ xo ?_;intro w17 k17 ho17);refine Bf rfl rfl rfl k17 rfl ?_;obtain ⟨e1,e2,e3⟩:=Ey (L:=L) (K:=K) (e:=true) hkn hf
         refine ⟨_,by rw[hkn]<;>rfl,?_,AE T8.out (by omega) ho17⟩
         rw[e1,e2,e3];exact ⟨_,_,_,_,_,_,_,rfl,(HSR8.out.mono (by omega)).onlyR XO8.out ho17⟩
     · have hkn:=G6 HNN.out hr;have hsz:¬(K.fmod (Ak L)).sign=0:=(by rw[Int.sign_eq_zero_iff_zero];exact hr);have xo:=XO6.out;go_wp2_with (with_reducible refine AG rfl _ _ rfl (w0.heap.size+1) _ _ _ _ _ _ _ _ rfl rfl _ _ _ _ xo ?_;intro w17 k17 ho17);refine Bf rfl rfl rfl k17 rfl ?_;obtain ⟨e1,e2,e3⟩:=Dx (L:=L) (K:=K) (e:=true) (by rw[hkn];decide);exact ⟨_,by rw[hkn]<;>rfl,by rw[e1,e2,e3];exact DC.zero _ _,AE T6.out (by omega) ho17⟩
theorem G7 (A B:Option Addr) (n c d:Nat) (rs ts:List RV) (k ku:Nat) (w0:World) (ha:BD w0 A n rs k) (hb0:BD w0 B n ts ku) (he:rs.map RV.rd=ts.map RV.rd) (hll:∀r∈rs,r.L.length<=1099511) (hn:n<=1099511627):Calls Tryz.prog 9 #[.slice A n c,.slice B n d] w0 (Ek w0):=by
 have HA:=Ac ha;have HB:=Ac hb0;have HE:=Ac he;clear ha hb0 he;go_enter Tryz.func9,Tryz.ntmps9;go_wp2_with fail;have HBB:=Ac (Below.refl w0.heap.size w0);go_loopw [5] (fun i wr=>∃q:Nat,q<=n/\i=.int .i64 q/\Hid (Below w0.heap.size w0 wr)) (fun i _=>n-(intOf i).toNat)
 case atStart=>exact ⟨0,Nat.zero_le _,rfl,HBB⟩
 case round=>
  obtain ⟨q,hq,rfl,HBr⟩:=hrel;by_cases hqn:q<n
  · obtain ⟨ab,ao,r,rfl,hri,c0,c1,c2,c3⟩:=(HA.out.1.below HBr.out).at_ hqn;obtain ⟨bb,bo,t,rfl,hti,d0,d1,d2,d3⟩:=(HB.out.1.below HBr.out).at_ hqn;have hrd:r.rd=t.rd:=by
      have h1:(rs.map RV.rd)[q]?=some r.rd:=(by rw[List.getElem?_map,hri];rfl);rw[HE.out,List.getElem?_map,hti]at h1;exact (Option.some.inj h1).symm
    have hL:t.L=r.L:=(congrArg (fun x=>x.1) hrd).symm;have hK:t.K=r.K:=(congrArg (fun x=>x.2.1) hrd).symm;have hf:t.f=r.f:=(congrArg (fun x=>x.2.2) hrd).symm;have HR1:=Ac ((HA.out.below HBr.out).2 r (List.mem_of_getElem? hri));have HR2:=Ac (show Aw wr (.agg #[.slice t.A t.n t.c,.bool t.s,.slice t.B t.m t.d]) r.L r.K ku by have h:=(HB.out.below HBr.out).2 t (List.mem_of_getElem? hti);rw[hL,hK]at h;exact h);have HRL:=Ac (hll r (List.mem_of_getElem? hri));rw[hf]at d3
    have la:=World.block_lt_of_cell? wr _ c0;have lb:=World.block_lt_of_cell? wr _ d0
    have SOF:=Ac (show ∀W,Below wr.heap.size wr W->(W.cell? ⟨ab,ao+q*4,none⟩=some (.slice r.A r.n r.c)/\W.cell? ⟨ab,ao+q*4+1,none⟩=some (.bool r.s)/\W.cell? ⟨ab,ao+q*4+2,none⟩=some (.slice r.B r.m r.d)/\W.cell? ⟨ab,ao+q*4+3,none⟩=some (.bool r.f)/\W.cell? ⟨bb,bo+q*4,none⟩=some (.slice t.A t.n t.c)/\W.cell? ⟨bb,bo+q*4+1,none⟩=some (.bool t.s)/\W.cell? ⟨bb,bo+q*4+2,none⟩=some (.slice t.B t.m t.d)/\W.cell? ⟨bb,bo+q*4+3,none⟩=some (.bool r.f)) from fun W h=>⟨(h.cell (p:=⟨ab,ao+q*4,none⟩) la).trans c0,(h.cell (p:=⟨ab,ao+q*4+1,none⟩) la).trans c1,(h.cell (p:=⟨ab,ao+q*4+2,none⟩) la).trans c2,(h.cell (p:=⟨ab,ao+q*4+3,none⟩) la).trans c3,(h.cell (p:=⟨bb,bo+q*4,none⟩) lb).trans d0,(h.cell (p:=⟨bb,bo+q*4+1,none⟩) lb).trans d1,(h.cell (p:=⟨bb,bo+q*4+2,none⟩) lb).trans d2,(h.cell (p:=⟨bb,bo+q*4+3,none⟩) lb).trans d3⟩)
    clear hri hti c0 c1 c2 c3 d0 d1 d2 d3 hrd hL hK hf;go_wp2_with fail
    refine AO (by kernel_rfl) (by kernel_rfl) (by kernel_rfl) (fun w w'=>Below w.heap.size w w') (fun j v w=>match j with|0=>v=.slice (some ⟨ab,ao,none⟩) n c|1=>v=.int .i64 (q:Int)|2=>v=.pointer (some ⟨ab,ao+q*4,none⟩)|3=>v=.agg #[.slice r.A r.n r.c,.bool r.s,.slice r.B r.m r.d,.bool r.f]|4=>v=.slice (some ⟨bb,bo,none⟩) n d|5=>v=.int .i64 (q:Int)|6=>v=.pointer (some ⟨bb,bo+q*4,none⟩)|7=>v=.agg #[.slice t.A t.n t.c,.bool t.s,.slice t.B t.m t.d,.bool r.f]|8=>v=.bool true|9=>v=.bool false|_=>True) (fun _ _ w=>Below wr.heap.size wr w) ?_ (fun _=>Ap wr 1) ?_ ?_
    · intro j v w w' hT h;match j,h with
      |0,h=>exact h
      |1,h=>exact h
      |2,h=>exact h
      |3,h=>exact h
      |4,h=>exact h
      |5,h=>exact h
      |6,h=>exact h
      |7,h=>exact h
      |8,h=>exact h
      |9,h=>exact h
      |j+10,h=>trivial
    · refine ⟨?_,?_,?_,?_,?_,?_,?_,?_,?_,?_,trivial⟩
      · intro l9 σ w a hin hout hl hc hp hG hF;refine Ad.none rfl ?_;have e0:a.tmps.getD 0 undef=.slice (some ⟨ab,ao,none⟩) n c:=hout 0 (Ae (by kernel_rfl));refine Does.val (.slice (some ⟨ab,ao,none⟩) n c) (w':=w) ?_ ⟨Below.refl _ _,rfl,hG⟩;simp only[Array.getD_eq_getD_getElem?]at e0;go_simp
      · intro l9 σ w a hin hout hl hc hp hG hF;refine Ad.none rfl ?_;have e5:a.tmps.getD 5 undef=.int .i64 (q:Int):=hout 5 (Ae (by kernel_rfl));refine Does.val (.int .i64 (q:Int)) (w':=w) ?_ ⟨Below.refl _ _,rfl,hG⟩;simp only[Array.getD_eq_getD_getElem?]at e5;go_simp
      · intro l9 σ w a hin hout hl hc hp hG hF;refine Ad.none rfl ?_;have e17:a.tmps.getD 17 undef=.slice (some ⟨ab,ao,none⟩) n c:=Am (hin 0 17) rfl (hp ⟨0,.data⟩ (by simp) rfl) (hF 0);have e18:a.tmps.getD 18 undef=.int .i64 (q:Int):=Am (hin 1 18) rfl (hp ⟨1,.data⟩ (by simp) rfl) (hF 1);refine Does.val (.pointer (some ⟨ab,ao+q*4,none⟩)) (w':=w) ?_ ⟨Below.refl _ _,rfl,hG⟩;simp only[Array.getD_eq_getD_getElem?]at e17 e18;go_simp;(try (intro hh;exfalso;omega))
      · intro l9 σ w a hin hout hl hc hp hG hF;refine Ad.none rfl ?_;have e19:a.tmps.getD 19 undef=.pointer (some ⟨ab,ao+q*4,none⟩):=Am (hin 2 19) rfl (hp ⟨2,.data⟩ (by simp) rfl) (hF 2);have CC:=SOF.out w hG;obtain ⟨C0,C1,C2,C3,D0,D1,D2,D3⟩:=CC;refine Does.val (.agg #[.slice r.A r.n r.c,.bool r.s,.slice r.B r.m r.d,.bool r.f]) (w':=w) ?_ ⟨Below.refl _ _,rfl,hG⟩;go_simp
      · intro l9 σ w a hin hout hl hc hp hG hF;refine Ad.none rfl ?_;have e1:a.tmps.getD 1 undef=.slice (some ⟨bb,bo,none⟩) n d:=hout 1 (Ae (by kernel_rfl));refine Does.val (.slice (some ⟨bb,bo,none⟩) n d) (w':=w) ?_ ⟨Below.refl _ _,rfl,hG⟩;simp only[Array.getD_eq_getD_getElem?]at e1;go_simp
      · intro l9 σ w a hin hout hl hc hp hG hF;refine Ad.none rfl ?_;have e5:a.tmps.getD 5 undef=.int .i64 (q:Int):=hout 5 (Ae (by kernel_rfl));refine Does.val (.int .i64 (q:Int)) (w':=w) ?_ ⟨Below.refl _ _,rfl,hG⟩;simp only[Array.getD_eq_getD_getElem?]at e5;go_simp
      · intro l9 σ w a hin hout hl hc hp hG hF;refine Ad.none rfl ?_;have e21:a.tmps.getD 21 undef=.slice (some ⟨bb,bo,none⟩) n d:=Am (hin 4 21) rfl (hp ⟨4,.data⟩ (by simp) rfl) (hF 4);have e22:a.tmps.getD 22 undef=.int .i64 (q:Int):=Am (hin 5 22) rfl (hp ⟨5,.data⟩ (by simp) rfl) (hF 5);refine Does.val (.pointer (some ⟨bb,bo+q*4,none⟩)) (w':=w) ?_ ⟨Below.refl _ _,rfl,hG⟩;simp only[Array.getD_eq_getD_getElem?]at e21 e22;go_simp;(try (intro hh;exfalso;omega))
      · intro l9 σ w a hin hout hl hc hp hG hF;refine Ad.none rfl ?_;have e23:a.tmps.getD 23 undef=.pointer (some ⟨bb,bo+q*4,none⟩):=Am (hin 6 23) rfl (hp ⟨6,.data⟩ (by simp) rfl) (hF 6);have CC:=SOF.out w hG;obtain ⟨C0,C1,C2,C3,D0,D1,D2,D3⟩:=CC;refine Does.val (.agg #[.slice t.A t.n t.c,.bool t.s,.slice t.B t.m t.d,.bool r.f]) (w':=w) ?_ ⟨Below.refl _ _,rfl,hG⟩;go_simp
      · intro l9 σ w a hin hout hl hc hp hG hF;refine Ad.none rfl ?_;have e20:a.tmps.getD 20 undef=.agg #[.slice r.A r.n r.c,.bool r.s,.slice r.B r.m r.d,.bool r.f]:=Am (hin 3 20) rfl (hp ⟨3,.data⟩ (by simp) rfl) (hF 3);have e24:a.tmps.getD 24 undef=.agg #[.slice t.A t.n t.c,.bool t.s,.slice t.B t.m t.d,.bool r.f]:=Am (hin 7 24) rfl (hp ⟨7,.data⟩ (by simp) rfl) (hF 7)
        refine Does.call ?_ (Kf _ _ r.L r.K r.f k ku w ⟨_,_,_,_,_,_,_,rfl,HR1.out.below hG⟩ ⟨_,_,_,_,_,_,_,rfl,HR2.out.below hG⟩ HRL.out) ?_
        · go_simp
        · rintro e w' ⟨rfl,hb⟩;exact ⟨_,rfl,hb,rfl,hG.next hb⟩
      · intro l9 σ w a hin hout hl hc hp hG hF;refine Ad.none rfl ?_;have e25:a.tmps.getD 25 undef=.bool true:=Am (hin 8 25) rfl (hp ⟨8,.data⟩ (by simp) rfl) (hF 8);refine Does.val (.bool false) (w':=w) ?_ ⟨Below.refl _ _,rfl,hG⟩;simp only[Array.getD_eq_getD_getElem?]at e25;go_simp
    · intro l9 σ W9 hall hG hF;rw[show mid _ σ l9 _=(Act.put (Act.put (Act.put (Act.put (Act.put (Act.put (Act.put (Act.put (Act.put (Act.put _ (some 17) (σ 0)) (some 18) (σ 1)) (some 19) (σ 2)) (some 20) (σ 3)) (some 21) (σ 4)) (some 22) (σ 5)) (some 23) (σ 6)) (some 24) (σ 7)) (some 25) (σ 8)) (some 26) (σ 9)) from (AU hall).trans rfl];generalize σ 0=tt0;generalize σ 1=tt1;generalize σ 2=tt2;generalize σ 3=tt3;generalize σ 4=tt4;generalize σ 5=tt5;generalize σ 6=tt6
      generalize σ 7=tt7;generalize σ 8=tt8;rw[show σ 9=.bool false from hF 9 (by decide)];simp only[Act.put,List.setIfInBounds_toArray,List.set_cons_zero,List.set_cons_succ];have TG:=hG;clear hF hG hall;clear σ;go_wp2_with fail;go_roundw
      case rel=>exact ⟨q+1,by omega,by go_num,Ac (HBr.out.next TG)⟩
      case measure=>simp[intOf]<;>omega
  · obtain rfl:q=n:=(by omega);go_wp2_with fail;go_ret
    exact ⟨rfl,HBr.out⟩
end
section
open Go.RowKit
open Tm
def Ve (b:Bool) (w:World) (e:Ending) (w':World):Prop:=e=.returned (.bool b)/\Below w.heap.size w w'
end
end Go.Proofs.YtmedjkhmadfjlaaGreat
