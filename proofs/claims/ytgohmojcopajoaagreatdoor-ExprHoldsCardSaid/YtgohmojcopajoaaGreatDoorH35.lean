/- Texts of one seat, put together: ExprAn ExprTz ExprBk ExprBm ExprSz ExprHm LogicF. -/
import Derived.Test.YtgohmojcopajoaaGreatDoorH34
import Derived.Test.YtgohmojcopajoaaGreatDoorH06
import Derived.Test.YtgohmojcopajoaaGreatDoorH26
import Derived.Test.YtgohmojcopajoaaGreatDoorH28
import Derived.Test.YtgohmojcopajoaaGreatDoorH29
set_option linter.unusedVariables false
set_option linter.unusedSimpArgs false
set_option maxRecDepth 100000
set_option maxHeartbeats 16000000
namespace Go.Proofs.YtgohmojcopajoaaGreatDoor
section
open Go.RowKit
open Lx Ex
theorem RB (w0:World) (htab:Bc w0):Calls Tryz.prog 8 #[] w0 (Fv w0):=by
 have HC1:=Aa (Yg w0 htab);have HTAB:=Aa (fun W (h:Below w0.heap.size w0 W)=>htab.below h);clear htab;go_enter Tryz.func8,Tryz.ntmps8;go_wp2_with fail;refine HC1.out.mono ?_;rintro e w1 ⟨kd,Al,nl,cl,Ar,nr,cr,op,p,q,A,n,c,rfl,hT,b1⟩;obtain ⟨l',r',ks,e,hl,hr,hk,hl1,hl2,hr1,hr2,hn1,hn2,hkid⟩:=hT.parts;have e:GT.mk 4 [] [] 0 ⟨#[]⟩ ⟨#[]⟩ [gt aA,gt aB]=GT.mk kd l' r' op p q ks:=e;injection e with e1 e2 e3 e4 e5 e6 e7
 subst e1 e2 e3 e4 e5 e6 e7;obtain rfl:0=nl:=hl.1;obtain rfl:0=nr:=hr.1;obtain rfl:2=n:=hk;obtain ⟨ba,oa,u,k2,Al2,BO,cl2,Ar2,nr2,cr2,op2,p2,q2,A2,n2,c2,rfl,hS9,hlt,hu,hti,e0,e1,e2,e3,e4,e5,e6⟩:=hkid 0 (by omega);have hu:some (gt aA)=some u:=hu;injection hu with hu
 subst hu;simp only[Nat.zero_mul,Nat.add_zero]at e0 e1 e2 e3 e4 e5 e6;obtain ⟨la',ra',kas,ea,hla,hra,hka,-⟩:=hti.parts;have ea:GT.mk 2 [⟨⟨#[]⟩,⟨#[120]⟩,false⟩,⟨⟨#[50]⟩,⟨#[]⟩,false⟩] [⟨⟨#[51]⟩,⟨#[121]⟩,false⟩] 3 ⟨#[]⟩ ⟨#[]⟩ []=GT.mk k2 la' ra' op2 p2 q2 kas:=ea;injection ea with a1 a2 a3 a4 a5 a6 a7
 subst a2 a3;have HNL:=Aa (show BO<=4611686018427387903 from by have:=hla.1;simp at this;omega);have HNR:=Aa (show nr2<=4611686018427387903 from by have:=hra.1;simp at this;omega);clear a1 a4 a5 a6 a7 hla hra hka;have HT:=Aa (fun W (h:Below w1.heap.size w1 W)=>hT.keep (AJ.of_below h));have HTA:=Aa (fun W (h:Below w1.heap.size w1 W)=>hti.keep (AJ.of_below h))
 have HEK:=Aa (show ∀W,Below w1.heap.size w1 W->(W.cell? ⟨ba,oa,none⟩=some (.int .i64 k2)/\W.cell? ⟨ba,oa+1,none⟩=some (.slice Al2 BO cl2)/\W.cell? ⟨ba,oa+2,none⟩=some (.slice Ar2 nr2 cr2)/\W.cell? ⟨ba,oa+3,none⟩=some (.int .i64 op2)/\W.cell? ⟨ba,oa+4,none⟩=some (.string p2)/\W.cell? ⟨ba,oa+5,none⟩=some (.string q2)/\W.cell? ⟨ba,oa+6,none⟩=some (.slice A2 n2 c2)) from fun W h=>⟨(Af h hlt).trans e0,(Af h hlt).trans e1,(Af h hlt).trans e2,(Af h hlt).trans e3,(Af h hlt).trans e4,(Af h hlt).trans e5,(Af h hlt).trans e6⟩)
 have HBA:=Aa hlt;clear hT hti hl hr hkid hl1 hl2 hr1 hr2 hn1 hS9 e0 e1 e2 e3 e4 e5 e6 hlt;obtain ⟨x1,x2,hb,hsz⟩:=Ax 33 25 w1 #[.int .i64 4,.slice Al 0 cl,.slice Ar 0 cr,.int .i64 0,.string ⟨#[]⟩,.string ⟨#[]⟩,.slice (some ⟨ba,oa,none⟩) 2 c] #[.int .i64 0,.int .i64 0];have HB2:=Aa hb;have X1:=Aa x1;have X2:=Aa x2;have HB20:=Aa (b1.next hb);clear x1 x2 hb b1;go_wp2_with fail
 generalize hW:(w1.alloc (.cells #[.int .i64 4,.slice Al 0 cl,.slice Ar 0 cr,.int .i64 0,.string ⟨#[]⟩,.string ⟨#[]⟩,.slice (some ⟨ba,oa,none⟩) 2 c] 33)).alloc (.cells #[.int .i64 0,.int .i64 0] 25)=W2 at *;clear hW;refine (Yh W2 (HTAB.out _ HB20.out)).mono ?_;rintro e w3 ⟨kd9,Al9,nl9,cl9,Ar9,nr9,cr9,op9,p9,q9,A9,n9,c9,rfl,-,b3⟩
 obtain ⟨y1,y2,hb,hsz3⟩:=Ax 33 25 w3 #[.int .i64 kd9,.slice Al9 nl9 cl9,.slice Ar9 nr9 cr9,.int .i64 op9,.string p9,.string q9,.slice A9 n9 c9] #[.int .i64 1,.int .i64 4];have HB4:=Aa (HB2.out.next (b3.next hb));have HB40:=Aa (HB20.out.next (b3.next hb));have X5:=Aa y2;have X14:=Aa (X1.out.next (b3.next hb));have X24:=Aa (X2.out.next (b3.next hb));clear y1 y2 hb b3 X1 X2 HB2 HB20;go_wp2_with fail
 generalize hW:(w3.alloc (.cells #[.int .i64 kd9,.slice Al9 nl9 cl9,.slice Ar9 nr9 cr9,.int .i64 op9,.string p9,.string q9,.slice A9 n9 c9] 33)).alloc (.cells #[.int .i64 1,.int .i64 4] 25)=W4 at *;clear hW;refine (Yi W4).mono ?_;rintro e w5 ⟨A3,c3,rfl,hq1,hq2,hm,b5⟩;have hb:=Ae w5 (.cells #[.int .i64 0,.int .i64 0] 25);have HB6:=Aa (HB4.out.next (b5.next hb));have HB60:=Aa (HB40.out.next (b5.next hb));have X16:=Aa (X14.out.next (b5.next hb))
 have X26:=Aa (X24.out.next (b5.next hb));have X56:=Aa (X5.out.next (b5.next hb));have HM6:=Aa (hm.keep (AJ.of_below hb));clear hb b5 hm X14 X24 X5 HB4 HB40;have c0:=X16.out.cell 0 _ rfl;have c6:=X16.out.cell 6 _ rfl;have d0:=X26.out.cell 0 _ rfl;have d1:=X26.out.cell 1 _ rfl;have f0:=X56.out.cell 0 _ rfl;have f1:=X56.out.cell 1 _ rfl;go_upto_region 4 with fail;generalize hW:w5.alloc (.cells #[.int .i64 0,.int .i64 0] 25)=W6 at *;clear hW;go_upto_region 6 with fail
 clear c0 c6 d0 d1 f0 f1 X26 X56;obtain ⟨xs,hb,hsz7⟩:=Ap 9 W6 #[.string ⟨#[120]⟩];have HTM:=Aa (VB _ (c:=c3) (HM6.out.keep (AJ.of_below hb)) xs);have HB7:=Aa (HB6.out.next hb);have HB70:=Aa (HB60.out.next hb);have X17:=Aa (X16.out.next hb);have HM7:=Aa (HM6.out.keep (AJ.of_below hb));clear xs hb X16 HM6 HB6 HB60;go_wp2_with fail;generalize hW:W6.alloc (.cells #[.string ⟨#[120]⟩] 9)=W7 at *;clear hW;refine HTM.out.mono ?_;rintro e w8 ⟨A8,c8,s8,B8,m8,d8,rfl,b8⟩
 have hb:=Ae w8 (.cells #[.slice A8 1 c8,.bool s8,.slice B8 m8 d8] 56);have HB9:=Aa (HB7.out.next (b8.next hb));have HB90:=Aa (HB70.out.next (b8.next hb));have X19:=Aa (X17.out.next (b8.next hb));have X109:=Aa (Am.new 56 w8 #[.slice A8 1 c8,.bool s8,.slice B8 m8 d8]);have HM9:=Aa (HM7.out.keep (AJ.of_below (b8.next hb)));clear hb b8 X17 HM7 HB7 HB70 HTM;have g0:=X19.out.cell 0 _ rfl;have g1:=X19.out.cell 1 _ rfl;have g2:=X19.out.cell 2 _ rfl;have g3:=X19.out.cell 3 _ rfl
 have g4:=X19.out.cell 4 _ rfl;have g5:=X19.out.cell 5 _ rfl;have g6:=X19.out.cell 6 _ rfl;go_upto_region 7 with fail;generalize hW:w8.alloc (.cells #[.slice A8 1 c8,.bool s8,.slice B8 m8 d8] 56)=W9 at *;clear hW;obtain ⟨xs,hb,hsz9⟩:=Ap 9 W9 #[.string ⟨#[120]⟩,.string ⟨#[121]⟩,.string ⟨#[97]⟩];have HFO:=Aa (V3 (some ⟨W9.heap.size,0,none⟩) 3 3 Z5 _ (HT.out _ (HB9.out.next hb)) (JW aU Pq) JX Xa ⟨rfl,fun _=>⟨W9.heap.size,0,rfl,xs.lt,fun j s hj=>by
  match j,hj with
  |0,hj=>injection hj with hj;subst hj;exact xs.cell 0 _ rfl
  |1,hj=>injection hj with hj;subst hj;exact xs.cell 1 _ rfl
  |2,hj=>injection hj with hj;subst hj;exact xs.cell 2 _ rfl⟩⟩ (by omega))
 rw[show NJ aU=4 from rfl]at HFO;have HB10:=Aa (HB9.out.next hb);have HB100:=Aa (HB90.out.next hb);have X110:=Aa (X19.out.next hb);have X1010:=Aa (X109.out.next hb);have HM10:=Aa (HM9.out.keep (AJ.of_below hb));clear xs hb X19 X109 HM9 HB9 HB90;go_wp2_with fail;generalize hW:W9.alloc (.cells #[.string ⟨#[120]⟩,.string ⟨#[121]⟩,.string ⟨#[97]⟩] 9)=W10 at *;clear hW;refine HFO.out.mono ?_;rintro e w11 ⟨fA9,fn9,fc9,fs9,fB9,fm9,fd9,ff9,fC9,fp9,fq9,rfl,b11⟩
 have hb:=Ae w11 (.cells #[.int .i64 4,.slice fA9 fn9 fc9,.bool fs9,.slice fB9 fm9 fd9,.bool ff9,.slice fC9 fp9 fq9] 61);have HB12:=Aa (HB10.out.next (b11.next hb));have HB120:=Aa (HB100.out.next (b11.next hb));have X112:=Aa (X110.out.next (b11.next hb));have X1012:=Aa (X1010.out.next (b11.next hb));have X1212:=Aa (Am.new 61 w11 #[.int .i64 4,.slice fA9 fn9 fc9,.bool fs9,.slice fB9 fm9 fd9,.bool ff9,.slice fC9 fp9 fq9])
 have HM12:=Aa (HM10.out.keep (AJ.of_below (b11.next hb)));clear hb b11 X110 X1010 HM10 HB10 HB100 HFO g0 g1 g2 g3 g4 g5 g6;go_upto_region 8 with fail;generalize hW:w11.alloc (.cells #[.int .i64 4,.slice fA9 fn9 fc9,.bool fs9,.slice fB9 fm9 fd9,.bool ff9,.slice fC9 fp9 fq9] 61)=W12 at *;clear hW
 have S1:=Aa (fun W (h:Below W12.heap.size W12 W)=>(show Calls Tryz.prog 19 #[.agg #[.int .i64 4,.slice Al 0 cl,.slice Ar 0 cr,.int .i64 0,.string ⟨#[]⟩,.string ⟨#[]⟩,.slice (some ⟨ba,oa,none⟩) 2 c]] W (fun e w'=>e=.returned (.string ⟨#[120,32,43,32,50,32,60,61,32,51,42,121,32,38,32,33,40,97,32,61,32,49,32,124,32,116,114,117,101,41]⟩)/\Below W.heap.size W w') from by have:=NF W (HT.out W (HB12.out.next h)) (JW aU Pq) JX (HTAB.out W (HB120.out.next h)) (by rw[Wb];decide);unfold Dt at this;rw[Wb]at this;exact this))
 have S2:=Aa (fun W (h:Below W12.heap.size W12 W)=>(show Calls Tryz.prog 16 #[.slice A3 2 c3] W (fun e w'=>e=.returned (.string ⟨#[45,50,42,120,32,43,32,49]⟩)/\Below W.heap.size W w') from by have:=NE _ A3 2 c3 aL W (HM12.out.keep (AJ.of_below h)) (by omega) hq1 hq2 (FE Pr) U3 (by rw[Wd];decide);unfold Dt at this;rw[Wd]at this;exact this))
 have S3:=Aa (fun W (h:Below W12.heap.size W12 W)=>(show Calls Tryz.prog 18 #[.agg #[.int .i64 4,.slice Al 0 cl,.slice Ar 0 cr,.int .i64 0,.string ⟨#[]⟩,.string ⟨#[]⟩,.slice (some ⟨ba,oa,none⟩) 2 c]] W (fun e w'=>e=.returned (.bool true)/\Below W.heap.size W w') from by have:=Fb W (HT.out W (HB12.out.next h)) (JW aU Pq);rw[We]at this;exact this))
 have S4:=Aa (fun W (h:Below W12.heap.size W12 W)=>(show Calls Tryz.prog 17 #[.slice A3 2 c3] W (fun e w'=>e=.returned (.bool true)/\Below W.heap.size W w') from by have:=Dq _ A3 2 c3 aL W (HM12.out.keep (AJ.of_below h)) (by omega) (FE Pr);rw[U3]at this;exact this))
 have S5:=Aa (fun W=>(show Calls Tryz.prog 25 #[.agg #[.int .i64 4,.slice Al 0 cl,.slice Ar 0 cr,.int .i64 0,.string ⟨#[]⟩,.string ⟨#[]⟩,.slice (some ⟨ba,oa,none⟩) 2 c]] W (fun e w'=>e=.returned (.bool true)/\Below W.heap.size W w') from by have:=N9 (gt aU) 4 Al 0 cl Ar 0 cr 0 ⟨#[]⟩ ⟨#[]⟩ (some ⟨ba,oa,none⟩) 2 c W ⟨[],[],[gt aA,gt aB],rfl,rfl,rfl,rfl⟩;rw[Yf]at this;exact this))
 have S6:=Aa (fun W (h:Below W12.heap.size W12 W)=>(show Calls Tryz.prog 26 #[.agg #[.int .i64 k2,.slice Al2 BO cl2,.slice Ar2 nr2 cr2,.int .i64 op2,.string p2,.string q2,.slice A2 n2 c2]] W (fun e w'=>e=.returned (.bool true)/\Below W.heap.size W w') from by have:=F9 _ (gt aA) k2 Al2 BO cl2 Ar2 nr2 cr2 op2 p2 q2 A2 n2 c2 W (HTA.out W (HB12.out.next h)) (JW aA U4) HNL.out HNR.out;rw[Wg]at this;exact this))
 have S7:=Aa (fun W (h:Below W12.heap.size W12 W)=>(show Calls Tryz.prog 27 #[.agg #[.int .i64 k2,.slice Al2 BO cl2,.slice Ar2 nr2 cr2,.int .i64 op2,.string p2,.string q2,.slice A2 n2 c2]] W (fun e w'=>e=.returned (.string ⟨#[120,32,43,32,50,32,60,61,32,51,42,121]⟩)/\Below W.heap.size W w') from by have:=NG W (HTA.out W (HB12.out.next h)) (JW aA U4) HNL.out HNR.out Wg RA (HTAB.out W (HB120.out.next h)) (by rw[Wc];decide);unfold Dt at this;rw[Wc]at this;exact this))
 have CEL:=Aa (show ∀W,Below W12.heap.size W12 W->(W.cell? ⟨w1.heap.size,0,none⟩=some (.int .i64 4)/\W.cell? ⟨w1.heap.size,1,none⟩=some (.slice Al 0 cl)/\W.cell? ⟨w1.heap.size,2,none⟩=some (.slice Ar 0 cr)/\W.cell? ⟨w1.heap.size,3,none⟩=some (.int .i64 0)/\W.cell? ⟨w1.heap.size,4,none⟩=some (.string ⟨#[]⟩)/\W.cell? ⟨w1.heap.size,5,none⟩=some (.string ⟨#[]⟩)/\W.cell? ⟨w1.heap.size,6,none⟩=some (.slice (some ⟨ba,oa,none⟩) 2 c)/\W.cell? ⟨w8.heap.size,0,none⟩=some (.slice A8 1 c8)/\W.cell? ⟨w11.heap.size,0,none⟩=some (.int .i64 4)/\W.cell? ⟨ba,oa,none⟩=some (.int .i64 k2)/\W.cell? ⟨ba,oa+1,none⟩=some (.slice Al2 BO cl2)/\W.cell? ⟨ba,oa+2,none⟩=some (.slice Ar2 nr2 cr2)/\W.cell? ⟨ba,oa+3,none⟩=some (.int .i64 op2)/\W.cell? ⟨ba,oa+4,none⟩=some (.string p2)/\W.cell? ⟨ba,oa+5,none⟩=some (.string q2)/\W.cell? ⟨ba,oa+6,none⟩=some (.slice A2 n2 c2)) from fun W h=>⟨(X112.out.next h).cell 0 _ rfl,(X112.out.next h).cell 1 _ rfl,(X112.out.next h).cell 2 _ rfl,(X112.out.next h).cell 3 _ rfl,(X112.out.next h).cell 4 _ rfl,(X112.out.next h).cell 5 _ rfl,(X112.out.next h).cell 6 _ rfl,(X1012.out.next h).cell 0 _ rfl,(X1212.out.next h).cell 0 _ rfl,HEK.out W (HB12.out.next h)⟩)
 have HB:=Aa (Below.refl W12.heap.size W12);clear X112 X1012 X1212 HM12 HT HTA HTAB HEK HNL HNR HBA;obtain ⟨m0,m1,m2,m3,m4,m5,m6,t0,u0,n0,n1,n2x,n3,n4,n5,n6⟩:=CEL.out W12 HB.out;go_wp2_with fail;refine (S1.out _ HB.out).mono ?_;rintro e v1 ⟨rfl,bb⟩;have HB1:=Aa (HB.out.next bb);clear bb m0 m1 m2 m3 m4 m5 m6 t0 u0 n0 n1 n2x n3 n4 n5 n6;obtain ⟨m0,m1,m2,m3,m4,m5,m6,t0,u0,n0,n1,n2x,n3,n4,n5,n6⟩:=CEL.out v1 HB1.out;go_wp2_with fail;refine (S2.out _ HB1.out).mono ?_
 rintro e v2 ⟨rfl,bb⟩;have HB2:=Aa (HB1.out.next bb);clear bb m0 m1 m2 m3 m4 m5 m6 t0 u0 n0 n1 n2x n3 n4 n5 n6;obtain ⟨m0,m1,m2,m3,m4,m5,m6,t0,u0,n0,n1,n2x,n3,n4,n5,n6⟩:=CEL.out v2 HB2.out;go_wp2_with fail;refine (S3.out _ HB2.out).mono ?_;rintro e v3 ⟨rfl,bb⟩;have HB3:=Aa (HB2.out.next bb);clear bb m0 m1 m2 m3 m4 m5 m6 t0 u0 n0 n1 n2x n3 n4 n5 n6;obtain ⟨m0,m1,m2,m3,m4,m5,m6,t0,u0,n0,n1,n2x,n3,n4,n5,n6⟩:=CEL.out v3 HB3.out;go_wp2_with fail;refine (S4.out _ HB3.out).mono ?_
 rintro e v4 ⟨rfl,bb⟩;have HB4:=Aa (HB3.out.next bb);clear bb m0 m1 m2 m3 m4 m5 m6 t0 u0 n0 n1 n2x n3 n4 n5 n6;obtain ⟨m0,m1,m2,m3,m4,m5,m6,t0,u0,n0,n1,n2x,n3,n4,n5,n6⟩:=CEL.out v4 HB4.out;go_wp2_with fail;refine (S5.out _).mono ?_;rintro e v5 ⟨rfl,bb⟩;have HB5:=Aa (HB4.out.next bb);clear bb m0 m1 m2 m3 m4 m5 m6 t0 u0 n0 n1 n2x n3 n4 n5 n6;obtain ⟨m0,m1,m2,m3,m4,m5,m6,t0,u0,n0,n1,n2x,n3,n4,n5,n6⟩:=CEL.out v5 HB5.out;go_wp2_with fail;refine (S6.out _ HB5.out).mono ?_
 rintro e v6 ⟨rfl,bb⟩;have HB6:=Aa (HB5.out.next bb);clear bb m0 m1 m2 m3 m4 m5 m6 t0 u0 n0 n1 n2x n3 n4 n5 n6;obtain ⟨m0,m1,m2,m3,m4,m5,m6,t0,u0,n0,n1,n2x,n3,n4,n5,n6⟩:=CEL.out v6 HB6.out;go_wp2_with fail;refine (S7.out _ HB6.out).mono ?_;rintro e v7 ⟨rfl,bb⟩;have HB7:=Aa (HB6.out.next bb);clear bb m0 m1 m2 m3 m4 m5 m6 t0 u0 n0 n1 n2x n3 n4 n5 n6;have HF:=Aa (show Fv w0 (.returned (.bool true)) v7 from ⟨rfl,HB120.out.next HB7.out⟩);go_wp2_with fail;go_ret
 exact HF.out
end
section
open Go.RowKit
open Lx Ex
end
section
open Go.RowKit
open Lx Ex
end
section
open Go.RowKit
open Lx Ex
def NO:Tr->Nat
 |.leaf _=>1
 |.cmp _ _ _=>1
 |.deny t=>NO t+1
 |.both a b=>NO a+NO b+1
 |.any a b=>NO a+NO b+1
mutual
def NP:GT->Nat
 |.mk _ _ _ _ _ _ kids=>EM kids+1
def EM:List GT->Nat
 |[]=>0
 |t::ts=>NP t+EM ts
end
theorem NQ (ks:List GT):∀(q:Nat) (t:GT),ks[q]?=some t->EM (ks.take (q+1))=EM (ks.take q)+NP t:=by
 induction ks with
 |nil=>intro q t h;simp at h
 |cons k ks ih=>
  intro q t h;cases q with
  |zero=>
   simp only[List.getElem?_cons_zero,Option.some.injEq]at h;subst h;simp[EM]
  |succ q=> rw[List.getElem?_cons_succ]at h;rw[List.take_succ_cons,List.take_succ_cons,EM,EM,ih q t h];omega
end
section
open Go.RowKit
open Lx Ex
def I1 (t:GT) (lim:Nat) (w:World) (e:Ending) (w':World):Prop:=∃r:Nat,e=.returned (.int .i64 (r:Int))/\1<=r/\r<=lim+1/\(r<=lim->r=NP t)/\Below w.heap.size w w'
theorem RD {S:Nat->Prop} {W0:World} {t:GT} {vs:List Value} (h1:AW S W0 t vs):∀(lim:Nat) (w0:World),lim<=1000000->Below W0.heap.size W0 w0->Calls Tryz.prog 15 #[.agg vs.toArray,.int .i64 (lim:Int)] w0 (I1 t lim w0):=by
 induction h1 with
 |mk kd op l r p q kids Al Ar A nl cl nr cr n c ba oa cs g1 g2 g3 g4 g5 g6 g7 g8 g9 g10 g11 g12 ih=>
  intro lim w0 hlim hb0;show Calls _ _ #[.agg #[.int .i64 kd,.slice Al nl cl,.slice Ar nr cr,.int .i64 op,.string p,.string q,.slice A n c],.int .i64 (lim:Int)] w0 _;obtain ⟨x1,hb,-⟩:=Ap 33 w0 #[.int .i64 kd,.slice Al nl cl,.slice Ar nr cr,.int .i64 op,.string p,.string q,.slice A n c];have HB:=Aa hb;have X1:=Aa x1;have G10:=Aa g10;have HN:=Aa g3
  have HSTEP:=Aa (show ∀j,j<n->∃(u:GT) (k2:Int) (Al2:Option Addr) (BO cl2:Nat) (Ar2:Option Addr) (nr2 cr2:Nat) (op2:Int) (p2 q2:ByteArray) (A2:Option Addr) (n2 c2:Nat),kids[j]?=some u/\(∀W,Below w0.heap.size w0 W->W.cell? ⟨ba,oa+j*7,none⟩=some (.int .i64 k2)/\W.cell? ⟨ba,oa+j*7+1,none⟩=some (.slice Al2 BO cl2)/\W.cell? ⟨ba,oa+j*7+2,none⟩=some (.slice Ar2 nr2 cr2)/\W.cell? ⟨ba,oa+j*7+3,none⟩=some (.int .i64 op2)/\W.cell? ⟨ba,oa+j*7+4,none⟩=some (.string p2)/\W.cell? ⟨ba,oa+j*7+5,none⟩=some (.string q2)/\W.cell? ⟨ba,oa+j*7+6,none⟩=some (.slice A2 n2 c2))/\∀(m:Nat) W,Below w0.heap.size w0 W->m<=1000000->Calls Tryz.prog 15 #[.agg #[.int .i64 k2,.slice Al2 BO cl2,.slice Ar2 nr2 cr2,.int .i64 op2,.string p2,.string q2,.slice A2 n2 c2],.int .i64 (m:Int)] W (I1 u m W) from by
   intro j hj;have hk:j<kids.length:=(by omega);have ht:kids[j]?=some kids[j]:=List.getElem?_eq_getElem hk;have hti:=g12 j _ ht;obtain ⟨k2,Al2,BO,cl2,Ar2,nr2,cr2,op2,p2,q2,A2,n2,c2,e1⟩:=hti.shape;have cc1:=(g11 j hj).2;have hr:=fun (m:Nat) W hW hm=>ih j _ ht m W hm (hb0.next hW)
   rw[e1]at cc1 hti hr
   exact ⟨_,k2,Al2,BO,cl2,Ar2,nr2,cr2,op2,p2,q2,A2,n2,c2,ht,fun W hW=>⟨(Af (hb0.next hW) (g10 (by omega)).2.2).trans (cc1 0 _ rfl),(Af (hb0.next hW) (g10 (by omega)).2.2).trans (cc1 1 _ rfl),(Af (hb0.next hW) (g10 (by omega)).2.2).trans (cc1 2 _ rfl),(Af (hb0.next hW) (g10 (by omega)).2.2).trans (cc1 3 _ rfl),(Af (hb0.next hW) (g10 (by omega)).2.2).trans (cc1 4 _ rfl),(Af (hb0.next hW) (g10 (by omega)).2.2).trans (cc1 5 _ rfl),(Af (hb0.next hW) (g10 (by omega)).2.2).trans (cc1 6 _ rfl)⟩,hr⟩)
  have HSG:=Aa (show NP (.mk kd l r op p q kids)=EM (kids.take n)+1 from by rw[NP,List.take_of_length_le (by omega)]);have HPP:=Aa (show ∀(m:Nat) w',1<=m->m<=lim+1->(m<=lim->m=EM (kids.take n)+1)->Below w0.heap.size w0 w'->I1 (.mk kd l r op p q kids) lim w0 (.returned (.int .i64 (m:Int))) w' from fun m w' h1 h2 h3 h4=>⟨m,rfl,h1,h2,fun h=>by rw[HSG.out];exact h3 h,h4⟩);clear g1 g2 g4 g5 g6 g7 g10 g11 g12 ih x1 hb hb0 g3 HSG;go_enter Tryz.func15,Tryz.ntmps15;go_wp2_with fail
  generalize hW:w0.alloc (.cells #[.int .i64 kd,.slice Al nl cl,.slice Ar nr cr,.int .i64 op,.string p,.string q,.slice A n c] 33)=W1 at *;clear hW;go_loopw [5,6] (fun s i wr=>∃(x m:Nat),x<=n/\i=.int .i64 x/\s=.int .i64 (m:Int)/\1<=m/\m<=lim+1/\Hid (m<=lim->m=EM (kids.take x)+1)/\Hid (Below w0.heap.size w0 wr)/\Hid (Am 33 wr w0.heap.size #[.int .i64 kd,.slice Al nl cl,.slice Ar nr cr,.int .i64 op,.string p,.string q,.slice A n c])) (fun _ i _=>n-(intOf i).toNat)
  case atStart=>exact ⟨0,1,Nat.zero_le _,rfl,rfl,Nat.le_refl _,by omega,Aa (fun _=>rfl),HB,X1⟩
  case round=>
   obtain ⟨x,m,hx,rfl,rfl,hm1,hm2,HM,HR,XR⟩:=hrel;have u6:=XR.out.cell 6 _ rfl;by_cases hxn:x<n
   · have g1:(x:Int)<(n:Int):=(by omega);by_cases hml:m<=lim
     · have g2:(m:Int)<=(lim:Int):=(by omega);obtain ⟨u,k2,Al2,BO,cl2,Ar2,nr2,cr2,op2,p2,q2,A2,n2,c2,hu,hcs,hrec⟩:=HSTEP.out x hxn;obtain ⟨d0,d1,d2,d3,d4,d5,d6⟩:=hcs wr HR.out;obtain ⟨rfl,-,hba⟩:=G10.out (by omega);have hba2:ba<wr.heap.size:=World.block_lt_of_cell? wr _ d0;have hq:=hrec (lim-m) wr HR.out (by omega);rw[show (((lim-m:Nat)):Int)=(lim:Int)-(m:Int) from by omega]at hq;unfold I1 at hq;have HMX:=Aa (HM.out hml);have HU:=Aa (NQ kids x u hu);clear hu hcs hrec
       go_wp2_with fail;refine hq.mono ?_;rintro e w2 ⟨r2,rfl,hr1,hr2,hr3,b2⟩;have HR3:=Aa hr3;have HB2:=Aa b2;clear hq hr3 b2 d0 d1 d2 d3 d4 d5 d6 u6;go_wp2_with fail;go_roundw
       case rel=>exact ⟨x+1,m+r2,by omega,by go_num,by go_num,by omega,by omega,Aa (fun h=>by rw[HU.out,<-HR3.out (by omega)];have:=HMX.out;omega),Aa (HR.out.next HB2.out),Aa (XR.out.next HB2.out)⟩
       case measure=>simp[intOf];omega
     · have g2:¬(m:Int)<=(lim:Int):=(by omega);have HF:=Aa (fun w'=>HPP.out m w' hm1 hm2 (fun h=>absurd h hml));go_wp2_with fail;go_ret
       exact HF.out _ HR.out
   · obtain rfl:x=n:=(by omega);have g1:¬(x:Int)<(x:Int):=(by omega);have HF:=Aa (fun w'=>HPP.out m w' hm1 hm2 HM.out);go_wp2_with fail;go_ret
     exact HF.out _ HR.out
end
section
open Lx Ex
inductive Fm where
 |mk (kind:Int) (L:List (Int×Int)) (K:Int) (e:Bool) (kids:List Fm)
def Ib (L:List (Int×Int)) (K:Int) (e:Bool):Fm:=.mk 2 L K e []
def Cx (k:Int) (fs:List Fm):Fm:=.mk k [] 0 false fs
mutual
def Bf (us:List Int):Fm->Bool
 |.mk k L K e kids=>if k=0 then true else if k=2 then Nu.E4 e (Tm.val us L+K) else if k=3 then VC us kids else if k=4 then K9 us kids else if k=5 then KA us kids else false
def VC (us:List Int):List Fm->Bool
 |[]=>false
 |t::_=>!Bf us t
def K9 (us:List Int):List Fm->Bool
 |[]=>true
 |t::ts=>Bf us t&&K9 us ts
def KA (us:List Int):List Fm->Bool
 |[]=>false
 |t::ts=>Bf us t || KA us ts
end
def BQ (L M:List (Int×Int)):List (Int×Int):=Tm.norm (L++M.map fun p=>(p.1,-1*p.2))
def Zf (L M:List (Int×Int)) (K J:Int):Fm:=Ib (Tm.norm (Tm.norm (BQ L M))) (K-J) true
def Xp (L M:List (Int×Int)) (K J:Int):Fm:=Ib (Tm.norm (Tm.norm (BQ M L))) (J-K) false
def Xq (L M:List (Int×Int)) (K J:Int):Fm:=Ib (Tm.norm (Tm.norm (BQ (BQ M L) []))) (J-K-1) false
def Zg (L M:List (Int×Int)) (K J:Int):Fm:=Cx 3 [Ib (Tm.norm (Tm.norm (Tm.norm (BQ L M)))) (K-J) true]
def U5 (o:Nat) (L M:List (Int×Int)) (K J:Int):Fm:=
 if o=0 then Zf L M K J else if o=1 then Zg L M K J else if o=2 then Xq L M K J else if o=3 then Xp L M K J else if o=4 then Xq M L J K else Xp M L J K
def AX (vs:List ByteArray):Tr->Option Fm
 |.leaf b=>some (Cx (if b then 0 else 1) [])
 |.cmp l o r=>match Ef vs l ([],0),Ef vs r ([],0) with
  |some a,some b=>some (U5 o a.1 b.1 a.2 b.2)
  |_,_=>none
 |.deny t=>match AX vs t with
  |some f=>some (Cx 3 [f])
  |none=>none
 |.both a b=>match AX vs a,AX vs b with
  |some f,some g=>some (Cx 4 [f,g])
  |_,_=>none
 |.any a b=>match AX vs a,AX vs b with
  |some f,some g=>some (Cx 5 [f,g])
  |_,_=>none
def Ps (us:List Int) (i:Int):Int:=if 0<=i then us.getD i.toNat 0 else 0
def Yj (vs:List ByteArray) (us:List Int) (m:Mn):Int:=if m.var=eS then N6 m else N6 m*Ps us (Ci vs m.var 0)
def KB (vs:List ByteArray) (us:List Int):List Mn->Int
 |[]=>0
 |m::l=>Yj vs us m+KB vs us l
def Zh (o:Nat) (a b:Int):Bool:=if o=0 then decide (a=b) else if o=1 then !decide (a=b) else if o=2 then decide (a<b) else if o=3 then decide (a<=b) else if o=4 then decide (b<a) else decide (b<=a)
def Cc (vs:List ByteArray) (us:List Int):Tr->Bool
 |.leaf b=>b
 |.cmp l o r=>Zh o (KB vs us l) (KB vs us r)
 |.deny t=>!Cc vs us t
 |.both a b=>Cc vs us a&&Cc vs us b
 |.any a b=>Cc vs us a || Cc vs us b
theorem PC (us:List Int) (x:Int):Tm.val us [(x,1)]=Ps us x:=by
 unfold Ps;rw[Tm.val,Tm.val];split
 · rw[Int.one_mul,Int.add_zero]
 · rfl
theorem Xb (vs:List ByteArray) (us:List Int) (m:Mn):Tm.val us (UA m vs)+WM m=Yj vs us m:=by
 unfold UA WM Yj;by_cases h:m.var=eS
 · rw[if_pos h,if_pos h,if_pos h,Tm.val,Int.zero_add]
 · rw[if_neg h,if_neg h,if_neg h,Ha,Tm.val_norm,Tm.val_scale,Tm.val_norm,PC,Int.mul_zero,Int.add_zero]
theorem Xc (vs:List ByteArray) (us:List Int) (l:List Mn):∀(s r:List (Int×Int)×Int),Ef vs l s=some r->Tm.val us r.1+r.2=Tm.val us s.1+s.2+KB vs us l:=by
 induction l with
 |nil=>
  intro s r h;rw[Ef]at h;injection h with h
  subst h;rw[KB,Int.add_zero]
 |cons m l ih=>
  intro s r h;rw[Ef]at h;by_cases hm:Xl m vs=true
  · rw[if_pos hm]at h;have h1:=ih _ _ h;have h2:=Xb vs us m;rw[Tm.val_norm,Tm.val_append]at h1;rw[h1,KB,<-h2];omega
  · rw[if_neg hm]at h;cases h
theorem Qm {vs:List ByteArray} {us:List Int} {l:List Mn} {r:List (Int×Int)×Int} (h:Ef vs l ([],0)=some r):Tm.val us r.1+r.2=KB vs us l:=by rw[Xc vs us l _ _ h,Tm.val];omega
theorem EJ (us:List Int) (L M:List (Int×Int)):Tm.val us (BQ L M)=Tm.val us L-Tm.val us M:=by unfold BQ;rw[Tm.val_norm,Tm.val_append,Tm.val_scale];omega
theorem DG (us:List Int) (L:List (Int×Int)) (K:Int) (e:Bool):Bf us (Ib L K e)=Nu.E4 e (Tm.val us L+K):=by rw[Ib,Bf,if_neg (by decide),if_pos rfl]
theorem RE (us:List Int) (o:Nat) (ho:o<6) (L M:List (Int×Int)) (K J:Int):Bf us (U5 o L M K J)=Zh o (Tm.val us L+K) (Tm.val us M+J):=by
 have b1:∀{p q:Prop} [Decidable p] [Decidable q],(p↔q)->decide p=decide q:=fun h=>decide_eq_decide.2 h
 match o,ho with
 |0,_=>
  show Bf us (Zf L M K J)=decide (_=_);rw[Zf,DG,Tm.val_norm,Tm.val_norm,EJ];exact b1 (by omega)
 |1,_=>
  show Bf us (Zg L M K J)=!decide (_=_);rw[Zg,Cx,Bf,if_neg (by decide),if_neg (by decide),if_pos rfl,VC,DG,Tm.val_norm,Tm.val_norm,Tm.val_norm,EJ];exact congrArg _ (b1 (by omega))
 |2,_=>
  show Bf us (Xq L M K J)=decide (_<_);rw[Xq,DG,Tm.val_norm,Tm.val_norm,EJ,EJ,Tm.val];exact b1 (by omega)
 |3,_=>
  show Bf us (Xp L M K J)=decide (_<=_);rw[Xp,DG,Tm.val_norm,Tm.val_norm,EJ];exact b1 (by omega)
 |4,_=>
  show Bf us (Xq M L J K)=decide (_<_);rw[Xq,DG,Tm.val_norm,Tm.val_norm,EJ,EJ,Tm.val];exact b1 (by omega)
 |5,_=> show Bf us (Xp M L J K)=decide (_<=_);rw[Xp,DG,Tm.val_norm,Tm.val_norm,EJ];exact b1 (by omega)
theorem Pu (vs:List ByteArray) (us:List Int) (u:Tr):∀lv,right lv u->∀f,AX vs u=some f->Bf us f=Cc vs us u:=by
 induction u with
 |leaf b=>
  intro lv _ f h;rw[AX]at h;injection h with h
  subst h;cases b<;>(rw[Cx,Bf];rfl)
 |cmp l o r=>
  intro lv hr f h;rw[right]at hr;rw[AX]at h;cases h1:Ef vs l ([],0) with
  |none=>rw[h1]at h;cases h
  |some a=>
   cases h2:Ef vs r ([],0) with
   |none=>rw[h1,h2]at h;cases h
   |some b=>
     rw[h1,h2]at h;injection h with h
     subst h;rw[RE us o hr.2.1,Qm h1,Qm h2];rfl
 |deny t ih=>
  intro lv hr f h;rw[right]at hr;obtain ⟨lv',hr'⟩:∃lv',right lv' t:=by
   split at hr
   · exact ⟨_,hr.2⟩
   · exact ⟨_,hr.2⟩
  rw[AX]at h;cases h1:AX vs t with
  |none=>rw[h1]at h;cases h
  |some g=>
   rw[h1]at h;injection h with h
   subst h;rw[Cx,Bf,if_neg (by decide),if_neg (by decide),if_pos rfl,VC,ih _ hr' g h1];rfl
 |both a b iha ihb=>
  intro lv hr f h;rw[right]at hr;obtain ⟨lv1,hr1⟩:∃lv',right lv' a:=by
   have:=hr.1;split at this
   · exact ⟨_,this.2⟩
   · exact ⟨_,this⟩
  obtain ⟨lv2,hr2⟩:∃lv',right lv' b:=by
   have:=hr.2;split at this
   · exact ⟨_,this.2⟩
   · exact ⟨_,this⟩
  rw[AX]at h;cases h1:AX vs a with
  |none=>rw[h1]at h;cases h
  |some x=>
   cases h2:AX vs b with
   |none=>rw[h1,h2]at h;cases h
   |some y=>
     rw[h1,h2]at h;injection h with h
     subst h;rw[Cx,Bf,if_neg (by decide),if_neg (by decide),if_neg (by decide),if_pos rfl,K9,K9,K9,iha _ hr1 x h1,ihb _ hr2 y h2,Bool.and_true];rfl
 |any a b iha ihb=>
  intro lv hr f h;rw[right]at hr;obtain ⟨lv2,hr2⟩:∃lv',right lv' b:=by
   have:=hr.2;split at this
   · exact ⟨_,this.2⟩
   · exact ⟨_,this⟩
  rw[AX]at h;cases h1:AX vs a with
  |none=>rw[h1]at h;cases h
  |some x=>
   cases h2:AX vs b with
   |none=>rw[h1,h2]at h;cases h
   |some y=>
     rw[h1,h2]at h;injection h with h
     subst h;rw[Cx,Bf,if_neg (by decide),if_neg (by decide),if_neg (by decide),if_neg (by decide),if_pos rfl,KA,KA,KA,iha _ hr.1 x h1,ihb _ hr2 y h2,Bool.or_false];rfl
end
end Go.Proofs.YtgohmojcopajoaaGreatDoor
namespace Go.Proofs.YtgohmojcopajoaaGreatDoor.Nu
section
open Go.RowKit
section
variable {T:TypeId} {w w':World} {g k j:Nat} {x y z u v:Value} {L:List (Int×Int)} {K:Int} {e:Bool}
theorem Z6 (i:Int) (A B C:Option Addr) (n c m d p q:Nat) (s f:Bool):Cw (#[.int .i64 i,.slice A n c,.bool s,.slice B m d,.bool f,.slice C p q]:Array Value).toList:=by
 intro u hu;simp only[List.mem_cons,List.not_mem_nil,or_false]at hu;rcases hu with rfl|rfl|rfl|rfl|rfl|rfl
 · exact NL.i64 _
 · exact NL.slice _ _ _
 · exact NL.bool _
 · exact NL.slice _ _ _
 · exact NL.bool _
 · exact NL.slice _ _ _
theorem IJ.offForm {A B C D:Option Addr} {n m c d q p r:Nat} {i:Int} {s f:Bool} (h:IJ w A n L k) (hb:Am T w g #[.int .i64 i,.slice B m c,.bool s,.slice C q d,.bool f,.slice D p r]):0<n->Apart A g:=by
 obtain ⟨ps,h,-⟩:=h;intro hn ad had he;obtain ⟨b,o,e,hc⟩:=h.2.1 hn;have hl:0<ps.length:=by rw[h.1];exact hn
 obtain ⟨g0,g1,-⟩:=flat_get ps 0 ps[0] (List.getElem?_eq_getElem hl);have h0:=hc 0 _ g0;have h1:=hc 1 _ g1;rw[had]at e;injection e with e
 subst e;have he':b=g:=he;subst he';rw[cell_of_row w b _ _ _ _ hb]at h0 h1;match o,h0,h1 with
 |0,_,h1=>simp at h1
 |1,h0,_=>simp at h0
 |2,h0,_=>simp at h0
 |3,h0,_=>simp at h0
 |4,h0,_=>simp at h0
 |5,h0,_=>simp at h0
 |o+6,h0,_=>simp at h0
theorem AP.onlyF {B C D:Option Addr} {m c d q p r:Nat} {i:Int} {s f:Bool} (h:AP w v L K k) (hb:Am T w g #[.int .i64 i,.slice B m c,.bool s,.slice C q d,.bool f,.slice D p r]) (ho:Ai g w w'):AP w' v L K k:=by have hk:Kp w w':=hb.kp (Z6 _ _ _ _ _ _ _ _ _ _ _ _) ho;obtain ⟨A,n,c,s,B,m,d,e,h1,h2,h3,h4⟩:=h;exact ⟨A,n,c,s,B,m,d,e,h1.keep ho hk (h1.in_.offForm hb),h2,h3,h4.kp hk⟩
theorem AW.onlyF {B C D:Option Addr} {m c d q p r:Nat} {i:Int} {s f:Bool} (h:AW w v L K k) (hb:Am T w g #[.int .i64 i,.slice B m c,.bool s,.slice C q d,.bool f,.slice D p r]) (ho:Ai g w w'):AW w' v L K k:=by have hk:Kp w w':=hb.kp (Z6 _ _ _ _ _ _ _ _ _ _ _ _) ho;obtain ⟨A,n,c,s,B,m,d,e,h1,h2,h3,h4⟩:=h;exact ⟨A,n,c,s,B,m,d,e,h1.keep ho hk (h1.offForm hb),h2,h3,h4.kp hk⟩
end
end
end Go.Proofs.YtgohmojcopajoaaGreatDoor.Nu
