/- Texts of one seat, put together: ExprAl ExprAm ExprAn ExprLp Open ExprTab. -/
import Derived.Test.YtgohmojcopajoaaGreatDoorP30
import Derived.Test.YtgohmojcopajoaaGreatDoorP43
import Derived.Test.YtgohmojcopajoaaGreatDoorP06
import Derived.Test.YtgohmojcopajoaaGreatDoorP25
import Derived.Test.YtgohmojcopajoaaGreatDoorP01
import Derived.ProofKit
import Derived.OpenShut
import Derived.ShutString
import Derived.ChangeOld
import Derived.Below
import Derived.Test.YtgohmojcopajoaaGreatDoorRows
import Derived.Test.YtgohmojcopajoaaGreatDoorP23
import Derived.Lib.LaidTab
import Derived.MakeChecks
set_option linter.unusedVariables false
set_option linter.unusedSimpArgs false
set_option maxRecDepth 100000
set_option maxHeartbeats 16000000
namespace Go.Proofs.YtgohmojcopajoaaGreatDoor
section
open Go.RowKit
open Lx Ex
def XB:ByteArray:=⟨#[120,32,43,32,50,32,60,61,32,51,42,121,32,38,32,33,40,97,32,61,32,49,32,124,32,116,114,117,101,41]⟩
def XC:ByteArray:=⟨#[120,32,60]⟩
def XD:ByteArray:=⟨#[45,50,42,120,32,43,32,49]⟩
def aA:Tr:=.cmp [⟨⟨#[]⟩,⟨#[120]⟩,false⟩,⟨⟨#[50]⟩,⟨#[]⟩,false⟩] 3 [⟨⟨#[51]⟩,⟨#[121]⟩,false⟩]
def aB:Tr:=.deny (.any (.cmp [⟨⟨#[]⟩,⟨#[97]⟩,false⟩] 0 [⟨⟨#[49]⟩,⟨#[]⟩,false⟩]) (.leaf true))
def aU:Tr:=.both aA aB
def aL:List Mn:=[⟨⟨#[50]⟩,⟨#[120]⟩,true⟩,⟨⟨#[49]⟩,⟨#[]⟩,false⟩]
theorem Wk:G3 XB=(gt aU,0,0,0):=by kernel_rfl
theorem Wl:G3 XC=(zG,1,4,101):=by kernel_rfl
theorem Wm:He XD=(aL,0,0,0):=by kernel_rfl
theorem UA:AC aU=[120,32,43,32,50,32,60,61,32,51,42,121,32,38,32,33,40,97,32,61,32,49,32,124,32,116,114,117,101,41]:=by kernel_rfl
theorem UB:AC aA=[120,32,43,32,50,32,60,61,32,51,42,121]:=by kernel_rfl
theorem UC:Ca true aL=[45,50,42,120,32,43,32,49]:=by kernel_rfl
theorem Wn:H7 [⟨#[120]⟩] aL ([],0)=some ([(0,-2)],1):=by kernel_rfl
theorem SJ:BF aL=true:=by kernel_rfl
theorem UD:Bb (gt aU) 60=true:=by kernel_rfl
theorem UE:Lu (gt aA)=true:=by kernel_rfl
theorem Wo:GD (gt aU)=true:=by kernel_rfl
end
section
open Go.RowKit
open Lx Ex
def Us (l:List Mn):Bool:=l.all fun m=>decide (m.num.size<=4611686018427387904)&&decide (m.var.size<=4611686018427387904)
theorem FK {l:List Mn} (h:Us l=true):On l:=by intro m hm;have:=List.all_eq_true.1 h m hm;simp at this;exact this
def JI:Tr->Bool
 |.leaf _=>true
 |.cmp l _ r=>Us l&&Us r&&decide (l.length<=4611686018427387903)&&decide (r.length<=4611686018427387903)
 |.deny t=>JI t
 |.both a b=>JI a&&JI b
 |.any a b=>JI a&&JI b
theorem JJ (u:Tr) (h:JI u=true):Oz (gt u):=by
 have nil:On []:=fun m hm=>by cases hm
 induction u with
 |leaf b=>exact Oz.mk _ _ _ _ _ _ _ nil nil (by decide) (by decide) (fun t ht=>by cases ht)
 |cmp l o r=>
  simp only[JI,Bool.and_eq_true,decide_eq_true_eq]at h;exact Oz.mk _ _ _ _ _ _ _ (FK h.1.1.1) (FK h.1.1.2) h.1.2 h.2 (fun t ht=>by cases ht)
 |deny t ih=>
  exact Oz.mk _ _ _ _ _ _ _ nil nil (by decide) (by decide) (fun x hx=>by
   simp only[List.mem_cons,List.not_mem_nil,or_false]at hx;subst hx;exact ih h)
 |both a b iha ihb=>
  simp only[JI,Bool.and_eq_true]at h;exact Oz.mk _ _ _ _ _ _ _ nil nil (by decide) (by decide) (fun x hx=>by
   simp only[List.mem_cons,List.not_mem_nil,or_false]at hx;rcases hx with rfl|rfl<;>first|exact iha h.1|exact ihb h.2)
 |any a b iha ihb=>
  simp only[JI,Bool.and_eq_true]at h;exact Oz.mk _ _ _ _ _ _ _ nil nil (by decide) (by decide) (fun x hx=>by
   simp only[List.mem_cons,List.not_mem_nil,or_false]at hx;rcases hx with rfl|rfl<;>first|exact iha h.1|exact ihb h.2)
theorem OM:JI aU=true:=by kernel_rfl
theorem SK:JI aA=true:=by kernel_rfl
theorem ON:Us aL=true:=by kernel_rfl
def XE:List ByteArray:=[⟨#[120]⟩,⟨#[121]⟩,⟨#[97]⟩]
theorem VA:Ua XE aU:=by refine ⟨⟨by kernel_rfl,by kernel_rfl,FK (by kernel_rfl),FK (by kernel_rfl),by kernel_rfl,by kernel_rfl,Or.inr rfl⟩,⟨by kernel_rfl,by kernel_rfl,FK (by kernel_rfl),FK (by kernel_rfl),by kernel_rfl,by kernel_rfl,Or.inl rfl⟩,trivial⟩
theorem JK:right 60 aU:=(Iw aU 60).1 UD
theorem QJ:right 60 aA:=JK.1
section
variable (W:World)
theorem Wp (h:Bj W):Calls Tryz.prog 11 #[.string ⟨#[120,32,43,32,50,32,60,61,32,51,42,121,32,38,32,33,40,97,32,61,32,49,32,124,32,116,114,117,101,41]⟩] W (fun e w'=>∃(kd:Int) (Al:Option Addr) (nl cl:Nat) (Ar:Option Addr) (nr cr:Nat) (op:Int) (p q:ByteArray) (A:Option Addr) (n c:Nat),e=.returned (.tuple #[.agg #[.int .i64 kd,.slice Al nl cl,.slice Ar nr cr,.int .i64 op,.string p,.string q,.slice A n c],.agg #[.int .i64 0,.int .i64 0],.int .i64 0])/\Bq (AH W.heap.size) w' (gt aU) [.int .i64 kd,.slice Al nl cl,.slice Ar nr cr,.int .i64 op,.string p,.string q,.slice A n c]/\Below W.heap.size W w'):=by have:=Fc XB W (by decide) h;rw[Wk]at this;exact this
theorem Wq (h:Bj W):Calls Tryz.prog 11 #[.string ⟨#[120,32,60]⟩] W (fun e w'=>∃(kd:Int) (Al:Option Addr) (nl cl:Nat) (Ar:Option Addr) (nr cr:Nat) (op:Int) (p q:ByteArray) (A:Option Addr) (n c:Nat),e=.returned (.tuple #[.agg #[.int .i64 kd,.slice Al nl cl,.slice Ar nr cr,.int .i64 op,.string p,.string q,.slice A n c],.agg #[.int .i64 1,.int .i64 4],.int .i64 101])/\Bq (AH W.heap.size) w' zG [.int .i64 kd,.slice Al nl cl,.slice Ar nr cr,.int .i64 op,.string p,.string q,.slice A n c]/\Below W.heap.size W w'):=by have:=Fc XC W (by decide) h;rw[Wl]at this;exact this
theorem Wr:Calls Tryz.prog 9 #[.string ⟨#[45,50,42,120,32,43,32,49]⟩] W (fun e w'=>∃(A:Option Addr) (c:Nat),e=.returned (.tuple #[.slice A 2 c,.agg #[.int .i64 0,.int .i64 0],.int .i64 0])/\2<=c/\c<=9223372036854775807/\De (AH W.heap.size) w' A 2 aL/\Below W.heap.size W w'):=by have:=Ic XD W (by decide);rw[Wm]at this;exact this
theorem Ut {S:Nat->Prop} {A:Option Addr} {c g:Nat} (h:De S W A 2 aL) (hx:Ao 9 W g #[.string ⟨#[120]⟩]):Calls Tryz.prog 24 #[.slice A 2 c,.slice (some ⟨g,0,none⟩) 1 1] W (fun e w'=>∃(A:Option Addr) (c:Nat) (s:Bool) (B:Option Addr) (m d:Nat),e=.returned (.tuple #[.agg #[.slice A 1 c,.bool s,.slice B m d],.bool true])/\Below W.heap.size W w'):=by
 have:=JC S A 2 c aL (some ⟨g,0,none⟩) 1 1 [⟨#[120]⟩] W h (by omega) (FK ON) ⟨rfl,fun _=>⟨g,0,rfl,hx.lt,fun j s hj=>by
  match j,hj with
  |0,hj=>injection hj with hj;subst hj;exact hx.cell 0 _ rfl⟩⟩ (by omega)
 rw[SJ,if_pos rfl,Wn]at this;refine this.mono ?_;rintro e w' ⟨v,rfl,hv,hb⟩;obtain ⟨A1,n1,c1,s1,B1,m1,d1,rfl,⟨ps,hp,hl,-⟩,-⟩:=hv;have h1:n1=1:=by have h2:=congrArg List.length hl;unfold Nu.DO at h2;rw[List.length_map]at h2;rw[<-hp.1];exact h2
 subst h1;exact ⟨A1,c1,s1,B1,m1,d1,rfl,hb⟩
end
end
section
open Go.RowKit
open Lx Ex
theorem QK (w0:World) (htab:Bj w0):Calls Tryz.prog 8 #[] w0 (Eu w0):=by
 have HC1:=Aa (Wp w0 htab);have HTAB:=Aa (fun W (h:Below w0.heap.size w0 W)=>htab.below h);clear htab;go_enter Tryz.func8,Tryz.ntmps8;go_wp2_with fail;refine HC1.out.mono ?_;rintro e w1 ⟨kd,Al,nl,cl,Ar,nr,cr,op,p,q,A,n,c,rfl,hT,b1⟩;obtain ⟨l',r',ks,e,hl,hr,hk,hl1,hl2,hr1,hr2,hn1,hn2,hkid⟩:=hT.parts;have e:GT.mk 4 [] [] 0 ⟨#[]⟩ ⟨#[]⟩ [gt aA,gt aB]=GT.mk kd l' r' op p q ks:=e;injection e with e1 e2 e3 e4 e5 e6 e7
 subst e1 e2 e3 e4 e5 e6 e7;obtain rfl:0=nl:=hl.1;obtain rfl:0=nr:=hr.1;obtain rfl:2=n:=hk;obtain ⟨ba,oa,u,k2,Al2,Cc,cl2,Ar2,nr2,cr2,op2,p2,q2,A2,n2,c2,rfl,hS9,hlt,hu,hti,e0,e1,e2,e3,e4,e5,e6⟩:=hkid 0 (by omega);have hu:some (gt aA)=some u:=hu;injection hu with hu
 subst hu;simp only[Nat.zero_mul,Nat.add_zero]at e0 e1 e2 e3 e4 e5 e6;obtain ⟨la',ra',kas,ea,hla,hra,hka,-⟩:=hti.parts;have ea:GT.mk 2 [⟨⟨#[]⟩,⟨#[120]⟩,false⟩,⟨⟨#[50]⟩,⟨#[]⟩,false⟩] [⟨⟨#[51]⟩,⟨#[121]⟩,false⟩] 3 ⟨#[]⟩ ⟨#[]⟩ []=GT.mk k2 la' ra' op2 p2 q2 kas:=ea;injection ea with a1 a2 a3 a4 a5 a6 a7
 subst a2 a3;have HNL:=Aa (show Cc<=4611686018427387903 from by have:=hla.1;simp at this;omega);have HNR:=Aa (show nr2<=4611686018427387903 from by have:=hra.1;simp at this;omega);clear a1 a4 a5 a6 a7 hla hra hka;have HT:=Aa (fun W (h:Below w1.heap.size w1 W)=>hT.keep (As.of_below h));have HTA:=Aa (fun W (h:Below w1.heap.size w1 W)=>hti.keep (As.of_below h))
 have HEK:=Aa (show ∀W,Below w1.heap.size w1 W->(W.cell? ⟨ba,oa,none⟩=some (.int .i64 k2)/\W.cell? ⟨ba,oa+1,none⟩=some (.slice Al2 Cc cl2)/\W.cell? ⟨ba,oa+2,none⟩=some (.slice Ar2 nr2 cr2)/\W.cell? ⟨ba,oa+3,none⟩=some (.int .i64 op2)/\W.cell? ⟨ba,oa+4,none⟩=some (.string p2)/\W.cell? ⟨ba,oa+5,none⟩=some (.string q2)/\W.cell? ⟨ba,oa+6,none⟩=some (.slice A2 n2 c2)) from fun W h=>⟨(Ah h hlt).trans e0,(Ah h hlt).trans e1,(Ah h hlt).trans e2,(Ah h hlt).trans e3,(Ah h hlt).trans e4,(Ah h hlt).trans e5,(Ah h hlt).trans e6⟩)
 have HBA:=Aa hlt;clear hT hti hl hr hkid hl1 hl2 hr1 hr2 hn1 hS9 e0 e1 e2 e3 e4 e5 e6 hlt;obtain ⟨x1,x2,hb,hsz⟩:=Aw 33 25 w1 #[.int .i64 4,.slice Al 0 cl,.slice Ar 0 cr,.int .i64 0,.string ⟨#[]⟩,.string ⟨#[]⟩,.slice (some ⟨ba,oa,none⟩) 2 c] #[.int .i64 0,.int .i64 0];have HB2:=Aa hb;have X1:=Aa x1;have X2:=Aa x2;have HB20:=Aa (b1.next hb);clear x1 x2 hb b1;go_wp2_with fail
 generalize hW:(w1.alloc (.cells #[.int .i64 4,.slice Al 0 cl,.slice Ar 0 cr,.int .i64 0,.string ⟨#[]⟩,.string ⟨#[]⟩,.slice (some ⟨ba,oa,none⟩) 2 c] 33)).alloc (.cells #[.int .i64 0,.int .i64 0] 25)=W2 at *;clear hW;refine (Wq W2 (HTAB.out _ HB20.out)).mono ?_;rintro e w3 ⟨kd9,Al9,nl9,cl9,Ar9,nr9,cr9,op9,p9,q9,A9,n9,c9,rfl,-,b3⟩
 obtain ⟨y1,y2,hb,hsz3⟩:=Aw 33 25 w3 #[.int .i64 kd9,.slice Al9 nl9 cl9,.slice Ar9 nr9 cr9,.int .i64 op9,.string p9,.string q9,.slice A9 n9 c9] #[.int .i64 1,.int .i64 4];have HB4:=Aa (HB2.out.next (b3.next hb));have HB40:=Aa (HB20.out.next (b3.next hb));have X5:=Aa y2;have X14:=Aa (X1.out.next (b3.next hb));have X24:=Aa (X2.out.next (b3.next hb));clear y1 y2 hb b3 X1 X2 HB2 HB20;go_wp2_with fail
 generalize hW:(w3.alloc (.cells #[.int .i64 kd9,.slice Al9 nl9 cl9,.slice Ar9 nr9 cr9,.int .i64 op9,.string p9,.string q9,.slice A9 n9 c9] 33)).alloc (.cells #[.int .i64 1,.int .i64 4] 25)=W4 at *;clear hW;refine (Wr W4).mono ?_;rintro e w5 ⟨A3,c3,rfl,hq1,hq2,hm,b5⟩;have hb:=Ae w5 (.cells #[.int .i64 0,.int .i64 0] 25);have HB6:=Aa (HB4.out.next (b5.next hb));have HB60:=Aa (HB40.out.next (b5.next hb));have X16:=Aa (X14.out.next (b5.next hb))
 have X26:=Aa (X24.out.next (b5.next hb));have X56:=Aa (X5.out.next (b5.next hb));have HM6:=Aa (hm.keep (As.of_below hb));clear hb b5 hm X14 X24 X5 HB4 HB40;have c0:=X16.out.cell 0 _ rfl;have c6:=X16.out.cell 6 _ rfl;have d0:=X26.out.cell 0 _ rfl;have d1:=X26.out.cell 1 _ rfl;have f0:=X56.out.cell 0 _ rfl;have f1:=X56.out.cell 1 _ rfl;go_upto_region 4 with fail;generalize hW:w5.alloc (.cells #[.int .i64 0,.int .i64 0] 25)=W6 at *;clear hW;go_upto_region 6 with fail
 clear c0 c6 d0 d1 f0 f1 X26 X56;obtain ⟨xs,hb,hsz7⟩:=Ax 9 W6 #[.string ⟨#[120]⟩];have HTM:=Aa (Ut _ (c:=c3) (HM6.out.keep (As.of_below hb)) xs);have HB7:=Aa (HB6.out.next hb);have HB70:=Aa (HB60.out.next hb);have X17:=Aa (X16.out.next hb);have HM7:=Aa (HM6.out.keep (As.of_below hb));clear xs hb X16 HM6 HB6 HB60;go_wp2_with fail;generalize hW:W6.alloc (.cells #[.string ⟨#[120]⟩] 9)=W7 at *;clear hW;refine HTM.out.mono ?_;rintro e w8 ⟨A8,c8,s8,B8,m8,d8,rfl,b8⟩
 have hb:=Ae w8 (.cells #[.slice A8 1 c8,.bool s8,.slice B8 m8 d8] 56);have HB9:=Aa (HB7.out.next (b8.next hb));have HB90:=Aa (HB70.out.next (b8.next hb));have X19:=Aa (X17.out.next (b8.next hb));have X109:=Aa (Ao.new 56 w8 #[.slice A8 1 c8,.bool s8,.slice B8 m8 d8]);have HM9:=Aa (HM7.out.keep (As.of_below (b8.next hb)));clear hb b8 X17 HM7 HB7 HB70 HTM;have g0:=X19.out.cell 0 _ rfl;have g1:=X19.out.cell 1 _ rfl;have g2:=X19.out.cell 2 _ rfl;have g3:=X19.out.cell 3 _ rfl
 have g4:=X19.out.cell 4 _ rfl;have g5:=X19.out.cell 5 _ rfl;have g6:=X19.out.cell 6 _ rfl;go_upto_region 7 with fail;generalize hW:w8.alloc (.cells #[.slice A8 1 c8,.bool s8,.slice B8 m8 d8] 56)=W9 at *;clear hW;obtain ⟨xs,hb,hsz9⟩:=Ax 9 W9 #[.string ⟨#[120]⟩,.string ⟨#[121]⟩,.string ⟨#[97]⟩];have HFO:=Aa (Uc (some ⟨W9.heap.size,0,none⟩) 3 3 XE _ (HT.out _ (HB9.out.next hb)) (JJ aU OM) JK VA ⟨rfl,fun _=>⟨W9.heap.size,0,rfl,xs.lt,fun j s hj=>by
  match j,hj with
  |0,hj=>injection hj with hj;subst hj;exact xs.cell 0 _ rfl
  |1,hj=>injection hj with hj;subst hj;exact xs.cell 1 _ rfl
  |2,hj=>injection hj with hj;subst hj;exact xs.cell 2 _ rfl⟩⟩ (by omega))
 rw[show Nk aU=4 from rfl]at HFO;have HB10:=Aa (HB9.out.next hb);have HB100:=Aa (HB90.out.next hb);have X110:=Aa (X19.out.next hb);have X1010:=Aa (X109.out.next hb);have HM10:=Aa (HM9.out.keep (As.of_below hb));clear xs hb X19 X109 HM9 HB9 HB90;go_wp2_with fail;generalize hW:W9.alloc (.cells #[.string ⟨#[120]⟩,.string ⟨#[121]⟩,.string ⟨#[97]⟩] 9)=W10 at *;clear hW;refine HFO.out.mono ?_;rintro e w11 ⟨fA9,fn9,fc9,fs9,fB9,fm9,fd9,ff9,fC9,fp9,fq9,rfl,b11⟩
 have hb:=Ae w11 (.cells #[.int .i64 4,.slice fA9 fn9 fc9,.bool fs9,.slice fB9 fm9 fd9,.bool ff9,.slice fC9 fp9 fq9] 61);have HB12:=Aa (HB10.out.next (b11.next hb));have HB120:=Aa (HB100.out.next (b11.next hb));have X112:=Aa (X110.out.next (b11.next hb));have X1012:=Aa (X1010.out.next (b11.next hb));have X1212:=Aa (Ao.new 61 w11 #[.int .i64 4,.slice fA9 fn9 fc9,.bool fs9,.slice fB9 fm9 fd9,.bool ff9,.slice fC9 fp9 fq9])
 have HM12:=Aa (HM10.out.keep (As.of_below (b11.next hb)));clear hb b11 X110 X1010 HM10 HB10 HB100 HFO g0 g1 g2 g3 g4 g5 g6;go_upto_region 8 with fail;generalize hW:w11.alloc (.cells #[.int .i64 4,.slice fA9 fn9 fc9,.bool fs9,.slice fB9 fm9 fd9,.bool ff9,.slice fC9 fp9 fq9] 61)=W12 at *;clear hW
 have S1:=Aa (fun W (h:Below W12.heap.size W12 W)=>(show Calls Tryz.prog 19 #[.agg #[.int .i64 4,.slice Al 0 cl,.slice Ar 0 cr,.int .i64 0,.string ⟨#[]⟩,.string ⟨#[]⟩,.slice (some ⟨ba,oa,none⟩) 2 c]] W (fun e w'=>e=.returned (.string ⟨#[120,32,43,32,50,32,60,61,32,51,42,121,32,38,32,33,40,97,32,61,32,49,32,124,32,116,114,117,101,41]⟩)/\Below W.heap.size W w') from by have:=Nh W (HT.out W (HB12.out.next h)) (JJ aU OM) JK (HTAB.out W (HB120.out.next h)) (by rw[UA];decide);unfold Dz at this;rw[UA]at this;exact this))
 have S2:=Aa (fun W (h:Below W12.heap.size W12 W)=>(show Calls Tryz.prog 16 #[.slice A3 2 c3] W (fun e w'=>e=.returned (.string ⟨#[45,50,42,120,32,43,32,49]⟩)/\Below W.heap.size W w') from by have:=Ng _ A3 2 c3 aL W (HM12.out.keep (As.of_below h)) (by omega) hq1 hq2 (FK ON) SJ (by rw[UC];decide);unfold Dz at this;rw[UC]at this;exact this))
 have S3:=Aa (fun W (h:Below W12.heap.size W12 W)=>(show Calls Tryz.prog 18 #[.agg #[.int .i64 4,.slice Al 0 cl,.slice Ar 0 cr,.int .i64 0,.string ⟨#[]⟩,.string ⟨#[]⟩,.slice (some ⟨ba,oa,none⟩) 2 c]] W (fun e w'=>e=.returned (.bool true)/\Below W.heap.size W w') from by have:=Iz W (HT.out W (HB12.out.next h)) (JJ aU OM);rw[UD]at this;exact this))
 have S4:=Aa (fun W (h:Below W12.heap.size W12 W)=>(show Calls Tryz.prog 17 #[.slice A3 2 c3] W (fun e w'=>e=.returned (.bool true)/\Below W.heap.size W w') from by have:=Dw _ A3 2 c3 aL W (HM12.out.keep (As.of_below h)) (by omega) (FK ON);rw[SJ]at this;exact this))
 have S5:=Aa (fun W=>(show Calls Tryz.prog 25 #[.agg #[.int .i64 4,.slice Al 0 cl,.slice Ar 0 cr,.int .i64 0,.string ⟨#[]⟩,.string ⟨#[]⟩,.slice (some ⟨ba,oa,none⟩) 2 c]] W (fun e w'=>e=.returned (.bool true)/\Below W.heap.size W w') from by have:=MZ (gt aU) 4 Al 0 cl Ar 0 cr 0 ⟨#[]⟩ ⟨#[]⟩ (some ⟨ba,oa,none⟩) 2 c W ⟨[],[],[gt aA,gt aB],rfl,rfl,rfl,rfl⟩;rw[Wo]at this;exact this))
 have S6:=Aa (fun W (h:Below W12.heap.size W12 W)=>(show Calls Tryz.prog 26 #[.agg #[.int .i64 k2,.slice Al2 Cc cl2,.slice Ar2 nr2 cr2,.int .i64 op2,.string p2,.string q2,.slice A2 n2 c2]] W (fun e w'=>e=.returned (.bool true)/\Below W.heap.size W w') from by have:=FE _ (gt aA) k2 Al2 Cc cl2 Ar2 nr2 cr2 op2 p2 q2 A2 n2 c2 W (HTA.out W (HB12.out.next h)) (JJ aA SK) HNL.out HNR.out;rw[UE]at this;exact this))
 have S7:=Aa (fun W (h:Below W12.heap.size W12 W)=>(show Calls Tryz.prog 27 #[.agg #[.int .i64 k2,.slice Al2 Cc cl2,.slice Ar2 nr2 cr2,.int .i64 op2,.string p2,.string q2,.slice A2 n2 c2]] W (fun e w'=>e=.returned (.string ⟨#[120,32,43,32,50,32,60,61,32,51,42,121]⟩)/\Below W.heap.size W w') from by have:=Ni W (HTA.out W (HB12.out.next h)) (JJ aA SK) HNL.out HNR.out UE QJ (HTAB.out W (HB120.out.next h)) (by rw[UB];decide);unfold Dz at this;rw[UB]at this;exact this))
 have CEL:=Aa (show ∀W,Below W12.heap.size W12 W->(W.cell? ⟨w1.heap.size,0,none⟩=some (.int .i64 4)/\W.cell? ⟨w1.heap.size,1,none⟩=some (.slice Al 0 cl)/\W.cell? ⟨w1.heap.size,2,none⟩=some (.slice Ar 0 cr)/\W.cell? ⟨w1.heap.size,3,none⟩=some (.int .i64 0)/\W.cell? ⟨w1.heap.size,4,none⟩=some (.string ⟨#[]⟩)/\W.cell? ⟨w1.heap.size,5,none⟩=some (.string ⟨#[]⟩)/\W.cell? ⟨w1.heap.size,6,none⟩=some (.slice (some ⟨ba,oa,none⟩) 2 c)/\W.cell? ⟨w8.heap.size,0,none⟩=some (.slice A8 1 c8)/\W.cell? ⟨w11.heap.size,0,none⟩=some (.int .i64 4)/\W.cell? ⟨ba,oa,none⟩=some (.int .i64 k2)/\W.cell? ⟨ba,oa+1,none⟩=some (.slice Al2 Cc cl2)/\W.cell? ⟨ba,oa+2,none⟩=some (.slice Ar2 nr2 cr2)/\W.cell? ⟨ba,oa+3,none⟩=some (.int .i64 op2)/\W.cell? ⟨ba,oa+4,none⟩=some (.string p2)/\W.cell? ⟨ba,oa+5,none⟩=some (.string q2)/\W.cell? ⟨ba,oa+6,none⟩=some (.slice A2 n2 c2)) from fun W h=>⟨(X112.out.next h).cell 0 _ rfl,(X112.out.next h).cell 1 _ rfl,(X112.out.next h).cell 2 _ rfl,(X112.out.next h).cell 3 _ rfl,(X112.out.next h).cell 4 _ rfl,(X112.out.next h).cell 5 _ rfl,(X112.out.next h).cell 6 _ rfl,(X1012.out.next h).cell 0 _ rfl,(X1212.out.next h).cell 0 _ rfl,HEK.out W (HB12.out.next h)⟩)
 have HB:=Aa (Below.refl W12.heap.size W12);clear X112 X1012 X1212 HM12 HT HTA HTAB HEK HNL HNR HBA;obtain ⟨m0,m1,m2,m3,m4,m5,m6,t0,u0,n0,n1,n2x,n3,n4,n5,n6⟩:=CEL.out W12 HB.out;go_wp2_with fail;refine (S1.out _ HB.out).mono ?_;rintro e v1 ⟨rfl,bb⟩;have HB1:=Aa (HB.out.next bb);clear bb m0 m1 m2 m3 m4 m5 m6 t0 u0 n0 n1 n2x n3 n4 n5 n6;obtain ⟨m0,m1,m2,m3,m4,m5,m6,t0,u0,n0,n1,n2x,n3,n4,n5,n6⟩:=CEL.out v1 HB1.out;go_wp2_with fail;refine (S2.out _ HB1.out).mono ?_
 rintro e v2 ⟨rfl,bb⟩;have HB2:=Aa (HB1.out.next bb);clear bb m0 m1 m2 m3 m4 m5 m6 t0 u0 n0 n1 n2x n3 n4 n5 n6;obtain ⟨m0,m1,m2,m3,m4,m5,m6,t0,u0,n0,n1,n2x,n3,n4,n5,n6⟩:=CEL.out v2 HB2.out;go_wp2_with fail;refine (S3.out _ HB2.out).mono ?_;rintro e v3 ⟨rfl,bb⟩;have HB3:=Aa (HB2.out.next bb);clear bb m0 m1 m2 m3 m4 m5 m6 t0 u0 n0 n1 n2x n3 n4 n5 n6;obtain ⟨m0,m1,m2,m3,m4,m5,m6,t0,u0,n0,n1,n2x,n3,n4,n5,n6⟩:=CEL.out v3 HB3.out;go_wp2_with fail;refine (S4.out _ HB3.out).mono ?_
 rintro e v4 ⟨rfl,bb⟩;have HB4:=Aa (HB3.out.next bb);clear bb m0 m1 m2 m3 m4 m5 m6 t0 u0 n0 n1 n2x n3 n4 n5 n6;obtain ⟨m0,m1,m2,m3,m4,m5,m6,t0,u0,n0,n1,n2x,n3,n4,n5,n6⟩:=CEL.out v4 HB4.out;go_wp2_with fail;refine (S5.out _).mono ?_;rintro e v5 ⟨rfl,bb⟩;have HB5:=Aa (HB4.out.next bb);clear bb m0 m1 m2 m3 m4 m5 m6 t0 u0 n0 n1 n2x n3 n4 n5 n6;obtain ⟨m0,m1,m2,m3,m4,m5,m6,t0,u0,n0,n1,n2x,n3,n4,n5,n6⟩:=CEL.out v5 HB5.out;go_wp2_with fail;refine (S6.out _ HB5.out).mono ?_
 rintro e v6 ⟨rfl,bb⟩;have HB6:=Aa (HB5.out.next bb);clear bb m0 m1 m2 m3 m4 m5 m6 t0 u0 n0 n1 n2x n3 n4 n5 n6;obtain ⟨m0,m1,m2,m3,m4,m5,m6,t0,u0,n0,n1,n2x,n3,n4,n5,n6⟩:=CEL.out v6 HB6.out;go_wp2_with fail;refine (S7.out _ HB6.out).mono ?_;rintro e v7 ⟨rfl,bb⟩;have HB7:=Aa (HB6.out.next bb);clear bb m0 m1 m2 m3 m4 m5 m6 t0 u0 n0 n1 n2x n3 n4 n5 n6;have HF:=Aa (show Eu w0 (.returned (.bool true)) v7 from ⟨rfl,HB120.out.next HB7.out⟩);go_wp2_with fail;go_ret
 exact HF.out
end
section
open Go.RowKit
open Lx Ex
theorem Uu (s:ByteArray):FO (G3 s).1:=by
 have hz:FO zG:=Dc (by decide) (fun t h=>by cases h);unfold G3;split
 · dsimp only
   split
   · exact Ns
   · exact hz
 · exact hz
theorem Ws (s:ByteArray):(He s).1.length<=64:=by
 unfold He;split
 · dsimp only
   split
   · exact QG
   · exact Nat.zero_le _
 · exact Nat.zero_le _
theorem JL (s:ByteArray) (w0:World) (hs:s.size<=9223372036854775807) (htab:Bj w0):Calls Tryz.prog 3 #[.string s] w0 (Eu w0):=by
 have HAL:=Aa (QK w0 htab);unfold Eu at HAL;have HTAB:=Aa (fun W (h:Below w0.heap.size w0 W)=>htab.below h);have HC1:=Aa (fun W=>Ic s W hs);have HC2:=Aa (fun W=>Km s W hs);have HC3:=Aa (fun W (h:Below w0.heap.size w0 W)=>Fc s W hs (htab.below h));have HC4:=Aa (fun W=>JH s W hs);have HSM:=Aa (Uu s);have HFW:=Aa (Ws s);generalize G3 s=rc at *;generalize He s=rl at *;obtain ⟨G,u,v,z⟩:=rc;obtain ⟨l,x,y,k⟩:=rl;clear htab;go_enter Tryz.func3,Tryz.ntmps3;go_wp2_with fail
 refine HAL.out.mono ?_;rintro e w1 ⟨rfl,b1⟩;have HB1:=Aa b1;clear b1;go_wp2_with fail;refine (HC1.out _).mono ?_;rintro e w2 ⟨A1,c1,rfl,-,-,hm,b2⟩;obtain ⟨xa,hb,hsz⟩:=Ax 25 w2 #[.int .i64 (x:Nat),.int .i64 (y:Nat)];have HB2:=Aa (HB1.out.next (b2.next hb));have HM1:=Aa (hm.keep (As.of_below hb));have XA:=Aa xa;clear xa hb b2 hm HB1;go_wp2_with fail;generalize hW:w2.alloc (.cells #[.int .i64 (x:Nat),.int .i64 (y:Nat)] 25)=W2 at *;clear hW;refine (HC2.out _).mono ?_
 rintro e w3 ⟨A2,c2,rfl,hm,b3⟩;obtain ⟨xa,hb,hsz3⟩:=Ax 25 w3 #[.int .i64 (x:Nat),.int .i64 (y:Nat)];have HB3:=Aa (HB2.out.next (b3.next hb));have HM13:=Aa (HM1.out.keep (As.of_below (b3.next hb)));have HM23:=Aa (hm.keep (As.of_below hb));have XA3:=Aa (XA.out.next (b3.next hb));have XB3:=Aa xa;clear xa hb b3 hm HB2 HM1 XA;go_wp2_with fail;generalize hW:w3.alloc (.cells #[.int .i64 (x:Nat),.int .i64 (y:Nat)] 25)=W3 at *;clear hW;refine (HC3.out _ HB3.out).mono ?_
 rintro e w4 ⟨kd3,Al3,SL,cl3,Ar3,nr3,cr3,op3,p3,q3,A3,n3,c3,rfl,hT,b4⟩;obtain ⟨xa,xb,hb,hsz4⟩:=Aw 33 25 w4 #[.int .i64 kd3,.slice Al3 SL cl3,.slice Ar3 nr3 cr3,.int .i64 op3,.string p3,.string q3,.slice A3 n3 c3] #[.int .i64 (u:Nat),.int .i64 (v:Nat)];have HB4:=Aa (HB3.out.next (b4.next hb));have HM14:=Aa (HM13.out.keep (As.of_below (b4.next hb)));have HM24:=Aa (HM23.out.keep (As.of_below (b4.next hb)));have XA4:=Aa (XA3.out.next (b4.next hb))
 have XB4:=Aa (XB3.out.next (b4.next hb));have XC4:=Aa xa;have XD4:=Aa xb;have HT4:=Aa (hT.keep (As.of_below hb));clear xa xb hb b4 hT HB3 HM13 HM23 XA3 XB3;go_wp2_with fail;generalize hW:(w4.alloc (.cells #[.int .i64 kd3,.slice Al3 SL cl3,.slice Ar3 nr3 cr3,.int .i64 op3,.string p3,.string q3,.slice A3 n3 c3] 33)).alloc (.cells #[.int .i64 (u:Nat),.int .i64 (v:Nat)] 25)=W4 at *;clear hW;refine (HC4.out _).mono ?_
 rintro e w5 ⟨kd4,Al4,Wh,cl4,Ar4,nr4,cr4,op4,p4,q4,A4,n4,c4,rfl,hT,b5⟩;obtain ⟨xa,xb,hb,hsz5⟩:=Aw 33 25 w5 #[.int .i64 kd4,.slice Al4 Wh cl4,.slice Ar4 nr4 cr4,.int .i64 op4,.string p4,.string q4,.slice A4 n4 c4] #[.int .i64 (u:Nat),.int .i64 (v:Nat)];have HB5:=Aa (HB4.out.next (b5.next hb));have HM15:=Aa (HM14.out.keep (As.of_below (b5.next hb)));have HM25:=Aa (HM24.out.keep (As.of_below (b5.next hb)));have XA5:=Aa (XA4.out.next (b5.next hb))
 have XB5:=Aa (XB4.out.next (b5.next hb));have XC5:=Aa (XC4.out.next (b5.next hb));have XD5:=Aa (XD4.out.next (b5.next hb));have XE5:=Aa xa;have XF5:=Aa xb;have HT35:=Aa (HT4.out.keep (As.of_below (b5.next hb)));have HT45:=Aa (hT.keep (As.of_below hb));clear xa xb hb b5 hT HB4 HM14 HM24 XA4 XB4 XC4 XD4 HT4;go_upto_region 7 with fail
 generalize hW:(w5.alloc (.cells #[.int .i64 kd4,.slice Al4 Wh cl4,.slice Ar4 nr4 cr4,.int .i64 op4,.string p4,.string q4,.slice A4 n4 c4] 33)).alloc (.cells #[.int .i64 (u:Nat),.int .i64 (v:Nat)] 25)=W5 at *;clear hW;have SS:=Aa (fun W (h:Below W5.heap.size W5 W)=>Gh _ _ A1 A2 l.length c1 c2 l W (HM15.out.keep (As.of_below h)) (HM25.out.keep (As.of_below h)) (by have:l.length<=64:=HFW.out;omega))
 have ST:=Aa (fun W (h:Below W5.heap.size W5 W)=>Sc HT35.out HSM.out W _ _ h (HT45.out.keep (As.of_below h)));unfold Eu at SS ST;have g1:((k:Int)==(k:Int))=true:=by simp
 have g2:((z:Int)==(z:Int))=true:=by simp
 have CEL:=Aa (show ∀W,Below W5.heap.size W5 W->(W.cell? ⟨w2.heap.size,0,none⟩=some (.int .i64 (x:Nat))/\W.cell? ⟨w2.heap.size,1,none⟩=some (.int .i64 (y:Nat))/\W.cell? ⟨w3.heap.size,0,none⟩=some (.int .i64 (x:Nat))/\W.cell? ⟨w3.heap.size,1,none⟩=some (.int .i64 (y:Nat))/\W.cell? ⟨w4.heap.size+1,0,none⟩=some (.int .i64 (u:Nat))/\W.cell? ⟨w4.heap.size+1,1,none⟩=some (.int .i64 (v:Nat))/\W.cell? ⟨w5.heap.size+1,0,none⟩=some (.int .i64 (u:Nat))/\W.cell? ⟨w5.heap.size+1,1,none⟩=some (.int .i64 (v:Nat))/\W.cell? ⟨w4.heap.size,0,none⟩=some (.int .i64 kd3)/\W.cell? ⟨w4.heap.size,1,none⟩=some (.slice Al3 SL cl3)/\W.cell? ⟨w4.heap.size,2,none⟩=some (.slice Ar3 nr3 cr3)/\W.cell? ⟨w4.heap.size,3,none⟩=some (.int .i64 op3)/\W.cell? ⟨w4.heap.size,4,none⟩=some (.string p3)/\W.cell? ⟨w4.heap.size,5,none⟩=some (.string q3)/\W.cell? ⟨w4.heap.size,6,none⟩=some (.slice A3 n3 c3)/\W.cell? ⟨w5.heap.size,0,none⟩=some (.int .i64 kd4)/\W.cell? ⟨w5.heap.size,1,none⟩=some (.slice Al4 Wh cl4)/\W.cell? ⟨w5.heap.size,2,none⟩=some (.slice Ar4 nr4 cr4)/\W.cell? ⟨w5.heap.size,3,none⟩=some (.int .i64 op4)/\W.cell? ⟨w5.heap.size,4,none⟩=some (.string p4)/\W.cell? ⟨w5.heap.size,5,none⟩=some (.string q4)/\W.cell? ⟨w5.heap.size,6,none⟩=some (.slice A4 n4 c4)) from fun W h=>⟨(XA5.out.next h).cell 0 _ rfl,(XA5.out.next h).cell 1 _ rfl,(XB5.out.next h).cell 0 _ rfl,(XB5.out.next h).cell 1 _ rfl,(XD5.out.next h).cell 0 _ rfl,(XD5.out.next h).cell 1 _ rfl,(XF5.out.next h).cell 0 _ rfl,(XF5.out.next h).cell 1 _ rfl,(XC5.out.next h).cell 0 _ rfl,(XC5.out.next h).cell 1 _ rfl,(XC5.out.next h).cell 2 _ rfl,(XC5.out.next h).cell 3 _ rfl,(XC5.out.next h).cell 4 _ rfl,(XC5.out.next h).cell 5 _ rfl,(XC5.out.next h).cell 6 _ rfl,(XE5.out.next h).cell 0 _ rfl,(XE5.out.next h).cell 1 _ rfl,(XE5.out.next h).cell 2 _ rfl,(XE5.out.next h).cell 3 _ rfl,(XE5.out.next h).cell 4 _ rfl,(XE5.out.next h).cell 5 _ rfl,(XE5.out.next h).cell 6 _ rfl⟩)
 have HB:=Aa (Below.refl W5.heap.size W5);clear XA5 XB5 XC5 XD5 XE5 XF5 HM15 HM25 HT35 HT45 HTAB HSM HFW HC1 HC2 HC3 HC4 HAL;obtain ⟨a0,a1,b0,b1,d0,d1,f0,f1,t0,t1,t2,t3,t4,t5,t6,u0,u1,u2,u3,u4,u5,u6⟩:=CEL.out W5 HB.out;go_wp2_with fail;refine (SS.out _ HB.out).mono ?_;rintro e v1 ⟨rfl,bb⟩;have HB1:=Aa (HB.out.next bb);clear bb a0 a1 b0 b1 d0 d1 f0 f1 t0 t1 t2 t3 t4 t5 t6 u0 u1 u2 u3 u4 u5 u6
 obtain ⟨a0,a1,b0,b1,d0,d1,f0,f1,t0,t1,t2,t3,t4,t5,t6,u0,u1,u2,u3,u4,u5,u6⟩:=CEL.out v1 HB1.out;go_wp2_with fail;refine (ST.out _ HB1.out).mono ?_;rintro e v2 ⟨rfl,bb⟩;have HF:=Aa (show Eu w0 (.returned (.bool true)) v2 from ⟨rfl,HB5.out.next (HB1.out.next bb)⟩);clear bb a0 a1 b0 b1 d0 d1 f0 f1 t0 t1 t2 t3 t4 t5 t6 u0 u1 u2 u3 u4 u5 u6;go_wp2_with fail;go_ret
 exact HF.out
end
section
open Go.ChangeShapes Go.WideShapes Go.ChangeAt Go.RowKit
open Go.ChangeMaps (open_string shut_string)
theorem own:ownKnob Tryz.prog.godebug=none:=by kernel_rfl
end
section
open Go.RowKit
open Lx Ex
theorem QL {s t:ByteArray} (h:s.data.toList=t.data.toList):s=t:=by obtain ⟨⟨a⟩⟩:=s;obtain ⟨⟨b⟩⟩:=t;simp at h;subst h;rfl
theorem Kn {H:Type} {enc:TypeId×Value->H} {P:Program} {w:World} {base:Nat} {sp:Nat->Bool} {held:Bool} {fuel:Nat} {t e:TypeId} {n:Nat} {cs:List Value} {xs:List ByteArray} {p:List MemPlace}
  (ht:P.underlying t=some (.array n e)) (he:P.underlying e=some .string) (hce:P.cellsOf e=1) (hct:P.cellsOf t=n)
  (h:DataW.trod enc P w base sp held fuel t cs=some (.agg (xs.map fun s=>.lit (.string s.data.toList)),p)):cs=xs.map fun s=>Value.string s:=by
 cases fuel with
 |zero=>simp[DataW.trod]at h
 |succ fuel=>
  simp only[DataW.trod,ht,hce,hct,Nat.mul_one]at h;split at h
  · rename_i hl
    obtain ⟨ys,hm,hx⟩:=Option.map_eq_some_iff.1 h;have hxs:ys.map (·.1)=xs.map fun s=>(DataW.lit (.string s.data.toList):DataW H):=by have:=congrArg Prod.fst hx;simpa using this
    have hxl:ys.length=n:=(by simpa using Lib.mapM_length hm);have hzl:xs.length=n:=by have:=congrArg List.length hxs;simp at this;omega
    apply List.ext_getElem?;intro i;by_cases hi:i<n
    · obtain ⟨b,hb,hf⟩:=Lib.mapM_at hm i i (by simp[hi]);obtain ⟨z,hc,rfl,_⟩:=DataW.trod_string he hf;have h1:cs[i]?=some (.string z):=by
       have:=congrArg (·[0]?) hc;simpa[List.getElem?_take,List.getElem?_drop] using this
      have h2:(ys.map (·.1))[i]?=some (DataW.lit (.string z.data.toList):DataW H):=(by simp[hb]);rw[hxs]at h2;simp only[List.getElem?_map,Option.map_eq_some_iff,DataW.lit.injEq,Lit.string.injEq]at h2;obtain ⟨z',hz',he'⟩:=h2;have:=QL he';subst this;simp[h1,hz']
    · rw[List.getElem?_eq_none (by omega),List.getElem?_eq_none (by simp;omega)]
  · cases h
def LL:List ByteArray:=[⟨#[61]⟩,⟨#[33,61]⟩,⟨#[60]⟩,⟨#[60,61]⟩,⟨#[62]⟩,⟨#[62,61]⟩]
theorem Ko {W:World} (h0:laidMetH Tryz.prog [("plumbline/expr.operators",Rows.laid_plumbline_expr_operators)] W):Bj W:=by
 have h:laidMet Tryz.prog [("plumbline/expr.operators",Rows.laid_plumbline_expr_operators)] W:=by rw[MakeChecks.laidMetH_plain _ _ _ (by kernel_rfl)]at h0;exact h0
 obtain ⟨ps,⟨g',t',cs,fuel,p,q,hg',ht',hvar,hd,_,_⟩,_⟩:=h;have hg:Tryz.prog.globalNamed "plumbline/expr.operators"=some 0:=by kernel_rfl
 have hty:(Tryz.prog.globals[0]?).map (·.type)=some 137:=by kernel_rfl
 obtain rfl:=Option.some.inj (hg.symm.trans hg');obtain rfl:=Option.some.inj (hty.symm.trans ht');have e1:=Kn (xs:=LL) Tryz.underlying137 Tryz.underlying9 (by kernel_rfl) (by kernel_rfl) hd;have e2:cs=(LL.map fun s=>Value.string s).toArray:=by rw[<-e1]
 have hv:W.var? Tryz.prog "plumbline/expr.operators"=some (LL.map fun s=>Value.string s).toArray:=by rw[←e2];exact hvar
 intro j hj;rw[World.var?_cell hg hv j];match j,hj with
 |0,_=>rfl
 |1,_=>rfl
 |2,_=>rfl
 |3,_=>rfl
 |4,_=>rfl
 |5,_=>rfl
end
end Go.Proofs.YtgohmojcopajoaaGreatDoor
