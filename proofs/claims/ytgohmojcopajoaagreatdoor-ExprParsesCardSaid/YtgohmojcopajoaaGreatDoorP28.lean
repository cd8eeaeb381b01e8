/- Texts of one seat, put together: ExprWu ExprWv ExprTe. -/
import Derived.Test.YtgohmojcopajoaaGreatDoorP27
import Derived.Test.YtgohmojcopajoaaGreatDoorP23
import Derived.Test.YtgohmojcopajoaaGreatDoorP21
set_option linter.unusedVariables false
set_option linter.unusedSimpArgs false
set_option maxRecDepth 100000
set_option maxHeartbeats 16000000
namespace Go.Proofs.YtgohmojcopajoaaGreatDoor
section
open Go.RowKit
open Lx Ex
theorem Bq.kindOf {S:Nat->Prop} {w:World} {t:GT} {kd:Int} {Al:Option Addr} {nl cl:Nat} {Ar:Option Addr} {nr cr:Nat} {op:Int} {p q:ByteArray} {A:Option Addr} {n c:Nat} (h:Bq S w t [.int .i64 kd,.slice Al nl cl,.slice Ar nr cr,.int .i64 op,.string p,.string q,.slice A n c]):t.kind=kd:=by obtain ⟨l,r,ks,rfl,-⟩:=h.parts;rfl
theorem Nf (o:Nat):(CR o).size<=2:=by unfold CR;split<;>decide
theorem Bj.bw {B b:Nat} {w w':World} (h:Bj w) (hg:Lw B b 0) (hb:Nu.BW B b w w'):Bj w':=fun j hj=>EX hb hg (World.block_lt_of_cell? w _ (h j hj)) (h j hj)
def IP (u:Tr):Prop:=∀(lv B b:Nat) (vs:List Value) (w1:World),right lv u->Bq (Lw B b) w1 (gt u) vs->B<=w1.heap.size->Bj w1->Lw B b 0->I0 B b w1 42 #[.agg vs.toArray] (AC u)
theorem Sk:IP (.leaf false):=by
 intro lv B b vs w1 hri h hBs ho hg out w0 hbw hbl hT;obtain ⟨kd,Al,nl,cl,Ar,nr,cr,op,p,q,A,n,c,rfl⟩:=h.shape;obtain ⟨l',r',ks,e,hl,hr,hk,hl1,hl2,hr1,hr2,hn1,hn2,hkid⟩:=h.parts;have e:GT.mk 1 [] [] 0 ⟨#[]⟩ ⟨#[]⟩ []=GT.mk kd l' r' op p q ks:=e;injection e with e1 e2 e3 e4 e5 e6 e7
 subst e1 e2 e3 e4 e5 e6 e7;have HSZ:=Aa (Nat.le_trans hBs hbw.size);obtain ⟨x1,hb,hsz⟩:=Ax 33 w0 #[.int .i64 1,.slice Al nl cl,.slice Ar nr cr,.int .i64 0,.string ⟨#[]⟩,.string ⟨#[]⟩,.slice A n c];have HL1:=Aa (hbl.below hb);have HV1:=Aa (Nu.BW.of_below (B:=B) (b:=b) hb);have HB1:=Aa hb;have hbn:=FH hbl;have hgb0:w0.heap.size≠b:=by omega
 have X1:=Aa x1;have HLT:=Aa hT;have c0:=x1.cell 0 _ rfl;have c1:=x1.cell 1 _ rfl;have c2:=x1.cell 2 _ rfl;have c3:=x1.cell 3 _ rfl;have c4:=x1.cell 4 _ rfl;have c5:=x1.cell 5 _ rfl;have c6:=x1.cell 6 _ rfl;have HW:=Aa (DJ B b out ⟨#[102,97,108,115,101]⟩ _ HL1.out (by have:=HLT.out;exact this) (Nat.le_trans HSZ.out HB1.out.size));clear hbl hT hbw hb x1 hl hr hk hkid h ho hg hBs;go_enter Tryz.func42,Tryz.ntmps42;go_wp2_with fail;refine HW.out.mono ?_;rintro e w3 ⟨rfl,h3,v3⟩
 have HP:=Aa (show DZ B b (out++AC (.leaf false)) w0 (.returned (.tuple #[])) w3 from ⟨rfl,h3,HV1.out.trans v3⟩);clear h3 v3;go_wp2_with fail;go_end0
 exact HP.out
theorem TV:IP (.leaf true):=by
 intro lv B b vs w1 hri h hBs ho hg out w0 hbw hbl hT;obtain ⟨kd,Al,nl,cl,Ar,nr,cr,op,p,q,A,n,c,rfl⟩:=h.shape;obtain ⟨l',r',ks,e,hl,hr,hk,hl1,hl2,hr1,hr2,hn1,hn2,hkid⟩:=h.parts;have e:GT.mk 0 [] [] 0 ⟨#[]⟩ ⟨#[]⟩ []=GT.mk kd l' r' op p q ks:=e;injection e with e1 e2 e3 e4 e5 e6 e7
 subst e1 e2 e3 e4 e5 e6 e7;have HSZ:=Aa (Nat.le_trans hBs hbw.size);obtain ⟨x1,hb,hsz⟩:=Ax 33 w0 #[.int .i64 0,.slice Al nl cl,.slice Ar nr cr,.int .i64 0,.string ⟨#[]⟩,.string ⟨#[]⟩,.slice A n c];have HL1:=Aa (hbl.below hb);have HV1:=Aa (Nu.BW.of_below (B:=B) (b:=b) hb);have HB1:=Aa hb;have hbn:=FH hbl;have hgb0:w0.heap.size≠b:=by omega
 have X1:=Aa x1;have HLT:=Aa hT;have c0:=x1.cell 0 _ rfl;have c1:=x1.cell 1 _ rfl;have c2:=x1.cell 2 _ rfl;have c3:=x1.cell 3 _ rfl;have c4:=x1.cell 4 _ rfl;have c5:=x1.cell 5 _ rfl;have c6:=x1.cell 6 _ rfl;have HW:=Aa (DJ B b out ⟨#[116,114,117,101]⟩ _ HL1.out (by have:=HLT.out;exact this) (Nat.le_trans HSZ.out HB1.out.size));clear hbl hT hbw hb x1 hl hr hk hkid h ho hg hBs;go_enter Tryz.func42,Tryz.ntmps42;go_wp2_with fail;refine HW.out.mono ?_;rintro e w3 ⟨rfl,h3,v3⟩
 have HP:=Aa (show DZ B b (out++AC (.leaf true)) w0 (.returned (.tuple #[])) w3 from ⟨rfl,h3,HV1.out.trans v3⟩);clear h3 v3;go_wp2_with fail;go_end0
 exact HP.out
theorem Vu (l r:List Mn) (o:Nat):IP (.cmp l o r):=by
 intro lv B b vs w1 hri h hBs ho hg out w0 hbw hbl hT;obtain ⟨kd,Al,nl,cl,Ar,nr,cr,op,p,q,A,n,c,rfl⟩:=h.shape;obtain ⟨l',r',ks,e,hl,hr,hk,hl1,hl2,hr1,hr2,hn1,hn2,hkid⟩:=h.parts;have e:GT.mk 2 l r (o:Int) ⟨#[]⟩ ⟨#[]⟩ []=GT.mk kd l' r' op p q ks:=e;injection e with e1 e2 e3 e4 e5 e6 e7
 subst e1 e2 e3 e4 e5 e6 e7;have ho6:o<6:=by rw[right]at hri;exact hri.2.1
 have hgl:=World.block_lt_of_cell? _ _ (ho 0 (by omega));have hgc:=(ho.bw hg hbw) o ho6;have HOT:=Aa (show ∀W,Nu.BW B b w0 W->W.cell? ⟨0,o,none⟩=some (.string (CR o)) from fun W hW=>((ho.bw hg hbw).bw hg hW) o ho6);have HMR:=Aa (show ∀W,Nu.BW B b w0 W->De (Lw B b) W Ar nr r from fun W hW=>hr.keep (LB (hbw.trans hW)));have HML:=Aa (show ∀W,Nu.BW B b w0 W->De (Lw B b) W Al nl l from fun W hW=>hl.keep (LB (hbw.trans hW)));have HSZ:=Aa (Nat.le_trans hBs hbw.size)
 obtain ⟨x1,hb,hsz⟩:=Ax 33 w0 #[.int .i64 2,.slice Al nl cl,.slice Ar nr cr,.int .i64 (o:Int),.string ⟨#[]⟩,.string ⟨#[]⟩,.slice A n c];have HL1:=Aa (hbl.below hb);have HV1:=Aa (Nu.BW.of_below (B:=B) (b:=b) hb);have HB1:=Aa hb;have hbn:=FH hbl;have hgb0:w0.heap.size≠b:=by omega
 have X1:=Aa x1;have HLT:=Aa hT;have c0:=x1.cell 0 _ rfl;have c1:=x1.cell 1 _ rfl;have c2:=x1.cell 2 _ rfl;have c3:=x1.cell 3 _ rfl;have c4:=x1.cell 4 _ rfl;have c5:=x1.cell 5 _ rfl;have c6:=x1.cell 6 _ rfl;have HLN:=Aa (show out.length+((Ca true l).length+((ub (CR o)).length+2+(Ca true r).length))<=140737488355328 from by simp only[AC,List.length_append,List.length_cons]at hT;omega)
 have HWL:=Aa (FI B b out Al nl cl l _ (HML.out _ HV1.out) HL1.out (Nat.le_trans HSZ.out HB1.out.size) hl1 hl2 (by have:=HLN.out;omega));clear hbl hT hbw hb x1 hl hr hk hkid h ho hg hBs hgl hgc;go_enter Tryz.func42,Tryz.ntmps42;go_wp2_with fail;refine HWL.out.mono ?_;rintro e w3 ⟨rfl,h3,v3⟩;have HV3:=Aa (HV1.out.trans v3);have X3:=Aa (FG v3 (by decide) hgb0 X1.out);have hgc:=HOT.out w3 HV3.out
 have HWO:=Aa (DJ B b _ (⟨#[32]⟩++CR o++⟨#[32]⟩) w3 h3 (by have:=HLN.out;have e:ub (⟨#[32]⟩++CR o++⟨#[32]⟩)=32::(ub (CR o)++[32]):=(by simp[ub]);rw[e];simp only[List.length_append,List.length_cons,List.length_nil];omega) (Nat.le_trans HSZ.out HV3.out.size));have hos1:(⟨#[32]⟩:ByteArray).size+(CR o).size<=9223372036854775807:=by have:=Nf o;show 1+_<=_;omega
 have hos2:(⟨#[32]⟩++CR o:ByteArray).size+(⟨#[32]⟩:ByteArray).size<=9223372036854775807:=by have:=Nf o;rw[ByteArray.size_append];show 1+_+1<=_;omega
 have hoi:(0:Int)<=(o:Int):=by omega
 have hoj:(o:Int)<6:=by omega
 clear h3 v3 c0 c1 c2 c3 c4 c5 c6;have c3:=X3.out.cell 3 _ rfl;go_wp2_with fail;refine HWO.out.mono ?_;rintro e w5 ⟨rfl,h5,v5⟩;have HV5:=Aa (HV3.out.trans v5);have X5:=Aa (FG v5 (by decide) hgb0 X3.out);have HWR:=Aa (FI B b _ Ar nr cr r _ (HMR.out _ HV5.out) h5 (Nat.le_trans HSZ.out HV5.out.size) hr1 hr2 (by have:=HLN.out;have e:ub (⟨#[32]⟩++CR o++⟨#[32]⟩)=32::(ub (CR o)++[32]):=(by simp[ub]);rw[e];simp only[List.length_append,List.length_cons,List.length_nil];omega))
 clear h5 v5 c3 hgc;have c2:=X5.out.cell 2 _ rfl;go_wp2_with fail;refine HWR.out.mono ?_;rintro e w6 ⟨rfl,h6,v6⟩;have HP:=Aa (show DZ B b (out++AC (.cmp l o r)) w0 (.returned (.tuple #[])) w6 from ⟨rfl,by
  have e:out++AC (.cmp l o r)=out++Ca true l++ub (⟨#[32]⟩++CR o++⟨#[32]⟩)++Ca true r:=by simp[ub,AC]
  rw[e];exact h6,HV5.out.trans v6⟩)
 clear h6 v6;go_wp2_with fail;go_end0
 exact HP.out
theorem TW (t:Tr) (ih:IP t):IP (.deny t):=by
 intro lv B b vs w1 hri h hBs ho hg out w0 hbw hbl hT;obtain ⟨kd,Al,nl,cl,Ar,nr,cr,op,p,q,A,n,c,rfl⟩:=h.shape;obtain ⟨l',r',ks,e,hl,hr,hk,hl1,hl2,hr1,hr2,hn1,hn2,hkid⟩:=h.parts;have e:GT.mk 3 [] [] 0 ⟨#[]⟩ ⟨#[]⟩ [gt t]=GT.mk kd l' r' op p q ks:=e;injection e with e1 e2 e3 e4 e5 e6 e7
 subst e1 e2 e3 e4 e5 e6 e7;obtain ⟨l2,h2⟩:∃l2,right l2 t:=by
  rw[right]at hri;split at hri
  · exact ⟨_,hri.2⟩
  · exact ⟨_,hri.2⟩
 obtain ⟨ba0,oa0,t0,k2_0,Al2_0,nl2_0,cl2_0,Ar2_0,nr2_0,cr2_0,op2_0,p2_0,q2_0,A2_0,n2_0,c2_0,hA0,hS0,hlt0,ht0,hti0,e00,e01,e02,e03,e04,e05,e06⟩:=hkid 0 (by rw[<-hk];simp);have ht0:some (gt t)=some t0:=ht0;injection ht0 with ht0
 subst ht0;have hkk0:=hti0.kindOf;have hw0:=ih l2 B b _ w1 h2 hti0 hBs ho hg;have HK0:=Aa (fun (out:List UInt8) W (hW:Nu.BW B b w0 W) hb hl=>Dy B b 3 Al nl cl Ar nr cr 0 ⟨#[]⟩ ⟨#[]⟩ A n c k2_0 Al2_0 nl2_0 cl2_0 Ar2_0 nr2_0 cr2_0 op2_0 p2_0 q2_0 A2_0 n2_0 c2_0 0 _ w1 hBs (by rw[<-hk];simp) hn1 hn2 ⟨ba0,oa0,hA0,hS0,hlt0,e00,e01,e02,e03,e04,e05,e06⟩ hw0 out W (hbw.trans hW) hb hl);rw[<-hkk0]at HK0;rw[U3]at HK0;have HSZ:=Aa (Nat.le_trans hBs hbw.size)
 obtain ⟨x1,hb,hsz⟩:=Ax 33 w0 #[.int .i64 3,.slice Al nl cl,.slice Ar nr cr,.int .i64 0,.string ⟨#[]⟩,.string ⟨#[]⟩,.slice A n c];have HL1:=Aa (hbl.below hb);have HV1:=Aa (Nu.BW.of_below (B:=B) (b:=b) hb);have HB1:=Aa hb;have hbn:=FH hbl;have hgb0:w0.heap.size≠b:=by omega
 have X1:=Aa x1;have HLT:=Aa hT;have c0:=x1.cell 0 _ rfl;have c1:=x1.cell 1 _ rfl;have c2:=x1.cell 2 _ rfl;have c3:=x1.cell 3 _ rfl;have c4:=x1.cell 4 _ rfl;have c5:=x1.cell 5 _ rfl;have c6:=x1.cell 6 _ rfl;have HLN:=Aa (show out.length+(1+(Dx (Bp t || AR t) (AC t)).length)<=140737488355328 from by simp only[AC,List.length_append,List.length_cons]at hT;omega);have HW:=Aa (DJ B b out ⟨#[33]⟩ _ HL1.out (by have:=HLN.out;show _+1<=_;omega) (Nat.le_trans HSZ.out HB1.out.size))
 clear hA0 hS0 hlt0 hti0 hkk0 hw0 e00 e01 e02 e03 e04 e05 e06;clear hbl hT hbw hb x1 hl hr hk hkid h ho hg hBs ih h2;go_enter Tryz.func42,Tryz.ntmps42;go_wp2_with fail;refine HW.out.mono ?_;rintro e w3 ⟨rfl,h3,v3⟩;have HV3:=Aa (HV1.out.trans v3);have X3:=Aa (FG v3 (by decide) hgb0 X1.out);have HW3:=Aa (HK0.out _ w3 HV3.out h3 (by have:=HLN.out;simp only[List.length_append];show _+1+_<=_;omega));clear h3 v3 c0 c1 c2 c3 c4 c5 c6;have c0:=X3.out.cell 0 _ rfl
 have c1:=X3.out.cell 1 _ rfl;have c2:=X3.out.cell 2 _ rfl;have c3:=X3.out.cell 3 _ rfl;have c4:=X3.out.cell 4 _ rfl;have c5:=X3.out.cell 5 _ rfl;have c6:=X3.out.cell 6 _ rfl;go_wp2_with fail;refine HW3.out.mono ?_;rintro e w6 ⟨rfl,h6,v6⟩;have HP:=Aa (show DZ B b (out++AC (.deny t)) w0 (.returned (.tuple #[])) w6 from ⟨rfl,by
  have e:out++AC (.deny t)=out++ub ⟨#[33]⟩++Dx (Bp t || AR t) (AC t):=by simp[ub,AC]
  rw[e];exact h6,HV3.out.trans v6⟩)
 clear h6 v6;go_wp2_with fail;go_end0
 exact HP.out
theorem TY (ta tb:Tr) (iha:IP ta) (ihb:IP tb):IP (.both ta tb):=by
 intro lv B b vs w1 hri h hBs ho hg out w0 hbw hbl hT;obtain ⟨kd,Al,nl,cl,Ar,nr,cr,op,p,q,A,n,c,rfl⟩:=h.shape;obtain ⟨l',r',ks,e,hl,hr,hk,hl1,hl2,hr1,hr2,hn1,hn2,hkid⟩:=h.parts;have e:GT.mk 4 [] [] 0 ⟨#[]⟩ ⟨#[]⟩ [gt ta,gt tb]=GT.mk kd l' r' op p q ks:=e;injection e with e1 e2 e3 e4 e5 e6 e7
 subst e1 e2 e3 e4 e5 e6 e7;obtain ⟨la,ha⟩:∃l2,right l2 ta:=by
  rw[right]at hri;have:=hri.1;first
  |(
   split at this
   · exact ⟨_,this.2⟩
   · exact ⟨_,this⟩)
  |exact ⟨_,this⟩
 obtain ⟨lb,hb2⟩:∃l2,right l2 tb:=by
  rw[right]at hri;have:=hri.2;first
  |(
   split at this
   · exact ⟨_,this.2⟩
   · exact ⟨_,this⟩)
  |exact ⟨_,this⟩
 obtain ⟨ba0,oa0,t0,k2_0,Al2_0,nl2_0,cl2_0,Ar2_0,nr2_0,cr2_0,op2_0,p2_0,q2_0,A2_0,n2_0,c2_0,hA0,hS0,hlt0,ht0,hti0,e00,e01,e02,e03,e04,e05,e06⟩:=hkid 0 (by rw[<-hk];simp);have ht0:some (gt ta)=some t0:=ht0;injection ht0 with ht0
 subst ht0;have hkk0:=hti0.kindOf;have hw0:=iha la B b _ w1 ha hti0 hBs ho hg;have HK0:=Aa (fun (out:List UInt8) W (hW:Nu.BW B b w0 W) hb hl=>Dy B b 4 Al nl cl Ar nr cr 0 ⟨#[]⟩ ⟨#[]⟩ A n c k2_0 Al2_0 nl2_0 cl2_0 Ar2_0 nr2_0 cr2_0 op2_0 p2_0 q2_0 A2_0 n2_0 c2_0 0 _ w1 hBs (by rw[<-hk];simp) hn1 hn2 ⟨ba0,oa0,hA0,hS0,hlt0,e00,e01,e02,e03,e04,e05,e06⟩ hw0 out W (hbw.trans hW) hb hl);rw[<-hkk0]at HK0
 obtain ⟨ba1,oa1,t1,k2_1,Al2_1,nl2_1,cl2_1,Ar2_1,nr2_1,cr2_1,op2_1,p2_1,q2_1,A2_1,n2_1,c2_1,hA1,hS1,hlt1,ht1,hti1,e10,e11,e12,e13,e14,e15,e16⟩:=hkid 1 (by rw[<-hk];simp);have ht1:some (gt tb)=some t1:=ht1;injection ht1 with ht1
 subst ht1;have hkk1:=hti1.kindOf;have hw1:=ihb lb B b _ w1 hb2 hti1 hBs ho hg;have HK1:=Aa (fun (out:List UInt8) W (hW:Nu.BW B b w0 W) hb hl=>Dy B b 4 Al nl cl Ar nr cr 0 ⟨#[]⟩ ⟨#[]⟩ A n c k2_1 Al2_1 nl2_1 cl2_1 Ar2_1 nr2_1 cr2_1 op2_1 p2_1 q2_1 A2_1 n2_1 c2_1 1 _ w1 hBs (by rw[<-hk];simp) hn1 hn2 ⟨ba1,oa1,hA1,hS1,hlt1,e10,e11,e12,e13,e14,e15,e16⟩ hw1 out W (hbw.trans hW) hb hl);rw[<-hkk1]at HK1;rw[RR]at HK0;rw[RS]at HK1;have HSZ:=Aa (Nat.le_trans hBs hbw.size)
 obtain ⟨x1,hb,hsz⟩:=Ax 33 w0 #[.int .i64 4,.slice Al nl cl,.slice Ar nr cr,.int .i64 0,.string ⟨#[]⟩,.string ⟨#[]⟩,.slice A n c];have HL1:=Aa (hbl.below hb);have HV1:=Aa (Nu.BW.of_below (B:=B) (b:=b) hb);have HB1:=Aa hb;have hbn:=FH hbl;have hgb0:w0.heap.size≠b:=by omega
 have X1:=Aa x1;have HLT:=Aa hT;have c0:=x1.cell 0 _ rfl;have c1:=x1.cell 1 _ rfl;have c2:=x1.cell 2 _ rfl;have c3:=x1.cell 3 _ rfl;have c4:=x1.cell 4 _ rfl;have c5:=x1.cell 5 _ rfl;have c6:=x1.cell 6 _ rfl
 have HW:=Aa (GE B b 4 Al nl cl Ar nr cr 0 ⟨#[]⟩ ⟨#[]⟩ A n c ⟨#[32,38,32]⟩ (Dx (AR ta) (AC ta)) (Dx (Bp tb || AR tb) (AC tb)) w0 HSZ.out (fun o2 W hW hb hl=>HK0.out o2 W hW hb hl) (fun o2 W hW hb hl=>HK1.out o2 W hW hb hl) out _ HV1.out HL1.out (by have:=HLT.out;simp only[AC]at this;exact this));clear hA0 hS0 hlt0 hti0 hkk0 hw0 e00 e01 e02 e03 e04 e05 e06;clear hA1 hS1 hlt1 hti1 hkk1 hw1 e10 e11 e12 e13 e14 e15 e16
 clear hbl hT hbw hb x1 hl hr hk hkid h ho hg hBs iha ihb ha hb2;go_enter Tryz.func42,Tryz.ntmps42;go_wp2_with fail;refine HW.out.mono ?_;rintro e w6 ⟨rfl,h6,v6⟩;have HP:=Aa (show DZ B b (out++AC (.both ta tb)) w0 (.returned (.tuple #[])) w6 from ⟨rfl,by
  have e:out++AC (.both ta tb)=out++((Dx (AR ta) (AC ta))++(ub ⟨#[32,38,32]⟩++(Dx (Bp tb || AR tb) (AC tb)))):=by simp[ub,AC]
  rw[e];exact h6,HV1.out.trans v6⟩)
 clear h6 v6;go_wp2_with fail;go_end0
 exact HP.out
theorem TZ (ta tb:Tr) (iha:IP ta) (ihb:IP tb):IP (.any ta tb):=by
 intro lv B b vs w1 hri h hBs ho hg out w0 hbw hbl hT;obtain ⟨kd,Al,nl,cl,Ar,nr,cr,op,p,q,A,n,c,rfl⟩:=h.shape;obtain ⟨l',r',ks,e,hl,hr,hk,hl1,hl2,hr1,hr2,hn1,hn2,hkid⟩:=h.parts;have e:GT.mk 5 [] [] 0 ⟨#[]⟩ ⟨#[]⟩ [gt ta,gt tb]=GT.mk kd l' r' op p q ks:=e;injection e with e1 e2 e3 e4 e5 e6 e7
 subst e1 e2 e3 e4 e5 e6 e7;obtain ⟨la,ha⟩:∃l2,right l2 ta:=by
  rw[right]at hri;have:=hri.1;first
  |(
   split at this
   · exact ⟨_,this.2⟩
   · exact ⟨_,this⟩)
  |exact ⟨_,this⟩
 obtain ⟨lb,hb2⟩:∃l2,right l2 tb:=by
  rw[right]at hri;have:=hri.2;first
  |(
   split at this
   · exact ⟨_,this.2⟩
   · exact ⟨_,this⟩)
  |exact ⟨_,this⟩
 obtain ⟨ba0,oa0,t0,k2_0,Al2_0,nl2_0,cl2_0,Ar2_0,nr2_0,cr2_0,op2_0,p2_0,q2_0,A2_0,n2_0,c2_0,hA0,hS0,hlt0,ht0,hti0,e00,e01,e02,e03,e04,e05,e06⟩:=hkid 0 (by rw[<-hk];simp);have ht0:some (gt ta)=some t0:=ht0;injection ht0 with ht0
 subst ht0;have hkk0:=hti0.kindOf;have hw0:=iha la B b _ w1 ha hti0 hBs ho hg;have HK0:=Aa (fun (out:List UInt8) W (hW:Nu.BW B b w0 W) hb hl=>Dy B b 5 Al nl cl Ar nr cr 0 ⟨#[]⟩ ⟨#[]⟩ A n c k2_0 Al2_0 nl2_0 cl2_0 Ar2_0 nr2_0 cr2_0 op2_0 p2_0 q2_0 A2_0 n2_0 c2_0 0 _ w1 hBs (by rw[<-hk];simp) hn1 hn2 ⟨ba0,oa0,hA0,hS0,hlt0,e00,e01,e02,e03,e04,e05,e06⟩ hw0 out W (hbw.trans hW) hb hl);rw[<-hkk0]at HK0
 obtain ⟨ba1,oa1,t1,k2_1,Al2_1,nl2_1,cl2_1,Ar2_1,nr2_1,cr2_1,op2_1,p2_1,q2_1,A2_1,n2_1,c2_1,hA1,hS1,hlt1,ht1,hti1,e10,e11,e12,e13,e14,e15,e16⟩:=hkid 1 (by rw[<-hk];simp);have ht1:some (gt tb)=some t1:=ht1;injection ht1 with ht1
 subst ht1;have hkk1:=hti1.kindOf;have hw1:=ihb lb B b _ w1 hb2 hti1 hBs ho hg;have HK1:=Aa (fun (out:List UInt8) W (hW:Nu.BW B b w0 W) hb hl=>Dy B b 5 Al nl cl Ar nr cr 0 ⟨#[]⟩ ⟨#[]⟩ A n c k2_1 Al2_1 nl2_1 cl2_1 Ar2_1 nr2_1 cr2_1 op2_1 p2_1 q2_1 A2_1 n2_1 c2_1 1 _ w1 hBs (by rw[<-hk];simp) hn1 hn2 ⟨ba1,oa1,hA1,hS1,hlt1,e10,e11,e12,e13,e14,e15,e16⟩ hw1 out W (hbw.trans hW) hb hl);rw[<-hkk1]at HK1;rw[RU,show Dx false (AC ta)=AC ta from rfl]at HK0;rw[RV]at HK1
 have HSZ:=Aa (Nat.le_trans hBs hbw.size);obtain ⟨x1,hb,hsz⟩:=Ax 33 w0 #[.int .i64 5,.slice Al nl cl,.slice Ar nr cr,.int .i64 0,.string ⟨#[]⟩,.string ⟨#[]⟩,.slice A n c];have HL1:=Aa (hbl.below hb);have HV1:=Aa (Nu.BW.of_below (B:=B) (b:=b) hb);have HB1:=Aa hb;have hbn:=FH hbl;have hgb0:w0.heap.size≠b:=by omega
 have X1:=Aa x1;have HLT:=Aa hT;have c0:=x1.cell 0 _ rfl;have c1:=x1.cell 1 _ rfl;have c2:=x1.cell 2 _ rfl;have c3:=x1.cell 3 _ rfl;have c4:=x1.cell 4 _ rfl;have c5:=x1.cell 5 _ rfl;have c6:=x1.cell 6 _ rfl
 have HW:=Aa (GE B b 5 Al nl cl Ar nr cr 0 ⟨#[]⟩ ⟨#[]⟩ A n c ⟨#[32,124,32]⟩ (AC ta) (Dx (AR tb) (AC tb)) w0 HSZ.out (fun o2 W hW hb hl=>HK0.out o2 W hW hb hl) (fun o2 W hW hb hl=>HK1.out o2 W hW hb hl) out _ HV1.out HL1.out (by have:=HLT.out;simp only[AC]at this;exact this));clear hA0 hS0 hlt0 hti0 hkk0 hw0 e00 e01 e02 e03 e04 e05 e06;clear hA1 hS1 hlt1 hti1 hkk1 hw1 e10 e11 e12 e13 e14 e15 e16;clear hbl hT hbw hb x1 hl hr hk hkid h ho hg hBs iha ihb ha hb2
 go_enter Tryz.func42,Tryz.ntmps42;go_wp2_with fail;refine HW.out.mono ?_;rintro e w6 ⟨rfl,h6,v6⟩;have HP:=Aa (show DZ B b (out++AC (.any ta tb)) w0 (.returned (.tuple #[])) w6 from ⟨rfl,by
  have e:out++AC (.any ta tb)=out++((AC ta)++(ub ⟨#[32,124,32]⟩++(Dx (AR tb) (AC tb)))):=by simp[ub,AC]
  rw[e];exact h6,HV1.out.trans v6⟩)
 clear h6 v6;go_wp2_with fail;go_end0
 exact HP.out
theorem Qq (u:Tr):IP u:=by
 induction u with
 |leaf b=>
  cases b
  · exact Sk
  · exact TV
 |cmp l o r=>exact Vu l r o
 |deny t ih=>exact TW t ih
 |both a b iha ihb=>exact TY a b iha ihb
 |any a b iha ihb=>exact TZ a b iha ihb
end
section
open Go.RowKit
open Lx Ex
theorem De.low {S:Nat->Prop} {w:World} {A:Option Addr} {n:Nat} {l:List Mn} (h:De S w A n l):De (fun b=>b<w.heap.size) w A n l:=by refine ⟨h.1,fun hn=>?_⟩;obtain ⟨b,o,e,h1,hlt,hc⟩:=h.2 hn;exact ⟨b,o,e,hlt,hlt,hc⟩
theorem Bq.low {S:Nat->Prop} {w:World} {t:GT} {vs:List Value} (h:Bq S w t vs):Bq (fun b=>b<w.heap.size) w t vs:=by
 induction h with
 |mk kd op l r p q kids Al Ar A nl cl nr cr n c b o cs h1 h2 h3 h4 h5 h6 h7 h8 h9 h10 h11 h12 ih=> exact Bq.mk kd op l r p q kids Al Ar A nl cl nr cr n c b o cs h1.low h2.low h3 h4 h5 h6 h7 h8 h9 (fun hn=>⟨(h10 hn).1,(h10 hn).2.2,(h10 hn).2.2⟩) h11 ih
def Dz (s:List UInt8) (w:World) (e:Ending) (w':World):Prop:=e=.returned (.string ⟨s.toArray⟩)/\Below w.heap.size w w'
theorem Ng (S:Nat->Prop) (A:Option Addr) (n c:Nat) (l:List Mn) (w0:World) (h:De S w0 A n l) (hn9:n<=4611686018427387903) (hc:n<=c) (hc2:c<=9223372036854775807) (hz:On l) (hr:BF l=true) (hT:(Ca true l).length<=140737488355328):Calls Tryz.prog 16 #[.slice A n c] w0 (Dz (Ca true l) w0):=by
 have HR:=Aa (Dw S A n c l w0 h hn9 hz);have HM:=Aa h.low;have HT:=Aa hT;rw[hr]at HR;clear h hz hr hT;go_enter Tryz.func16,Tryz.ntmps16;go_wp2_with fail;refine HR.out.mono ?_;rintro e w2 ⟨rfl,b2⟩;have HB:=Aa b2;have hs2:=b2.size;obtain ⟨x1,hb,hsz⟩:=Ax 92 w2 #[.pointer none,.slice none 0 0];have HBX:=Aa (HB.out.next hb)
 have HW:=Aa (FI w2.heap.size w2.heap.size [] A n c l _ ((HM.out.sub (fun k (hk:k<w0.heap.size)=>(⟨by omega,by omega⟩:Lw w2.heap.size w2.heap.size k))).keep (As.of_below HBX.out)) (Nu.KL.fresh x1) (by omega) hc hc2 (by have:=HT.out;simpa using this));clear b2 hb;go_wp2_with fail;refine HW.out.mono ?_;rintro e w5 ⟨rfl,h5,v5⟩;have HV5:=Aa v5;have h5:Nu.KL w5 w2.heap.size w2.heap.size (Lib.byteCells (Ca true l)):=h5;clear v5 x1;go_wp2_with fail
 refine (Nu.EW _ w0.heap.size _ _ _ h5 (by omega) (by omega) (by have:=HV5.out.size;omega)).mono ?_;rintro e w6 ⟨rfl,b6⟩;have HP:=Aa (show Dz (Ca true l) w0 (.returned (.string ⟨(Ca true l).toArray⟩)) w6 from ⟨rfl,(HBX.out.trans (HV5.out.below (by omega) (by omega) (by omega))).trans b6⟩);clear b6;generalize (Ca true l).toArray=oz at *;go_wp2_with fail;go_ret
 exact HP.out
theorem Nh {S:Nat->Prop} {u:Tr} {kd:Int} {Al:Option Addr} {nl cl:Nat} {Ar:Option Addr} {nr cr:Nat} {op:Int} {p q:ByteArray} {A:Option Addr} {n c:Nat} (w0:World) (h:Bq S w0 (gt u) [.int .i64 kd,.slice Al nl cl,.slice Ar nr cr,.int .i64 op,.string p,.string q,.slice A n c]) (hz:Oz (gt u)) (hr:right 60 u) (ho:Bj w0) (hT:(AC u).length<=140737488355328):Calls Tryz.prog 19 #[.agg #[.int .i64 kd,.slice Al nl cl,.slice Ar nr cr,.int .i64 op,.string p,.string q,.slice A n c]] w0 (Dz (AC u) w0):=by
 obtain ⟨x0,hb0,hsz0⟩:=Ax 33 w0 #[.int .i64 kd,.slice Al nl cl,.slice Ar nr cr,.int .i64 op,.string p,.string q,.slice A n c];have HB:=Aa hb0;have X0:=Aa x0;have c0:=x0.cell 0 _ rfl;have c1:=x0.cell 1 _ rfl;have c2:=x0.cell 2 _ rfl;have c3:=x0.cell 3 _ rfl;have c4:=x0.cell 4 _ rfl;have c5:=x0.cell 5 _ rfl;have c6:=x0.cell 6 _ rfl;have HR:=Aa (Iz _ (h.keep (As.of_below hb0)) hz);rw[show Bb (gt u) 60=true from (Iw u 60).2 hr]at HR;have HT:=Aa hT;have HU:=Aa hr;have HM:=Aa h.low
 have HO:=Aa ho;clear h hz hr hb0 x0 hT ho;go_enter Tryz.func19,Tryz.ntmps19;go_wp2_with fail;refine HR.out.mono ?_;rintro e w2 ⟨rfl,b2⟩;have hs2:w0.heap.size<w2.heap.size:=by have:=b2.size;omega
 have X2:=Aa (X0.out.next b2);have HB2:=Aa (HB.out.next b2);obtain ⟨x1,hb,hsz⟩:=Ax 92 w2 #[.pointer none,.slice none 0 0];have HBX:=Aa (HB2.out.next hb);have hgl:=World.block_lt_of_cell? _ _ (HO.out 0 (by omega))
 have HW:=Aa (Qq u 60 w2.heap.size w2.heap.size _ _ HU.out ((HM.out.sub (fun k (hk:k<w0.heap.size)=>(⟨by omega,by omega⟩:Lw w2.heap.size w2.heap.size k))).keep (As.of_below HBX.out)) (by omega) (HO.out.below HBX.out) (⟨by show 0<_;omega,by show 0≠_;omega⟩:Lw w2.heap.size w2.heap.size 0) [] _ (Nu.BW.refl _ _ _) (Nu.KL.fresh x1) (by have:=HT.out;simpa using this));have X3:=Aa (X2.out.next hb);clear b2 hb c0 c1 c2 c3 c4 c5 c6 hgl;have c0:=X2.out.cell 0 _ rfl
 have c1:=X2.out.cell 1 _ rfl;have c2:=X2.out.cell 2 _ rfl;have c3:=X2.out.cell 3 _ rfl;have c4:=X2.out.cell 4 _ rfl;have c5:=X2.out.cell 5 _ rfl;have c6:=X2.out.cell 6 _ rfl;have d0:=X3.out.cell 0 _ rfl;have d1:=X3.out.cell 1 _ rfl;have d2:=X3.out.cell 2 _ rfl;have d3:=X3.out.cell 3 _ rfl;have d4:=X3.out.cell 4 _ rfl;have d5:=X3.out.cell 5 _ rfl;have d6:=X3.out.cell 6 _ rfl;go_wp2_with fail;refine HW.out.mono ?_;rintro e w5 ⟨rfl,h5,v5⟩;have HV5:=Aa v5
 have h5:Nu.KL w5 w2.heap.size w2.heap.size (Lib.byteCells (AC u)):=h5;clear v5 x1 c0 d0 c1 d1 c2 d2 c3 d3 c4 d4 c5 d5 c6 d6;go_wp2_with fail;refine (Nu.EW _ w0.heap.size _ _ _ h5 (by omega) (by omega) (by have:=HV5.out.size;omega)).mono ?_;rintro e w6 ⟨rfl,b6⟩;have HP:=Aa (show Dz (AC u) w0 (.returned (.string ⟨(AC u).toArray⟩)) w6 from ⟨rfl,(HBX.out.trans (HV5.out.below (by omega) (by omega) (by omega))).trans b6⟩);clear b6;generalize (AC u).toArray=oz at *;go_wp2_with fail
 go_ret
 exact HP.out
theorem Ni {S:Nat->Prop} {u:Tr} {kd:Int} {Al:Option Addr} {nl cl:Nat} {Ar:Option Addr} {nr cr:Nat} {op:Int} {p q:ByteArray} {A:Option Addr} {n c:Nat} (w0:World) (h:Bq S w0 (gt u) [.int .i64 kd,.slice Al nl cl,.slice Ar nr cr,.int .i64 op,.string p,.string q,.slice A n c]) (hz:Oz (gt u)) (h9:nl<=4611686018427387903) (h8:nr<=4611686018427387903) (hcm:Lu (gt u)=true) (hr:right 60 u) (ho:Bj w0) (hT:(AC u).length<=140737488355328):Calls Tryz.prog 27 #[.agg #[.int .i64 kd,.slice Al nl cl,.slice Ar nr cr,.int .i64 op,.string p,.string q,.slice A n c]] w0 (Dz (AC u) w0):=by
 obtain ⟨x1,hb,hsz⟩:=Ax 33 w0 #[.int .i64 kd,.slice Al nl cl,.slice Ar nr cr,.int .i64 op,.string p,.string q,.slice A n c];have HB:=Aa hb;have X1:=Aa x1;have c0:=x1.cell 0 _ rfl;have c1:=x1.cell 1 _ rfl;have c2:=x1.cell 2 _ rfl;have c3:=x1.cell 3 _ rfl;have c4:=x1.cell 4 _ rfl;have c5:=x1.cell 5 _ rfl;have c6:=x1.cell 6 _ rfl;have HR:=Aa (FE S (gt u) kd Al nl cl Ar nr cr op p q A n c _ (h.keep (As.of_below hb)) hz h9 h8);rw[hcm]at HR
 have HT:=Aa (fun W (hW:Below w0.heap.size w0 W)=>Nh W (h.keep (As.of_below hW)) hz hr (ho.below hW) hT);clear h hz hr x1 hb hT ho hcm;go_enter Tryz.func27,Tryz.ntmps27;go_wp2_with fail;refine HR.out.mono ?_;rintro e w2 ⟨rfl,b2⟩;have HB2:=Aa (HB.out.next b2);have X2:=Aa (X1.out.next b2);clear b2 c0 c1 c2 c3 c4 c5 c6;have c0:=X2.out.cell 0 _ rfl;have c1:=X2.out.cell 1 _ rfl;have c2:=X2.out.cell 2 _ rfl;have c3:=X2.out.cell 3 _ rfl;have c4:=X2.out.cell 4 _ rfl
 have c5:=X2.out.cell 5 _ rfl;have c6:=X2.out.cell 6 _ rfl;go_wp2_with fail;refine (HT.out _ HB2.out).mono ?_;rintro e w6 ⟨rfl,b6⟩;have HP:=Aa (show Dz (AC u) w0 (.returned (.string ⟨(AC u).toArray⟩)) w6 from ⟨rfl,HB2.out.next b6⟩);clear b6;generalize (AC u).toArray=oz at *;go_wp2_with fail;go_ret
 exact HP.out
end
section
open Go.RowKit
open Lx Ex
theorem O5 (m:Mn) (V:Option Addr) (mv dv:Nat) (vs:List ByteArray) (w0:World) (hS:Gy w0 V mv vs) (hm:mv<=9223372036854775807) (hz:m.num.size<=4611686018427387904):Calls Tryz.prog 48 #[.agg #[.bool m.neg,.string m.num,.string m.var],.slice V mv dv] w0 (CI (U4 m vs) (Wa m) 600 (Wb m vs) w0):=by
 obtain ⟨num,var,neg⟩:=m;unfold U4 Wa Wb RX Vn;by_cases hn:num=eS<;>by_cases hv:var=eS<;>cases neg<;>simp only[hn,hv,if_true,if_false,if_pos,if_neg,decide_true,decide_false,Bool.true_or,Bool.false_or,Bool.false_eq_true,not_false_eq_true]
 · exact Oe eS eS V mv dv vs w0 hS hm (by decide) rfl rfl
 · exact Og eS eS V mv dv vs w0 hS hm (by decide) rfl rfl
 · exact Of eS var V mv dv vs w0 hS hm (by decide) rfl hv
 · exact Oh eS var V mv dv vs w0 hS hm (by decide) rfl hv
 · exact Oi num eS V mv dv vs w0 hS hm hz hn rfl
 · exact Ol num eS V mv dv vs w0 hS hm hz hn rfl
 · exact Oj num var V mv dv vs w0 hS hm hz hn hv
 · exact Om num var V mv dv vs w0 hS hm hz hn hv
def H7 (vs:List ByteArray):List Mn->List (Int×Int)×Int->Option (List (Int×Int)×Int)
 |[],s=>some s
 |m::l,s=>if Wb m vs=true then H7 vs l (Tm.norm (s.1++U4 m vs),s.2+Wa m) else none
def O6 (r:Option (List (Int×Int)×Int)) (w:World) (e:Ending) (w':World):Prop:=∃v,e=.returned (.tuple #[v,.bool r.isSome])/\Nu.Bv w' v (r.getD ([],0)).1 (r.getD ([],0)).2 9000/\Below w.heap.size w w'
theorem JB (m:Mn) (vs:List ByteArray):(U4 m vs).length<=1:=by
 unfold U4 Hf;split
 · simp
 · have h1:=Nu.Bm ((Tm.norm [(Cn vs m.var 0,1)]).map fun p=>(p.1,RX m*p.2));have h2:=Nu.Bm [(Cn vs m.var 0,(1:Int))];rw[List.length_map]at h1;simp at h2;omega
theorem I1 (w:World) (k:Nat):Nu.Bv w (.agg #[.slice none 0 0,.bool false,.slice none 0 0]) [] 0 k:=⟨none,0,0,false,none,0,0,rfl,⟨[],⟨rfl,fun h=>absurd h (by omega),fun p h=>by cases h⟩,rfl,fun p h=>by cases h⟩,Nat.le_refl _,by omega,Nu.Bt.zero w k⟩
theorem JC (S:Nat->Prop) (A:Option Addr) (n c:Nat) (l:List Mn) (V:Option Addr) (mv dv:Nat) (vs:List ByteArray) (w0:World) (h:De S w0 A n l) (hn9:n<=4611686018427387903) (hz:On l) (hS:Gy w0 V mv vs) (hm:mv<=9223372036854775807):Calls Tryz.prog 24 #[.slice A n c,.slice V mv dv] w0 (O6 (if BF l=true then H7 vs l ([],0) else none) w0):=by
 obtain ⟨x4,hb,hsz⟩:=Ax 56 w0 #[.slice none 0 0,.bool false,.slice none 0 0];have HB:=Aa hb;have X4:=Aa x4;have HR:=Aa (Dw S A n c l _ (h.keep (As.of_below hb)) hn9 hz);have HSV:=Aa hS;have HM:=Aa h.low;have HN:=Aa h.1;have HZ:=Aa hz;have hl64:BF l=true->n<=64:=by intro hh;unfold BF at hh;rw[h.1]at hh;simp at hh;omega
 cases hs:BF l with
 |false=>
  rw[hs]at HR;have HP:=Aa (show ∀v w',Nu.Bv w' v [] 0 9000->Below w0.heap.size w0 w'->O6 (if false=true then H7 vs l ([],0) else none) w0 (.returned (.tuple #[v,.bool false])) w' from fun v w' h1 h2=>⟨v,rfl,h1,h2⟩);clear h hz hS hb x4 hl64 hs;go_enter Tryz.func24,Tryz.ntmps24;go_wp2_with fail;refine HR.out.mono ?_;rintro e w2 ⟨rfl,b2⟩;have y4:=X4.out.next b2;have HB2:=Aa (HB.out.next b2);clear b2
  go_wp2_with (with_reducible refine Ab rfl 56 _ _ rfl w0.heap.size #[.slice none 0 0,.bool false,.slice none 0 0] rfl rfl _ y4 (by kernel_rfl) rfl (by simp[Value.oneCell']) ?_;intro w9 k9 o9);refine BJ rfl rfl rfl k9 rfl ?_;exact HP.out _ _ (I1 _ _) (HB2.out.trans (o9.below HB2.out.size (by omega)))
 |true=>
  rw[hs]at HR;have h64:=hl64 hs;have HP:=Aa (show ∀r v b w',H7 vs l ([],0)=r->b=r.isSome->Nu.Bv w' v (r.getD ([],0)).1 (r.getD ([],0)).2 9000->Below w0.heap.size w0 w'->O6 (if true=true then H7 vs l ([],0) else none) w0 (.returned (.tuple #[v,.bool b])) w' from fun r v b w' e hb h1 h2=>by rw[if_pos rfl,e,hb];exact ⟨v,rfl,h1,h2⟩);clear h hz hS hb x4 hl64 hs;go_enter Tryz.func24,Tryz.ntmps24;go_wp2_with fail;refine HR.out.mono ?_;rintro e w2 ⟨rfl,b2⟩
  have Y4:=Aa (X4.out.next b2);have HB2:=Aa (HB.out.next b2);have hs2:w0.heap.size<w2.heap.size:=by have:=b2.size;omega
  obtain ⟨x6,hb6,hsz6⟩:=Ax 56 w2 #[.slice none 0 0,.bool false,.slice none 0 0];have X6:=Aa x6;have HB6:=Aa (HB2.out.next hb6);have Y6:=Aa (Y4.out.next hb6);have hne:w0.heap.size≠w2.heap.size:=by omega
  have hne':w2.heap.size≠w0.heap.size:=by omega
  have HG0:=Aa (show Nu.Bv (w2.alloc (.cells #[.slice none 0 0,.bool false,.slice none 0 0] 56)) (.agg #[.slice none 0 0,.bool false,.slice none 0 0]) [] 0 (600+70*0) from I1 _ _);clear b2 hb6 x6;go_wp2_with fail;generalize hW:w2.alloc (.cells #[.slice none 0 0,.bool false,.slice none 0 0] 56)=W2 at *;clear hW
  go_loopw [17] (fun i wr=>∃x:Nat,x<=n/\i=.int .i64 x/\Hid (∃L K A6 n6 c6 s6 B6 m6 d6,Ao 56 wr w2.heap.size #[.slice A6 n6 c6,.bool s6,.slice B6 m6 d6]/\Nu.Bv wr (.agg #[.slice A6 n6 c6,.bool s6,.slice B6 m6 d6]) L K (600+70*x)/\L.length<=x/\H7 vs l ([],0)=H7 vs (l.drop x) (L,K))/\Hid (Ao 56 wr w0.heap.size #[.slice none 0 0,.bool false,.slice none 0 0])/\Hid (Below w0.heap.size w0 wr)/\w2.heap.size<wr.heap.size) (fun i _=>n-(intOf i).toNat)
  case atStart=>exact ⟨0,Nat.zero_le _,rfl,Aa ⟨[],0,_,_,_,_,_,_,_,X6.out,HG0.out,Nat.le_refl _,rfl⟩,Y6,HB6,by omega⟩
  case round=>
   obtain ⟨x,hx,rfl,HER,XR4,HR2,hwr⟩:=hrel;obtain ⟨L,K,A6,n6,c6,s6,B6,m6,d6,xb6,tr6,hll,he⟩:=HER.out;by_cases hxn:x<n
   · obtain ⟨bb,oo,m,hA,hlt,hmm,e0,e1,e2⟩:=(HM.out.keep (As.of_below HR2.out)).at_ hxn;subst hA;obtain ⟨neg,num,var,hme⟩:∃neg num var,m=⟨num,var,neg⟩:=⟨m.neg,m.num,m.var,by cases m;rfl⟩;subst hme;have e0:wr.cell? ⟨bb,oo+x*3,none⟩=some (.bool neg):=e0;have e1:wr.cell? ⟨bb,oo+x*3+1,none⟩=some (.string num):=e1;have e2:wr.cell? ⟨bb,oo+x*3+2,none⟩=some (.string var):=e2;have hd:l.drop x=⟨num,var,neg⟩::l.drop (x+1):=by
      have hl:x<l.length:=(by have:=HN.out;omega);rw[List.drop_eq_getElem_cons hl];congr 1
      rw[List.getElem?_eq_getElem hl]at hmm;injection hmm
     have hzz:=(HZ.out _ (List.mem_of_getElem? hmm)).1;have HTO:=Aa (fun W (hW:Below w0.heap.size w0 W)=>O5 ⟨num,var,neg⟩ V mv dv vs W (HSV.out.below hW) hm hzz);have HE:=Aa (show H7 vs l ([],0)=if Wb ⟨num,var,neg⟩ vs=true then H7 vs (l.drop (x+1)) (Tm.norm (L++U4 ⟨num,var,neg⟩ vs),K+Wa ⟨num,var,neg⟩) else none from by rw[he,hd,H7]);have HML:=Aa (JB ⟨num,var,neg⟩ vs)
     have z1:Ao 88 (wr.alloc (.cells #[.bool false,.string ⟨#[]⟩,.string ⟨#[]⟩] 88)) wr.heap.size #[.bool false,.string ⟨#[]⟩,.string ⟨#[]⟩]:=Ao.new _ _ _;have X6r:=Aa xb6;have T6r:=Aa tr6;clear he hd hmm hzz HER xb6 tr6;generalize Wb ⟨num,var,neg⟩ vs=ok at *;generalize U4 ⟨num,var,neg⟩ vs=ML at *;generalize Wa ⟨num,var,neg⟩=MK at *
     go_wp2_with (with_reducible refine Ab rfl 88 _ _ rfl wr.heap.size #[.bool neg,.string num,.string var] rfl rfl _ z1 (by kernel_rfl) rfl (by simp[Value.oneCell']) ?_;intro wy ky oy;have HBy:=Aa (show Below wr.heap.size wr wy from (Ae wr _).trans (oy.below (Ae wr _).size (Nat.le_refl _)));have y0:=ky.cell 0 _ rfl;have y1:=ky.cell 1 _ rfl;have y2:=ky.cell 2 _ rfl;clear oy ky e0 e1 e2 z1);refine (HTO.out _ (HR2.out.next HBy.out)).mono ?_;rintro e w4 ⟨v4,rfl,r4,b4⟩
     obtain ⟨A7,n7,c7,s7,B7,m7,d7,rfl⟩:=r4.form;have HB4:=Aa (show Below wr.heap.size wr w4 from HBy.out.trans (b4.mono HBy.out.size));have HR4:=Aa (HR2.out.next HB4.out);have hs4:wr.heap.size<=w4.heap.size:=HB4.out.size;have z9:Ao 56 (w4.alloc (.cells #[.slice none 0 0,.bool false,.slice none 0 0] 56)) w4.heap.size #[.slice none 0 0,.bool false,.slice none 0 0]:=Ao.new _ _ _;have X44:=Aa (XR4.out.next HB4.out);have X64:=Aa (X6r.out.next HB4.out)
     have T64:=Aa (T6r.out.below HB4.out);have T74:=Aa r4;have HT7:=Aa (fun W (ho:An w4.heap.size (w4.alloc (.cells #[.slice none 0 0,.bool false,.slice none 0 0] 56)) W)=>(T74.out.below (Ae w4 _)).only z9 ho);have HT6:=Aa (fun W (ho:An w4.heap.size (w4.alloc (.cells #[.slice none 0 0,.bool false,.slice none 0 0] 56)) W)=>(T64.out.below (Ae w4 _)).only z9 ho);have hn40:w0.heap.size≠w4.heap.size:=(by omega);have hn42:w2.heap.size≠w4.heap.size:=(by omega)
     clear y0 y1 y2 b4 r4 HTO;cases ok with
     |false=>
      have HE:=Aa (show H7 vs l ([],0)=none from HE.out);go_wp2_with (first
       |(with_reducible refine Ab rfl 56 _ _ rfl w4.heap.size #[.slice A7 n7 c7,.bool s7,.slice B7 m7 d7] rfl rfl _ z9 (by kernel_rfl) rfl (by simp[Value.oneCell']) ?_;intro w5 k5 o5;have HB5:=Aa (show Below w4.heap.size w4 w5 from (Ae w4 _).trans (o5.below (Ae w4 _).size (Nat.le_refl _)));have TA:=Aa (HT7.out w5 o5);have TB:=Aa (HT6.out w5 o5);have XA:=Aa k5;have X65:=Aa (X64.out.next HB5.out);have x45:=X44.out.next HB5.out;have a0:=k5.cell 0 _ rfl;have a1:=k5.cell 1 _ rfl;have a2:=k5.cell 2 _ rfl;have b0:=X65.out.cell 0 _ rfl;have b1:=X65.out.cell 1 _ rfl;have b2:=X65.out.cell 2 _ rfl;clear o5 k5)
       |(with_reducible refine Ab rfl 56 _ _ rfl w0.heap.size #[.slice none 0 0,.bool false,.slice none 0 0] rfl rfl _ x45 (by kernel_rfl) rfl (by simp[Value.oneCell']) ?_;intro w9 k9 o9))
      refine BJ rfl rfl rfl k9 rfl ?_;have HB9:=Aa (HR4.out.next HB5.out);exact HP.out none _ _ _ HE.out rfl (I1 _ _) (HB9.out.trans (o9.below HB9.out.size (by omega)))
     |true=>
      have HE:=Aa (show H7 vs l ([],0)=H7 vs (l.drop (x+1)) (Tm.norm (L++ML),K+MK) from HE.out)
      go_wp2_with (with_reducible refine Ab rfl 56 _ _ rfl w4.heap.size #[.slice A7 n7 c7,.bool s7,.slice B7 m7 d7] rfl rfl _ z9 (by kernel_rfl) rfl (by simp[Value.oneCell']) ?_;intro w5 k5 o5;have HB5:=Aa (show Below w4.heap.size w4 w5 from (Ae w4 _).trans (o5.below (Ae w4 _).size (Nat.le_refl _)));have TA:=Aa (HT7.out w5 o5);have TB:=Aa (HT6.out w5 o5);have XA:=Aa k5;have X65:=Aa (X64.out.next HB5.out);have x45:=X44.out.next HB5.out;have a0:=k5.cell 0 _ rfl;have a1:=k5.cell 1 _ rfl;have a2:=k5.cell 2 _ rfl;have b0:=X65.out.cell 0 _ rfl;have b1:=X65.out.cell 1 _ rfl;have b2:=X65.out.cell 2 _ rfl;clear o5 k5)
      refine (Nu.MQ _ _ L ML K MK (600+70*x) w5 TB.out.in_ (TA.out.in_.mono (by omega)) (by omega) (by have:=HML.out;omega) (by omega)).mono ?_;rintro e w6 ⟨v6,rfl,r6,b6⟩;obtain ⟨A8,n8,c8,s8,B8,m8,d8,rfl⟩:=r6.form;have HB7:=Aa ((HR4.out.next HB5.out).next b6);have x66:=X65.out.next b6;have X46:=Aa (x45.next b6);have hs6:w2.heap.size<w6.heap.size:=(by have:=b6.size;have:=HB5.out.size;omega)
      have HT8:=Aa (fun W (ho:An w2.heap.size w6 W)=>(r6.mono (j:=600+70*(x+1)) (by have:=HML.out;omega)).only x66 ho);have HLL:=Aa (show (Tm.norm (L++ML)).length<=x+1 from by have h1:=Nu.Bm (L++ML);rw[List.length_append]at h1;have:=HML.out;omega);clear r6 b6 a0 a1 a2 b0 b1 b2;go_wp2_with (with_reducible refine Ab rfl 56 _ _ rfl w2.heap.size #[.slice A8 n8 c8,.bool s8,.slice B8 m8 d8] rfl rfl _ x66 (by kernel_rfl) rfl (by simp[Value.oneCell']) ?_;intro w7 k7 o7)
      go_roundw
      case rel=>exact ⟨x+1,by omega,by go_num,Aa ⟨_,_,_,_,_,_,_,_,_,k7,HT8.out w7 o7,HLL.out,HE.out⟩,Aa (X46.out.other o7 hne),Aa (HB7.out.trans (o7.below HB7.out.size (by omega))),by have:=o7.size;omega⟩
      case measure=>simp[intOf];omega
   · obtain rfl:x=n:=(by omega);have HE:=Aa (show H7 vs l ([],0)=some (L,K) from by rw[he,List.drop_of_length_le (by have:=HN.out;omega),H7]);have X6r:=Aa xb6;have T6r:=Aa (tr6.mono (j:=9000) (by omega));have b0:=xb6.cell 0 _ rfl;have b1:=xb6.cell 1 _ rfl;have b2:=xb6.cell 2 _ rfl;have x4r:=XR4.out;clear he xb6 tr6 HER
     go_wp2_with (with_reducible refine Ab rfl 56 _ _ rfl w0.heap.size #[.slice A6 n6 c6,.bool s6,.slice B6 m6 d6] rfl rfl _ x4r (by kernel_rfl) rfl (by simp[Value.oneCell']) ?_;intro w9 k9 o9);refine BJ rfl rfl rfl k9 rfl ?_;exact HP.out (some (L,K)) _ _ _ HE.out rfl (T6r.out.only x4r o9) (HR2.out.trans (o9.below HR2.out.size (by omega)))
end
end Go.Proofs.YtgohmojcopajoaaGreatDoor
