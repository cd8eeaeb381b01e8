/- Texts of one seat, put together: ExprWu ExprWv. -/
import Derived.Test.YtgohmojcopajoaaGreatDoorT28
import Derived.Test.YtgohmojcopajoaaGreatDoorT23
set_option linter.unusedVariables false
set_option linter.unusedSimpArgs false
set_option maxRecDepth 100000
set_option maxHeartbeats 16000000
namespace Go.Proofs.YtgohmojcopajoaaGreatDoor
section
open Go.RowKit
open Lx Ex
theorem Bt.kindOf {S:Nat->Prop} {w:World} {t:GT} {kd:Int} {Al:Option Addr} {nl cl:Nat} {Ar:Option Addr} {nr cr:Nat} {op:Int} {p q:ByteArray} {A:Option Addr} {n c:Nat} (h:Bt S w t [.int .i64 kd,.slice Al nl cl,.slice Ar nr cr,.int .i64 op,.string p,.string q,.slice A n c]):t.kind=kd:=by obtain ⟨l,r,ks,rfl,-⟩:=h.parts;rfl
theorem Ov (o:Nat):(EA o).size<=2:=by unfold EA;split<;>decide
theorem AQ.bw {B b:Nat} {w w':World} (h:AQ w) (hg:Lw B b 0) (hb:Nu.BW B b w w'):AQ w':=fun j hj=>Fo hb hg (World.block_lt_of_cell? w _ (h j hj)) (h j hj)
def J5 (u:Tr):Prop:=∀(lv B b:Nat) (vs:List Value) (w1:World),right lv u->Bt (Lw B b) w1 (gt u) vs->B<=w1.heap.size->AQ w1->Lw B b 0->IX B b w1 42 #[.agg vs.toArray] (Ai u)
theorem Ur:J5 (.leaf false):=by
 intro lv B b vs w1 hri h hBs ho hg out w0 hbw hbl hT;obtain ⟨kd,Al,nl,cl,Ar,nr,cr,op,p,q,A,n,c,rfl⟩:=h.shape;obtain ⟨l',r',ks,e,hl,hr,hk,hl1,hl2,hr1,hr2,hn1,hn2,hkid⟩:=h.parts;have e:GT.mk 1 [] [] 0 ⟨#[]⟩ ⟨#[]⟩ []=GT.mk kd l' r' op p q ks:=e;injection e with e1 e2 e3 e4 e5 e6 e7
 subst e1 e2 e3 e4 e5 e6 e7;have HSZ:=Aa (Nat.le_trans hBs hbw.size);obtain ⟨x1,hb,hsz⟩:=Av 33 w0 #[.int .i64 1,.slice Al nl cl,.slice Ar nr cr,.int .i64 0,.string ⟨#[]⟩,.string ⟨#[]⟩,.slice A n c];have HL1:=Aa (hbl.below hb);have HV1:=Aa (Nu.BW.of_below (B:=B) (b:=b) hb);have HB1:=Aa hb;have hbn:=FZ hbl;have hgb0:w0.heap.size≠b:=by omega
 have X1:=Aa x1;have HLT:=Aa hT;have c0:=x1.cell 0 _ rfl;have c1:=x1.cell 1 _ rfl;have c2:=x1.cell 2 _ rfl;have c3:=x1.cell 3 _ rfl;have c4:=x1.cell 4 _ rfl;have c5:=x1.cell 5 _ rfl;have c6:=x1.cell 6 _ rfl;have HW:=Aa (DL B b out ⟨#[102,97,108,115,101]⟩ _ HL1.out (by have:=HLT.out;exact this) (Nat.le_trans HSZ.out HB1.out.size));clear hbl hT hbw hb x1 hl hr hk hkid h ho hg hBs;go_enter Tryz.func42,Tryz.ntmps42;go_wp2_with fail;refine HW.out.mono ?_;rintro e w3 ⟨rfl,h3,v3⟩
 have HP:=Aa (show Ek B b (out++Ai (.leaf false)) w0 (.returned (.tuple #[])) w3 from ⟨rfl,h3,HV1.out.trans v3⟩);clear h3 v3;go_wp2_with fail;go_end0
 exact HP.out
theorem VB:J5 (.leaf true):=by
 intro lv B b vs w1 hri h hBs ho hg out w0 hbw hbl hT;obtain ⟨kd,Al,nl,cl,Ar,nr,cr,op,p,q,A,n,c,rfl⟩:=h.shape;obtain ⟨l',r',ks,e,hl,hr,hk,hl1,hl2,hr1,hr2,hn1,hn2,hkid⟩:=h.parts;have e:GT.mk 0 [] [] 0 ⟨#[]⟩ ⟨#[]⟩ []=GT.mk kd l' r' op p q ks:=e;injection e with e1 e2 e3 e4 e5 e6 e7
 subst e1 e2 e3 e4 e5 e6 e7;have HSZ:=Aa (Nat.le_trans hBs hbw.size);obtain ⟨x1,hb,hsz⟩:=Av 33 w0 #[.int .i64 0,.slice Al nl cl,.slice Ar nr cr,.int .i64 0,.string ⟨#[]⟩,.string ⟨#[]⟩,.slice A n c];have HL1:=Aa (hbl.below hb);have HV1:=Aa (Nu.BW.of_below (B:=B) (b:=b) hb);have HB1:=Aa hb;have hbn:=FZ hbl;have hgb0:w0.heap.size≠b:=by omega
 have X1:=Aa x1;have HLT:=Aa hT;have c0:=x1.cell 0 _ rfl;have c1:=x1.cell 1 _ rfl;have c2:=x1.cell 2 _ rfl;have c3:=x1.cell 3 _ rfl;have c4:=x1.cell 4 _ rfl;have c5:=x1.cell 5 _ rfl;have c6:=x1.cell 6 _ rfl;have HW:=Aa (DL B b out ⟨#[116,114,117,101]⟩ _ HL1.out (by have:=HLT.out;exact this) (Nat.le_trans HSZ.out HB1.out.size));clear hbl hT hbw hb x1 hl hr hk hkid h ho hg hBs;go_enter Tryz.func42,Tryz.ntmps42;go_wp2_with fail;refine HW.out.mono ?_;rintro e w3 ⟨rfl,h3,v3⟩
 have HP:=Aa (show Ek B b (out++Ai (.leaf true)) w0 (.returned (.tuple #[])) w3 from ⟨rfl,h3,HV1.out.trans v3⟩);clear h3 v3;go_wp2_with fail;go_end0
 exact HP.out
theorem Xo (l r:List Mn) (o:Nat):J5 (.cmp l o r):=by
 intro lv B b vs w1 hri h hBs ho hg out w0 hbw hbl hT;obtain ⟨kd,Al,nl,cl,Ar,nr,cr,op,p,q,A,n,c,rfl⟩:=h.shape;obtain ⟨l',r',ks,e,hl,hr,hk,hl1,hl2,hr1,hr2,hn1,hn2,hkid⟩:=h.parts;have e:GT.mk 2 l r (o:Int) ⟨#[]⟩ ⟨#[]⟩ []=GT.mk kd l' r' op p q ks:=e;injection e with e1 e2 e3 e4 e5 e6 e7
 subst e1 e2 e3 e4 e5 e6 e7;have ho6:o<6:=by rw[right]at hri;exact hri.2.1
 have hgl:=World.block_lt_of_cell? _ _ (ho 0 (by omega));have hgc:=(ho.bw hg hbw) o ho6;have HOT:=Aa (show ∀W,Nu.BW B b w0 W->W.cell? ⟨0,o,none⟩=some (.string (EA o)) from fun W hW=>((ho.bw hg hbw).bw hg hW) o ho6);have HMR:=Aa (show ∀W,Nu.BW B b w0 W->Dg (Lw B b) W Ar nr r from fun W hW=>hr.keep (MZ (hbw.trans hW)));have HML:=Aa (show ∀W,Nu.BW B b w0 W->Dg (Lw B b) W Al nl l from fun W hW=>hl.keep (MZ (hbw.trans hW)));have HSZ:=Aa (Nat.le_trans hBs hbw.size)
 obtain ⟨x1,hb,hsz⟩:=Av 33 w0 #[.int .i64 2,.slice Al nl cl,.slice Ar nr cr,.int .i64 (o:Int),.string ⟨#[]⟩,.string ⟨#[]⟩,.slice A n c];have HL1:=Aa (hbl.below hb);have HV1:=Aa (Nu.BW.of_below (B:=B) (b:=b) hb);have HB1:=Aa hb;have hbn:=FZ hbl;have hgb0:w0.heap.size≠b:=by omega
 have X1:=Aa x1;have HLT:=Aa hT;have c0:=x1.cell 0 _ rfl;have c1:=x1.cell 1 _ rfl;have c2:=x1.cell 2 _ rfl;have c3:=x1.cell 3 _ rfl;have c4:=x1.cell 4 _ rfl;have c5:=x1.cell 5 _ rfl;have c6:=x1.cell 6 _ rfl;have HLN:=Aa (show out.length+((AP true l).length+((ub (EA o)).length+2+(AP true r).length))<=140737488355328 from by simp only[Ai,List.length_append,List.length_cons]at hT;omega)
 have HWL:=Aa (Ga B b out Al nl cl l _ (HML.out _ HV1.out) HL1.out (Nat.le_trans HSZ.out HB1.out.size) hl1 hl2 (by have:=HLN.out;omega));clear hbl hT hbw hb x1 hl hr hk hkid h ho hg hBs hgl hgc;go_enter Tryz.func42,Tryz.ntmps42;go_wp2_with fail;refine HWL.out.mono ?_;rintro e w3 ⟨rfl,h3,v3⟩;have HV3:=Aa (HV1.out.trans v3);have X3:=Aa (FY v3 (by decide) hgb0 X1.out);have hgc:=HOT.out w3 HV3.out
 have HWO:=Aa (DL B b _ (⟨#[32]⟩++EA o++⟨#[32]⟩) w3 h3 (by have:=HLN.out;have e:ub (⟨#[32]⟩++EA o++⟨#[32]⟩)=32::(ub (EA o)++[32]):=(by simp[ub]);rw[e];simp only[List.length_append,List.length_cons,List.length_nil];omega) (Nat.le_trans HSZ.out HV3.out.size));have hos1:(⟨#[32]⟩:ByteArray).size+(EA o).size<=9223372036854775807:=by have:=Ov o;show 1+_<=_;omega
 have hos2:(⟨#[32]⟩++EA o:ByteArray).size+(⟨#[32]⟩:ByteArray).size<=9223372036854775807:=by have:=Ov o;rw[ByteArray.size_append];show 1+_+1<=_;omega
 have hoi:(0:Int)<=(o:Int):=by omega
 have hoj:(o:Int)<6:=by omega
 clear h3 v3 c0 c1 c2 c3 c4 c5 c6;have c3:=X3.out.cell 3 _ rfl;go_wp2_with fail;refine HWO.out.mono ?_;rintro e w5 ⟨rfl,h5,v5⟩;have HV5:=Aa (HV3.out.trans v5);have X5:=Aa (FY v5 (by decide) hgb0 X3.out);have HWR:=Aa (Ga B b _ Ar nr cr r _ (HMR.out _ HV5.out) h5 (Nat.le_trans HSZ.out HV5.out.size) hr1 hr2 (by have:=HLN.out;have e:ub (⟨#[32]⟩++EA o++⟨#[32]⟩)=32::(ub (EA o)++[32]):=(by simp[ub]);rw[e];simp only[List.length_append,List.length_cons,List.length_nil];omega))
 clear h5 v5 c3 hgc;have c2:=X5.out.cell 2 _ rfl;go_wp2_with fail;refine HWR.out.mono ?_;rintro e w6 ⟨rfl,h6,v6⟩;have HP:=Aa (show Ek B b (out++Ai (.cmp l o r)) w0 (.returned (.tuple #[])) w6 from ⟨rfl,by
  have e:out++Ai (.cmp l o r)=out++AP true l++ub (⟨#[32]⟩++EA o++⟨#[32]⟩)++AP true r:=by simp[ub,Ai]
  rw[e];exact h6,HV5.out.trans v6⟩)
 clear h6 v6;go_wp2_with fail;go_end0
 exact HP.out
theorem VC (t:Tr) (ih:J5 t):J5 (.deny t):=by
 intro lv B b vs w1 hri h hBs ho hg out w0 hbw hbl hT;obtain ⟨kd,Al,nl,cl,Ar,nr,cr,op,p,q,A,n,c,rfl⟩:=h.shape;obtain ⟨l',r',ks,e,hl,hr,hk,hl1,hl2,hr1,hr2,hn1,hn2,hkid⟩:=h.parts;have e:GT.mk 3 [] [] 0 ⟨#[]⟩ ⟨#[]⟩ [gt t]=GT.mk kd l' r' op p q ks:=e;injection e with e1 e2 e3 e4 e5 e6 e7
 subst e1 e2 e3 e4 e5 e6 e7;obtain ⟨l2,h2⟩:∃l2,right l2 t:=by
  rw[right]at hri;split at hri
  · exact ⟨_,hri.2⟩
  · exact ⟨_,hri.2⟩
 obtain ⟨ba0,oa0,t0,k2_0,Al2_0,nl2_0,cl2_0,Ar2_0,nr2_0,cr2_0,op2_0,p2_0,q2_0,A2_0,n2_0,c2_0,hA0,hS0,hlt0,ht0,hti0,e00,e01,e02,e03,e04,e05,e06⟩:=hkid 0 (by rw[<-hk];simp);have ht0:some (gt t)=some t0:=ht0;injection ht0 with ht0
 subst ht0;have hkk0:=hti0.kindOf;have hw0:=ih l2 B b _ w1 h2 hti0 hBs ho hg;have HK0:=Aa (fun (out:List UInt8) W (hW:Nu.BW B b w0 W) hb hl=>Dr B b 3 Al nl cl Ar nr cr 0 ⟨#[]⟩ ⟨#[]⟩ A n c k2_0 Al2_0 nl2_0 cl2_0 Ar2_0 nr2_0 cr2_0 op2_0 p2_0 q2_0 A2_0 n2_0 c2_0 0 _ w1 hBs (by rw[<-hk];simp) hn1 hn2 ⟨ba0,oa0,hA0,hS0,hlt0,e00,e01,e02,e03,e04,e05,e06⟩ hw0 out W (hbw.trans hW) hb hl);rw[<-hkk0]at HK0;rw[Wh]at HK0;have HSZ:=Aa (Nat.le_trans hBs hbw.size)
 obtain ⟨x1,hb,hsz⟩:=Av 33 w0 #[.int .i64 3,.slice Al nl cl,.slice Ar nr cr,.int .i64 0,.string ⟨#[]⟩,.string ⟨#[]⟩,.slice A n c];have HL1:=Aa (hbl.below hb);have HV1:=Aa (Nu.BW.of_below (B:=B) (b:=b) hb);have HB1:=Aa hb;have hbn:=FZ hbl;have hgb0:w0.heap.size≠b:=by omega
 have X1:=Aa x1;have HLT:=Aa hT;have c0:=x1.cell 0 _ rfl;have c1:=x1.cell 1 _ rfl;have c2:=x1.cell 2 _ rfl;have c3:=x1.cell 3 _ rfl;have c4:=x1.cell 4 _ rfl;have c5:=x1.cell 5 _ rfl;have c6:=x1.cell 6 _ rfl;have HLN:=Aa (show out.length+(1+(Cq (AD t || Au t) (Ai t)).length)<=140737488355328 from by simp only[Ai,List.length_append,List.length_cons]at hT;omega);have HW:=Aa (DL B b out ⟨#[33]⟩ _ HL1.out (by have:=HLN.out;show _+1<=_;omega) (Nat.le_trans HSZ.out HB1.out.size))
 clear hA0 hS0 hlt0 hti0 hkk0 hw0 e00 e01 e02 e03 e04 e05 e06;clear hbl hT hbw hb x1 hl hr hk hkid h ho hg hBs ih h2;go_enter Tryz.func42,Tryz.ntmps42;go_wp2_with fail;refine HW.out.mono ?_;rintro e w3 ⟨rfl,h3,v3⟩;have HV3:=Aa (HV1.out.trans v3);have X3:=Aa (FY v3 (by decide) hgb0 X1.out);have HW3:=Aa (HK0.out _ w3 HV3.out h3 (by have:=HLN.out;simp only[List.length_append];show _+1+_<=_;omega));clear h3 v3 c0 c1 c2 c3 c4 c5 c6;have c0:=X3.out.cell 0 _ rfl
 have c1:=X3.out.cell 1 _ rfl;have c2:=X3.out.cell 2 _ rfl;have c3:=X3.out.cell 3 _ rfl;have c4:=X3.out.cell 4 _ rfl;have c5:=X3.out.cell 5 _ rfl;have c6:=X3.out.cell 6 _ rfl;go_wp2_with fail;refine HW3.out.mono ?_;rintro e w6 ⟨rfl,h6,v6⟩;have HP:=Aa (show Ek B b (out++Ai (.deny t)) w0 (.returned (.tuple #[])) w6 from ⟨rfl,by
  have e:out++Ai (.deny t)=out++ub ⟨#[33]⟩++Cq (AD t || Au t) (Ai t):=by simp[ub,Ai]
  rw[e];exact h6,HV3.out.trans v6⟩)
 clear h6 v6;go_wp2_with fail;go_end0
 exact HP.out
theorem VD (ta tb:Tr) (iha:J5 ta) (ihb:J5 tb):J5 (.both ta tb):=by
 intro lv B b vs w1 hri h hBs ho hg out w0 hbw hbl hT;obtain ⟨kd,Al,nl,cl,Ar,nr,cr,op,p,q,A,n,c,rfl⟩:=h.shape;obtain ⟨l',r',ks,e,hl,hr,hk,hl1,hl2,hr1,hr2,hn1,hn2,hkid⟩:=h.parts;have e:GT.mk 4 [] [] 0 ⟨#[]⟩ ⟨#[]⟩ [gt ta,gt tb]=GT.mk kd l' r' op p q ks:=e;injection e with e1 e2 e3 e4 e5 e6 e7
 subst e1 e2 e3 e4 e5 e6 e7;obtain ⟨la,ha⟩:∃l2,right l2 ta:=by
  rw[right]at hri;have:=hri.1;first
  |(
   split at this
   · exact ⟨_,this.2⟩
   · exact ⟨_,this⟩)
  |exact ⟨_,this⟩
 obtain ⟨lb,hb2⟩:∃l2,right l2 tb:=by
  rw[right]at hri;have:=hri.2;first
  |(
   split at this
   · exact ⟨_,this.2⟩
   · exact ⟨_,this⟩)
  |exact ⟨_,this⟩
 obtain ⟨ba0,oa0,t0,k2_0,Al2_0,nl2_0,cl2_0,Ar2_0,nr2_0,cr2_0,op2_0,p2_0,q2_0,A2_0,n2_0,c2_0,hA0,hS0,hlt0,ht0,hti0,e00,e01,e02,e03,e04,e05,e06⟩:=hkid 0 (by rw[<-hk];simp);have ht0:some (gt ta)=some t0:=ht0;injection ht0 with ht0
 subst ht0;have hkk0:=hti0.kindOf;have hw0:=iha la B b _ w1 ha hti0 hBs ho hg;have HK0:=Aa (fun (out:List UInt8) W (hW:Nu.BW B b w0 W) hb hl=>Dr B b 4 Al nl cl Ar nr cr 0 ⟨#[]⟩ ⟨#[]⟩ A n c k2_0 Al2_0 nl2_0 cl2_0 Ar2_0 nr2_0 cr2_0 op2_0 p2_0 q2_0 A2_0 n2_0 c2_0 0 _ w1 hBs (by rw[<-hk];simp) hn1 hn2 ⟨ba0,oa0,hA0,hS0,hlt0,e00,e01,e02,e03,e04,e05,e06⟩ hw0 out W (hbw.trans hW) hb hl);rw[<-hkk0]at HK0
 obtain ⟨ba1,oa1,t1,k2_1,Al2_1,nl2_1,cl2_1,Ar2_1,nr2_1,cr2_1,op2_1,p2_1,q2_1,A2_1,n2_1,c2_1,hA1,hS1,hlt1,ht1,hti1,e10,e11,e12,e13,e14,e15,e16⟩:=hkid 1 (by rw[<-hk];simp);have ht1:some (gt tb)=some t1:=ht1;injection ht1 with ht1
 subst ht1;have hkk1:=hti1.kindOf;have hw1:=ihb lb B b _ w1 hb2 hti1 hBs ho hg;have HK1:=Aa (fun (out:List UInt8) W (hW:Nu.BW B b w0 W) hb hl=>Dr B b 4 Al nl cl Ar nr cr 0 ⟨#[]⟩ ⟨#[]⟩ A n c k2_1 Al2_1 nl2_1 cl2_1 Ar2_1 nr2_1 cr2_1 op2_1 p2_1 q2_1 A2_1 n2_1 c2_1 1 _ w1 hBs (by rw[<-hk];simp) hn1 hn2 ⟨ba1,oa1,hA1,hS1,hlt1,e10,e11,e12,e13,e14,e15,e16⟩ hw1 out W (hbw.trans hW) hb hl);rw[<-hkk1]at HK1;rw[Ua]at HK0;rw[Ub]at HK1;have HSZ:=Aa (Nat.le_trans hBs hbw.size)
 obtain ⟨x1,hb,hsz⟩:=Av 33 w0 #[.int .i64 4,.slice Al nl cl,.slice Ar nr cr,.int .i64 0,.string ⟨#[]⟩,.string ⟨#[]⟩,.slice A n c];have HL1:=Aa (hbl.below hb);have HV1:=Aa (Nu.BW.of_below (B:=B) (b:=b) hb);have HB1:=Aa hb;have hbn:=FZ hbl;have hgb0:w0.heap.size≠b:=by omega
 have X1:=Aa x1;have HLT:=Aa hT;have c0:=x1.cell 0 _ rfl;have c1:=x1.cell 1 _ rfl;have c2:=x1.cell 2 _ rfl;have c3:=x1.cell 3 _ rfl;have c4:=x1.cell 4 _ rfl;have c5:=x1.cell 5 _ rfl;have c6:=x1.cell 6 _ rfl
 have HW:=Aa (GX B b 4 Al nl cl Ar nr cr 0 ⟨#[]⟩ ⟨#[]⟩ A n c ⟨#[32,38,32]⟩ (Cq (Au ta) (Ai ta)) (Cq (AD tb || Au tb) (Ai tb)) w0 HSZ.out (fun o2 W hW hb hl=>HK0.out o2 W hW hb hl) (fun o2 W hW hb hl=>HK1.out o2 W hW hb hl) out _ HV1.out HL1.out (by have:=HLT.out;simp only[Ai]at this;exact this));clear hA0 hS0 hlt0 hti0 hkk0 hw0 e00 e01 e02 e03 e04 e05 e06;clear hA1 hS1 hlt1 hti1 hkk1 hw1 e10 e11 e12 e13 e14 e15 e16
 clear hbl hT hbw hb x1 hl hr hk hkid h ho hg hBs iha ihb ha hb2;go_enter Tryz.func42,Tryz.ntmps42;go_wp2_with fail;refine HW.out.mono ?_;rintro e w6 ⟨rfl,h6,v6⟩;have HP:=Aa (show Ek B b (out++Ai (.both ta tb)) w0 (.returned (.tuple #[])) w6 from ⟨rfl,by
  have e:out++Ai (.both ta tb)=out++((Cq (Au ta) (Ai ta))++(ub ⟨#[32,38,32]⟩++(Cq (AD tb || Au tb) (Ai tb)))):=by simp[ub,Ai]
  rw[e];exact h6,HV1.out.trans v6⟩)
 clear h6 v6;go_wp2_with fail;go_end0
 exact HP.out
theorem VE (ta tb:Tr) (iha:J5 ta) (ihb:J5 tb):J5 (.any ta tb):=by
 intro lv B b vs w1 hri h hBs ho hg out w0 hbw hbl hT;obtain ⟨kd,Al,nl,cl,Ar,nr,cr,op,p,q,A,n,c,rfl⟩:=h.shape;obtain ⟨l',r',ks,e,hl,hr,hk,hl1,hl2,hr1,hr2,hn1,hn2,hkid⟩:=h.parts;have e:GT.mk 5 [] [] 0 ⟨#[]⟩ ⟨#[]⟩ [gt ta,gt tb]=GT.mk kd l' r' op p q ks:=e;injection e with e1 e2 e3 e4 e5 e6 e7
 subst e1 e2 e3 e4 e5 e6 e7;obtain ⟨la,ha⟩:∃l2,right l2 ta:=by
  rw[right]at hri;have:=hri.1;first
  |(
   split at this
   · exact ⟨_,this.2⟩
   · exact ⟨_,this⟩)
  |exact ⟨_,this⟩
 obtain ⟨lb,hb2⟩:∃l2,right l2 tb:=by
  rw[right]at hri;have:=hri.2;first
  |(
   split at this
   · exact ⟨_,this.2⟩
   · exact ⟨_,this⟩)
  |exact ⟨_,this⟩
 obtain ⟨ba0,oa0,t0,k2_0,Al2_0,nl2_0,cl2_0,Ar2_0,nr2_0,cr2_0,op2_0,p2_0,q2_0,A2_0,n2_0,c2_0,hA0,hS0,hlt0,ht0,hti0,e00,e01,e02,e03,e04,e05,e06⟩:=hkid 0 (by rw[<-hk];simp);have ht0:some (gt ta)=some t0:=ht0;injection ht0 with ht0
 subst ht0;have hkk0:=hti0.kindOf;have hw0:=iha la B b _ w1 ha hti0 hBs ho hg;have HK0:=Aa (fun (out:List UInt8) W (hW:Nu.BW B b w0 W) hb hl=>Dr B b 5 Al nl cl Ar nr cr 0 ⟨#[]⟩ ⟨#[]⟩ A n c k2_0 Al2_0 nl2_0 cl2_0 Ar2_0 nr2_0 cr2_0 op2_0 p2_0 q2_0 A2_0 n2_0 c2_0 0 _ w1 hBs (by rw[<-hk];simp) hn1 hn2 ⟨ba0,oa0,hA0,hS0,hlt0,e00,e01,e02,e03,e04,e05,e06⟩ hw0 out W (hbw.trans hW) hb hl);rw[<-hkk0]at HK0
 obtain ⟨ba1,oa1,t1,k2_1,Al2_1,nl2_1,cl2_1,Ar2_1,nr2_1,cr2_1,op2_1,p2_1,q2_1,A2_1,n2_1,c2_1,hA1,hS1,hlt1,ht1,hti1,e10,e11,e12,e13,e14,e15,e16⟩:=hkid 1 (by rw[<-hk];simp);have ht1:some (gt tb)=some t1:=ht1;injection ht1 with ht1
 subst ht1;have hkk1:=hti1.kindOf;have hw1:=ihb lb B b _ w1 hb2 hti1 hBs ho hg;have HK1:=Aa (fun (out:List UInt8) W (hW:Nu.BW B b w0 W) hb hl=>Dr B b 5 Al nl cl Ar nr cr 0 ⟨#[]⟩ ⟨#[]⟩ A n c k2_1 Al2_1 nl2_1 cl2_1 Ar2_1 nr2_1 cr2_1 op2_1 p2_1 q2_1 A2_1 n2_1 c2_1 1 _ w1 hBs (by rw[<-hk];simp) hn1 hn2 ⟨ba1,oa1,hA1,hS1,hlt1,e10,e11,e12,e13,e14,e15,e16⟩ hw1 out W (hbw.trans hW) hb hl);rw[<-hkk1]at HK1;rw[Uc,show Cq false (Ai ta)=Ai ta from rfl]at HK0;rw[Ud]at HK1
 have HSZ:=Aa (Nat.le_trans hBs hbw.size);obtain ⟨x1,hb,hsz⟩:=Av 33 w0 #[.int .i64 5,.slice Al nl cl,.slice Ar nr cr,.int .i64 0,.string ⟨#[]⟩,.string ⟨#[]⟩,.slice A n c];have HL1:=Aa (hbl.below hb);have HV1:=Aa (Nu.BW.of_below (B:=B) (b:=b) hb);have HB1:=Aa hb;have hbn:=FZ hbl;have hgb0:w0.heap.size≠b:=by omega
 have X1:=Aa x1;have HLT:=Aa hT;have c0:=x1.cell 0 _ rfl;have c1:=x1.cell 1 _ rfl;have c2:=x1.cell 2 _ rfl;have c3:=x1.cell 3 _ rfl;have c4:=x1.cell 4 _ rfl;have c5:=x1.cell 5 _ rfl;have c6:=x1.cell 6 _ rfl
 have HW:=Aa (GX B b 5 Al nl cl Ar nr cr 0 ⟨#[]⟩ ⟨#[]⟩ A n c ⟨#[32,124,32]⟩ (Ai ta) (Cq (Au tb) (Ai tb)) w0 HSZ.out (fun o2 W hW hb hl=>HK0.out o2 W hW hb hl) (fun o2 W hW hb hl=>HK1.out o2 W hW hb hl) out _ HV1.out HL1.out (by have:=HLT.out;simp only[Ai]at this;exact this));clear hA0 hS0 hlt0 hti0 hkk0 hw0 e00 e01 e02 e03 e04 e05 e06;clear hA1 hS1 hlt1 hti1 hkk1 hw1 e10 e11 e12 e13 e14 e15 e16;clear hbl hT hbw hb x1 hl hr hk hkid h ho hg hBs iha ihb ha hb2
 go_enter Tryz.func42,Tryz.ntmps42;go_wp2_with fail;refine HW.out.mono ?_;rintro e w6 ⟨rfl,h6,v6⟩;have HP:=Aa (show Ek B b (out++Ai (.any ta tb)) w0 (.returned (.tuple #[])) w6 from ⟨rfl,by
  have e:out++Ai (.any ta tb)=out++((Ai ta)++(ub ⟨#[32,124,32]⟩++(Cq (Au tb) (Ai tb)))):=by simp[ub,Ai]
  rw[e];exact h6,HV1.out.trans v6⟩)
 clear h6 v6;go_wp2_with fail;go_end0
 exact HP.out
theorem So (u:Tr):J5 u:=by
 induction u with
 |leaf b=>
  cases b
  · exact Ur
  · exact VB
 |cmp l o r=>exact Xo l r o
 |deny t ih=>exact VC t ih
 |both a b iha ihb=>exact VD a b iha ihb
 |any a b iha ihb=>exact VE a b iha ihb
end
section
open Go.RowKit
open Lx Ex
theorem Dg.low {S:Nat->Prop} {w:World} {A:Option Addr} {n:Nat} {l:List Mn} (h:Dg S w A n l):Dg (fun b=>b<w.heap.size) w A n l:=by refine ⟨h.1,fun hn=>?_⟩;obtain ⟨b,o,e,h1,hlt,hc⟩:=h.2 hn;exact ⟨b,o,e,hlt,hlt,hc⟩
theorem Bt.low {S:Nat->Prop} {w:World} {t:GT} {vs:List Value} (h:Bt S w t vs):Bt (fun b=>b<w.heap.size) w t vs:=by
 induction h with
 |mk kd op l r p q kids Al Ar A nl cl nr cr n c b o cs h1 h2 h3 h4 h5 h6 h7 h8 h9 h10 h11 h12 ih=> exact Bt.mk kd op l r p q kids Al Ar A nl cl nr cr n c b o cs h1.low h2.low h3 h4 h5 h6 h7 h8 h9 (fun hn=>⟨(h10 hn).1,(h10 hn).2.2,(h10 hn).2.2⟩) h11 ih
def Bw (s:List UInt8) (w:World) (e:Ending) (w':World):Prop:=e=.returned (.string ⟨s.toArray⟩)/\Below w.heap.size w w'
theorem PG (S:Nat->Prop) (A:Option Addr) (n c:Nat) (l:List Mn) (w0:World) (h:Dg S w0 A n l) (hn9:n<=4611686018427387903) (hz:KQ l) (hr:Bd l=false):Calls Tryz.prog 16 #[.slice A n c] w0 (Bw [] w0):=by
 have HR:=Aa (Cm S A n c l w0 h hn9 hz);rw[hr]at HR;clear h hz hr;go_enter Tryz.func16,Tryz.ntmps16;go_wp2_with fail;refine HR.out.mono ?_;rintro e w2 ⟨rfl,b2⟩;have HP:=Aa (show Bw [] w0 (.returned (.string ⟨#[]⟩)) w2 from ⟨rfl,b2⟩);clear b2;go_wp2_with fail;go_ret
 exact HP.out
theorem Jt (S:Nat->Prop) (A:Option Addr) (n c:Nat) (l:List Mn) (w0:World) (h:Dg S w0 A n l) (hn9:n<=4611686018427387903) (hc:n<=c) (hc2:c<=9223372036854775807) (hz:KQ l) (hr:Bd l=true) (hT:(AP true l).length<=140737488355328):Calls Tryz.prog 16 #[.slice A n c] w0 (Bw (AP true l) w0):=by
 have HR:=Aa (Cm S A n c l w0 h hn9 hz);have HM:=Aa h.low;have HT:=Aa hT;rw[hr]at HR;clear h hz hr hT;go_enter Tryz.func16,Tryz.ntmps16;go_wp2_with fail;refine HR.out.mono ?_;rintro e w2 ⟨rfl,b2⟩;have HB:=Aa b2;have hs2:=b2.size;obtain ⟨x1,hb,hsz⟩:=Av 92 w2 #[.pointer none,.slice none 0 0];have HBX:=Aa (HB.out.next hb)
 have HW:=Aa (Ga w2.heap.size w2.heap.size [] A n c l _ ((HM.out.sub (fun k (hk:k<w0.heap.size)=>(⟨by omega,by omega⟩:Lw w2.heap.size w2.heap.size k))).keep (AC.of_below HBX.out)) (Nu.LZ.fresh x1) (by omega) hc hc2 (by have:=HT.out;simpa using this));clear b2 hb;go_wp2_with fail;refine HW.out.mono ?_;rintro e w5 ⟨rfl,h5,v5⟩;have HV5:=Aa v5;have h5:Nu.LZ w5 w2.heap.size w2.heap.size (Lib.byteCells (AP true l)):=h5;clear v5 x1;go_wp2_with fail
 refine (Nu.Fl _ w0.heap.size _ _ _ h5 (by omega) (by omega) (by have:=HV5.out.size;omega)).mono ?_;rintro e w6 ⟨rfl,b6⟩;have HP:=Aa (show Bw (AP true l) w0 (.returned (.string ⟨(AP true l).toArray⟩)) w6 from ⟨rfl,(HBX.out.trans (HV5.out.below (by omega) (by omega) (by omega))).trans b6⟩);clear b6;generalize (AP true l).toArray=oz at *;go_wp2_with fail;go_ret
 exact HP.out
theorem VF {S:Nat->Prop} {t:GT} {kd:Int} {Al:Option Addr} {nl cl:Nat} {Ar:Option Addr} {nr cr:Nat} {op:Int} {p q:ByteArray} {A:Option Addr} {n c:Nat} (w0:World) (h:Bt S w0 t [.int .i64 kd,.slice Al nl cl,.slice Ar nr cr,.int .i64 op,.string p,.string q,.slice A n c]) (hz:Ky t) (hr:AH t 60=false):Calls Tryz.prog 19 #[.agg #[.int .i64 kd,.slice Al nl cl,.slice Ar nr cr,.int .i64 op,.string p,.string q,.slice A n c]] w0 (Bw [] w0):=by
 obtain ⟨x1,hb,hsz⟩:=Av 33 w0 #[.int .i64 kd,.slice Al nl cl,.slice Ar nr cr,.int .i64 op,.string p,.string q,.slice A n c];have HB:=Aa hb;have c0:=x1.cell 0 _ rfl;have c1:=x1.cell 1 _ rfl;have c2:=x1.cell 2 _ rfl;have c3:=x1.cell 3 _ rfl;have c4:=x1.cell 4 _ rfl;have c5:=x1.cell 5 _ rfl;have c6:=x1.cell 6 _ rfl;have HR:=Aa (DD _ (h.keep (AC.of_below hb)) hz);rw[hr]at HR;clear h hz hr x1 hb;go_enter Tryz.func19,Tryz.ntmps19;go_wp2_with fail;refine HR.out.mono ?_
 rintro e w2 ⟨rfl,b2⟩;have HP:=Aa (show Bw [] w0 (.returned (.string ⟨#[]⟩)) w2 from ⟨rfl,HB.out.next b2⟩);clear b2;go_wp2_with fail;go_ret
 exact HP.out
theorem GB {S:Nat->Prop} {u:Tr} {kd:Int} {Al:Option Addr} {nl cl:Nat} {Ar:Option Addr} {nr cr:Nat} {op:Int} {p q:ByteArray} {A:Option Addr} {n c:Nat} (w0:World) (h:Bt S w0 (gt u) [.int .i64 kd,.slice Al nl cl,.slice Ar nr cr,.int .i64 op,.string p,.string q,.slice A n c]) (hz:Ky (gt u)) (hr:right 60 u) (ho:AQ w0) (hT:(Ai u).length<=140737488355328):Calls Tryz.prog 19 #[.agg #[.int .i64 kd,.slice Al nl cl,.slice Ar nr cr,.int .i64 op,.string p,.string q,.slice A n c]] w0 (Bw (Ai u) w0):=by
 obtain ⟨x0,hb0,hsz0⟩:=Av 33 w0 #[.int .i64 kd,.slice Al nl cl,.slice Ar nr cr,.int .i64 op,.string p,.string q,.slice A n c];have HB:=Aa hb0;have X0:=Aa x0;have c0:=x0.cell 0 _ rfl;have c1:=x0.cell 1 _ rfl;have c2:=x0.cell 2 _ rfl;have c3:=x0.cell 3 _ rfl;have c4:=x0.cell 4 _ rfl;have c5:=x0.cell 5 _ rfl;have c6:=x0.cell 6 _ rfl;have HR:=Aa (DD _ (h.keep (AC.of_below hb0)) hz);rw[show AH (gt u) 60=true from (Ez u 60).2 hr]at HR;have HT:=Aa hT;have HU:=Aa hr;have HM:=Aa h.low
 have HO:=Aa ho;clear h hz hr hb0 x0 hT ho;go_enter Tryz.func19,Tryz.ntmps19;go_wp2_with fail;refine HR.out.mono ?_;rintro e w2 ⟨rfl,b2⟩;have hs2:w0.heap.size<w2.heap.size:=by have:=b2.size;omega
 have X2:=Aa (X0.out.next b2);have HB2:=Aa (HB.out.next b2);obtain ⟨x1,hb,hsz⟩:=Av 92 w2 #[.pointer none,.slice none 0 0];have HBX:=Aa (HB2.out.next hb);have hgl:=World.block_lt_of_cell? _ _ (HO.out 0 (by omega))
 have HW:=Aa (So u 60 w2.heap.size w2.heap.size _ _ HU.out ((HM.out.sub (fun k (hk:k<w0.heap.size)=>(⟨by omega,by omega⟩:Lw w2.heap.size w2.heap.size k))).keep (AC.of_below HBX.out)) (by omega) (HO.out.below HBX.out) (⟨by show 0<_;omega,by show 0≠_;omega⟩:Lw w2.heap.size w2.heap.size 0) [] _ (Nu.BW.refl _ _ _) (Nu.LZ.fresh x1) (by have:=HT.out;simpa using this));have X3:=Aa (X2.out.next hb);clear b2 hb c0 c1 c2 c3 c4 c5 c6 hgl;have c0:=X2.out.cell 0 _ rfl
 have c1:=X2.out.cell 1 _ rfl;have c2:=X2.out.cell 2 _ rfl;have c3:=X2.out.cell 3 _ rfl;have c4:=X2.out.cell 4 _ rfl;have c5:=X2.out.cell 5 _ rfl;have c6:=X2.out.cell 6 _ rfl;have d0:=X3.out.cell 0 _ rfl;have d1:=X3.out.cell 1 _ rfl;have d2:=X3.out.cell 2 _ rfl;have d3:=X3.out.cell 3 _ rfl;have d4:=X3.out.cell 4 _ rfl;have d5:=X3.out.cell 5 _ rfl;have d6:=X3.out.cell 6 _ rfl;go_wp2_with fail;refine HW.out.mono ?_;rintro e w5 ⟨rfl,h5,v5⟩;have HV5:=Aa v5
 have h5:Nu.LZ w5 w2.heap.size w2.heap.size (Lib.byteCells (Ai u)):=h5;clear v5 x1 c0 d0 c1 d1 c2 d2 c3 d3 c4 d4 c5 d5 c6 d6;go_wp2_with fail;refine (Nu.Fl _ w0.heap.size _ _ _ h5 (by omega) (by omega) (by have:=HV5.out.size;omega)).mono ?_;rintro e w6 ⟨rfl,b6⟩;have HP:=Aa (show Bw (Ai u) w0 (.returned (.string ⟨(Ai u).toArray⟩)) w6 from ⟨rfl,(HBX.out.trans (HV5.out.below (by omega) (by omega) (by omega))).trans b6⟩);clear b6;generalize (Ai u).toArray=oz at *;go_wp2_with fail
 go_ret
 exact HP.out
theorem Ow {S:Nat->Prop} {u:Tr} {kd:Int} {Al:Option Addr} {nl cl:Nat} {Ar:Option Addr} {nr cr:Nat} {op:Int} {p q:ByteArray} {A:Option Addr} {n c:Nat} (w0:World) (h:Bt S w0 (gt u) [.int .i64 kd,.slice Al nl cl,.slice Ar nr cr,.int .i64 op,.string p,.string q,.slice A n c]) (hz:Ky (gt u)) (h9:nl<=4611686018427387903) (h8:nr<=4611686018427387903) (hcm:Lc (gt u)=true) (hr:right 60 u) (ho:AQ w0) (hT:(Ai u).length<=140737488355328):Calls Tryz.prog 27 #[.agg #[.int .i64 kd,.slice Al nl cl,.slice Ar nr cr,.int .i64 op,.string p,.string q,.slice A n c]] w0 (Bw (Ai u) w0):=by
 obtain ⟨x1,hb,hsz⟩:=Av 33 w0 #[.int .i64 kd,.slice Al nl cl,.slice Ar nr cr,.int .i64 op,.string p,.string q,.slice A n c];have HB:=Aa hb;have X1:=Aa x1;have c0:=x1.cell 0 _ rfl;have c1:=x1.cell 1 _ rfl;have c2:=x1.cell 2 _ rfl;have c3:=x1.cell 3 _ rfl;have c4:=x1.cell 4 _ rfl;have c5:=x1.cell 5 _ rfl;have c6:=x1.cell 6 _ rfl;have HR:=Aa (FT S (gt u) kd Al nl cl Ar nr cr op p q A n c _ (h.keep (AC.of_below hb)) hz h9 h8);rw[hcm]at HR
 have HT:=Aa (fun W (hW:Below w0.heap.size w0 W)=>GB W (h.keep (AC.of_below hW)) hz hr (ho.below hW) hT);clear h hz hr x1 hb hT ho hcm;go_enter Tryz.func27,Tryz.ntmps27;go_wp2_with fail;refine HR.out.mono ?_;rintro e w2 ⟨rfl,b2⟩;have HB2:=Aa (HB.out.next b2);have X2:=Aa (X1.out.next b2);clear b2 c0 c1 c2 c3 c4 c5 c6;have c0:=X2.out.cell 0 _ rfl;have c1:=X2.out.cell 1 _ rfl;have c2:=X2.out.cell 2 _ rfl;have c3:=X2.out.cell 3 _ rfl;have c4:=X2.out.cell 4 _ rfl
 have c5:=X2.out.cell 5 _ rfl;have c6:=X2.out.cell 6 _ rfl;go_wp2_with fail;refine (HT.out _ HB2.out).mono ?_;rintro e w6 ⟨rfl,b6⟩;have HP:=Aa (show Bw (Ai u) w0 (.returned (.string ⟨(Ai u).toArray⟩)) w6 from ⟨rfl,HB2.out.next b6⟩);clear b6;generalize (Ai u).toArray=oz at *;go_wp2_with fail;go_ret
 exact HP.out
end
end Go.Proofs.YtgohmojcopajoaaGreatDoor
