/- Texts of one seat, put together: ExprRx LexFirstM LexAgain LexText LexSpellM LexBytes. -/
import Derived.Test.YtgohmojcopajoaaGreatDoorT25
import Derived.Test.YtgohmojcopajoaaGreatDoorT01
import Derived.Test.YtgohmojcopajoaaGreatDoorT03
import Derived.Lib.Join
set_option linter.unusedVariables false
set_option linter.unusedSimpArgs false
set_option maxRecDepth 100000
set_option maxHeartbeats 16000000
namespace Go.Proofs.YtgohmojcopajoaaGreatDoor
section
open Go.RowKit
open Lx Ex
theorem Ol {S:Nat->Prop} {W0:World} {t:GT} {vs:List Value} (h1:Bt S W0 t vs):Ky t->∀(w0:World) (lv:Int),0<=lv->lv<=60->Below W0.heap.size W0 w0->Calls Tryz.prog 41 #[.agg vs.toArray,.int .i64 lv] w0 (Bq (AH t lv) w0):=by
 induction h1 with
 |mk kd op l r p q kids Al Ar A nl cl nr cr n c ba oa cs g1 g2 g3 g4 g5 g6 g7 g8 g9 g10 g11 g12 ih=>
  intro hsz w0 lv hlv0 hlv1 hb0;have hcmp:=fun W (hW:Below w0.heap.size w0 W)=>FT S (.mk kd l r op p q kids) kd Al nl cl Ar nr cr op p q A n c W ((Bt.mk kd op l r p q kids Al Ar A nl cl nr cr n c ba oa cs g1 g2 g3 g4 g5 g6 g7 g8 g9 g10 g11 g12).keep (AC.of_below (hb0.next hW))) hsz (by cases hsz with|mk _ _ _ _ _ _ _ z1 z2 z3 z4 z5=>rw[<-g1.1];exact z3) (by cases hsz with|mk _ _ _ _ _ _ _ z1 z2 z3 z4 z5=>rw[<-g2.1];exact z4)
  have HC:=Aa hcmp;have HBA:=Aa (fun W=>Oj (.mk kd l r op p q kids) kd Al nl cl Ar nr cr op p q A n c W ⟨l,r,kids,rfl,g1.1,g2.1,g3⟩);have hkz:∀u∈kids,Ky u:=by cases hsz with|mk _ _ _ _ _ _ _ z1 z2 z3 z4 z5=>exact z5
  show Calls _ _ #[.agg #[.int .i64 kd,.slice Al nl cl,.slice Ar nr cr,.int .i64 op,.string p,.string q,.slice A n c],.int .i64 lv] w0 _;obtain ⟨x1,hb,-⟩:=Av 33 w0 #[.int .i64 kd,.slice Al nl cl,.slice Ar nr cr,.int .i64 op,.string p,.string q,.slice A n c];have HB:=Aa hb;have X1:=Aa x1;have zx:=x1.lt;have G10:=Aa g10;have HN:=Aa g3
  have HSTEP:=Aa (show ∀j,j<n->∃(u:GT) (k2:Int) (Al2:Option Addr) (C7 cl2:Nat) (Ar2:Option Addr) (nr2 cr2:Nat) (op2:Int) (p2 q2:ByteArray) (A2:Option Addr) (n2 c2:Nat),kids[j]?=some u/\u.kind=k2/\(∀W,Below w0.heap.size w0 W->W.cell? ⟨ba,oa+j*7,none⟩=some (.int .i64 k2)/\W.cell? ⟨ba,oa+j*7+1,none⟩=some (.slice Al2 C7 cl2)/\W.cell? ⟨ba,oa+j*7+2,none⟩=some (.slice Ar2 nr2 cr2)/\W.cell? ⟨ba,oa+j*7+3,none⟩=some (.int .i64 op2)/\W.cell? ⟨ba,oa+j*7+4,none⟩=some (.string p2)/\W.cell? ⟨ba,oa+j*7+5,none⟩=some (.string q2)/\W.cell? ⟨ba,oa+j*7+6,none⟩=some (.slice A2 n2 c2))/\∀W lw,Below w0.heap.size w0 W->0<=lw->lw<=60->Calls Tryz.prog 41 #[.agg #[.int .i64 k2,.slice Al2 C7 cl2,.slice Ar2 nr2 cr2,.int .i64 op2,.string p2,.string q2,.slice A2 n2 c2],.int .i64 lw] W (Bq (AH u lw) W) from by
    intro j hj;have hk:j<kids.length:=(by omega);have ht:kids[j]?=some kids[j]:=List.getElem?_eq_getElem hk;have hti:=g12 j _ ht;obtain ⟨k2,Al2,C7,cl2,Ar2,nr2,cr2,op2,p2,q2,A2,n2,c2,e1⟩:=hti.shape;have cc1:=(g11 j hj).2;have hr:=fun W lw hW h0 h1=>ih j _ ht (hkz _ (List.getElem_mem hk)) W lw h0 h1 (hb0.next hW)
    rw[e1]at cc1 hti hr;have hkk:(kids[j]).kind=k2:=by obtain ⟨l3,r3,ks3,e3,-⟩:=hti.parts;rw[e3];rfl
    exact ⟨_,k2,Al2,C7,cl2,Ar2,nr2,cr2,op2,p2,q2,A2,n2,c2,ht,hkk,fun W hW=>⟨(Ag (hb0.next hW) (g10 (by omega)).2.2).trans (cc1 0 _ rfl),(Ag (hb0.next hW) (g10 (by omega)).2.2).trans (cc1 1 _ rfl),(Ag (hb0.next hW) (g10 (by omega)).2.2).trans (cc1 2 _ rfl),(Ag (hb0.next hW) (g10 (by omega)).2.2).trans (cc1 3 _ rfl),(Ag (hb0.next hW) (g10 (by omega)).2.2).trans (cc1 4 _ rfl),(Ag (hb0.next hW) (g10 (by omega)).2.2).trans (cc1 5 _ rfl),(Ag (hb0.next hW) (g10 (by omega)).2.2).trans (cc1 6 _ rfl)⟩,hr⟩)
  clear g1 g2 g4 g5 g6 g7 g10 g11 g12 ih hcmp hkz hsz x1 hb hb0 g3;have c0:=X1.out.cell 0 _ rfl;have c1:=X1.out.cell 1 _ rfl;have c2:=X1.out.cell 2 _ rfl;have c3:=X1.out.cell 3 _ rfl;have c4:=X1.out.cell 4 _ rfl;have c5:=X1.out.cell 5 _ rfl;have c6:=X1.out.cell 6 _ rfl;by_cases k2:kd=2
  · have gk:(kd==2)=true:=(by simp[k2]);have HE:=Aa (show AH (.mk kd l r op p q kids) lv=Lc (.mk kd l r op p q kids) from by rw[AH,if_pos k2]);generalize AH (.mk kd l r op p q kids) lv=BB at *;generalize Lc (.mk kd l r op p q kids)=BC at *;clear k2;go_enter Tryz.func41,Tryz.ntmps41;go_wp2_with fail;refine (HC.out _ HB.out).mono ?_;rintro e w2 ⟨rfl,b2⟩;have HP:=Aa (show Bq BB w0 (.returned (.bool BC)) w2 from ⟨by rw[HE.out],HB.out.next b2⟩);clear b2;go_wp2_with fail;go_ret
    exact HP.out
  have gk:(kd==2)=false:=by simpa using k2
  have HK:=Aa (fun W=>P5 kd W);have HE:=Aa (show AH (.mk kd l r op p q kids) lv=(match Cu kd with|none=>false|some m=>decide (n=m)&&Gc (.mk kd l r op p q kids)&&BO kids kd 0 (if kd=3 then lv-1 else lv)) from by rw[AH,if_neg k2,HN.out];cases Cu kd<;>rfl)
  generalize AH (.mk kd l r op p q kids) lv=BB at *;generalize Gc (.mk kd l r op p q kids)=BR at *;unfold Wj at HK;clear k2;cases ha:Cu kd with
  |none=>
    rw[ha]at HE HK;have HE:=Aa (show BB=false from HE.out);go_enter Tryz.func41,Tryz.ntmps41;go_wp2_with fail;refine (HK.out _).mono ?_;rintro e w2 ⟨rfl,b2⟩;have HB2:=Aa (HB.out.next b2);clear b2;go_wp2_with fail;go_ret
    exact ⟨by rw[HE.out];rfl,HB2.out⟩
  |some m=>
  rw[ha]at HE HK;have HE:=Aa (show BB=(decide (n=m)&&BR&&BO kids kd 0 (if kd=3 then lv-1 else lv)) from HE.out);by_cases hm:n=m
  case neg=>
    have HE:=Aa (show BB=false from by rw[HE.out];simp[hm]);have gm:((n:Int) != (m:Int))=true:=(by simp;omega);go_enter Tryz.func41,Tryz.ntmps41;go_wp2_with fail;refine (HK.out _).mono ?_;rintro e w2 ⟨rfl,b2⟩;have HB2:=Aa (HB.out.next b2);have c6:=(X1.out.next b2).cell 6 _ rfl;clear b2 c0 c1 c2 c3 c4 c5;simp only[Option.getD_some,Option.isSome_some];go_wp2_with fail;go_ret
    exact ⟨by rw[HE.out];rfl,HB2.out⟩
  subst hm;have HE:=Aa (show BB=(BR&&BO kids kd 0 (if kd=3 then lv-1 else lv)) from by rw[HE.out];simp);have gm:((n:Int) != (n:Int))=false:=by simp
  have HLV:=Aa (⟨hlv0,hlv1⟩:0<=lv/\lv<=60);clear ha;go_enter Tryz.func41,Tryz.ntmps41;go_wp2_with fail;refine (HK.out _).mono ?_;rintro e w2 ⟨rfl,b2⟩;have HB2:=Aa (HB.out.next b2);have X2:=Aa (X1.out.next b2);clear b2 c0 c1 c2 c3 c4 c5 c6;have c0:=X2.out.cell 0 _ rfl;have c1:=X2.out.cell 1 _ rfl;have c2:=X2.out.cell 2 _ rfl;have c3:=X2.out.cell 3 _ rfl;have c4:=X2.out.cell 4 _ rfl;have c5:=X2.out.cell 5 _ rfl;have c6:=X2.out.cell 6 _ rfl
  simp only[Option.getD_some,Option.isSome_some];go_wp2_with fail;refine (HBA.out _).mono ?_;rintro e w3 ⟨rfl,b3⟩;have HB3:=Aa (HB2.out.next b3);have X3:=Aa (X2.out.next b3);clear b3 c0 c1 c2 c3 c4 c5 c6;have c0:=X3.out.cell 0 _ rfl;have c6:=X3.out.cell 6 _ rfl;cases BR
  · have HE:=Aa (show BB=false from by rw[HE.out];rfl);go_wp2_with fail;go_ret
    exact ⟨by rw[HE.out];rfl,HB3.out⟩
  by_cases k3:kd=3
  · have g3:(kd==3)=true:=(by simp[k3]);have HE:=Aa (show BB=BO kids kd 0 (lv-1) from by rw[HE.out,if_pos k3];rfl);clear k3;go_wp2_with fail;go_loopw [43] (fun i wr=>∃x:Nat,x<=n/\i=.int .i64 x/\Hid (Below w0.heap.size w0 wr)/\Hid (Ap 33 wr w0.heap.size #[.int .i64 kd,.slice Al nl cl,.slice Ar nr cr,.int .i64 op,.string p,.string q,.slice A n c])/\Hid (BB=BO (kids.drop x) kd x (lv-1))) (fun i _=>n-(intOf i).toNat)
    case atStart=>exact ⟨0,Nat.zero_le _,rfl,HB3,X3,HE⟩
    case round=>
     obtain ⟨x,hx,rfl,HR,XR,HER⟩:=hrel;by_cases hxn:x<n
     · obtain ⟨u,k2,Al2,C7,cl2,Ar2,nr2,cr2,op2,p2,q2,A2,n2,c2,hu,huk,hcs,hrec⟩:=HSTEP.out x hxn;have HREC:=Aa hrec;obtain ⟨d0,d1,d2,d3,d4,d5,d6⟩:=hcs wr HR.out;obtain ⟨rfl,-,hba⟩:=G10.out (by omega);have hba2:ba<wr.heap.size:=World.block_lt_of_cell? wr _ d0;have hxa:=XR.out.lt;have c0:=XR.out.cell 0 _ rfl
       have z1:Ap 33 (wr.alloc (.cells #[.int .i64 0,.slice none 0 0,.slice none 0 0,.int .i64 0,.string ⟨#[]⟩,.string ⟨#[]⟩,.slice none 0 0] 33)) wr.heap.size #[.int .i64 0,.slice none 0 0,.slice none 0 0,.int .i64 0,.string ⟨#[]⟩,.string ⟨#[]⟩,.slice none 0 0]:=Ap.new _ _ _;have HEL:=Aa (fun W=>FS kd k2 x W);have HQ:=Aa (show BB=(RS u kd x (lv-1)&&BO (kids.drop (x+1)) kd (x+1) (lv-1)) from by
         rw[HER.out,<-EO];congr 1
         exact List.drop_eq_getElem_cons (by have:=HN.out;omega) |>.trans (by
           have hlt:x<kids.length:=(by have:=HN.out;omega);rw[List.getElem?_eq_getElem hlt]at hu;injection hu with hu
           rw[hu]))
       unfold RS at HQ;rw[huk]at HQ;have g43:(x:Int)<(n:Int):=(by omega);clear hu huk hcs hrec
       go_wp2_with (with_reducible refine Ac rfl 33 _ _ rfl wr.heap.size #[.int .i64 k2,.slice Al2 C7 cl2,.slice Ar2 nr2 cr2,.int .i64 op2,.string p2,.string q2,.slice A2 n2 c2] rfl rfl _ z1 (by kernel_rfl) rfl (by simp[Value.oneCell']) ?_;intro wy ky oy;have HBy:=Aa (show Below wr.heap.size wr wy from (Ae wr _).trans (oy.below (Ae wr _).size (Nat.le_refl _)));have XY:=Aa ky;have c0y:=(XR.out.next HBy.out).cell 0 _ rfl;have y0:=ky.cell 0 _ rfl;clear oy d0 d1 d2 d3 d4 d5 d6 z1 c0)
       refine (HEL.out _).mono ?_;rintro e w4 ⟨rfl,b4⟩;have HB4:=Aa (show Below wr.heap.size wr w4 from HBy.out.trans (b4.mono HBy.out.size));have XR4:=Aa (XR.out.next HB4.out);have HB5:=Aa (HR.out.next HB4.out);have XY4:=Aa (XY.out.next b4);have c0:=XR4.out.cell 0 _ rfl;have y0:=XY4.out.cell 0 _ rfl;have y1:=XY4.out.cell 1 _ rfl;have y2:=XY4.out.cell 2 _ rfl;have y3:=XY4.out.cell 3 _ rfl;have y4:=XY4.out.cell 4 _ rfl;have y5:=XY4.out.cell 5 _ rfl
       have y6:=XY4.out.cell 6 _ rfl;clear b4 c0y ky;generalize AZ kd k2 x=bl at *;have HLV2:=HLV.out;cases bl
       · have HQ:=Aa (show BB=(decide (0<=lv-1)&&AH u (lv-1)&&BO (kids.drop (x+1)) kd (x+1) (lv-1)) from by rw[HQ.out];rfl);by_cases hw:0<=lv-1
         · have gw:¬(lv-1<0):=(by omega);have gw2:decide (lv-1<0)=false:=(by simp;omega);have HQ:=Aa (show BB=(AH u (lv-1)&&BO (kids.drop (x+1)) kd (x+1) (lv-1)) from by rw[HQ.out,decide_eq_true hw,Bool.true_and]);go_wp2_with fail;refine (HREC.out _ _ HB5.out hw (by have:=HLV.out;omega)).mono ?_;rintro e w6 ⟨rfl,b6⟩;have HB6:=Aa (HB5.out.next b6);have XR6:=Aa (XR4.out.next b6);clear b6;generalize AH u (lv-1)=bk at *;cases bk
           · have HE:=Aa (show BB=false from HQ.out);go_wp2_with fail;go_ret
             exact ⟨by rw[HE.out];rfl,HB6.out⟩
           · have HE:=Aa (show BB=BO (kids.drop (x+1)) kd (x+1) (lv-1) from by rw[HQ.out];rfl);go_wp2_with fail;go_roundw
             case rel=>exact ⟨x+1,by omega,by go_num,HB6,XR6,HE⟩
             case measure=>simp[intOf];omega
         · have gw:lv-1<0:=(by omega);have gw2:decide (lv-1<0)=true:=(by simp;omega);have HE:=Aa (show BB=false from by rw[HQ.out,decide_eq_false hw];rfl);go_wp2_with fail;go_ret
           exact ⟨by rw[HE.out];rfl,HB5.out⟩
       · have HQ:=Aa (show BB=(decide (0<=lv-1-1)&&AH u (lv-1-1)&&BO (kids.drop (x+1)) kd (x+1) (lv-1)) from by rw[HQ.out];rfl);by_cases hw:0<=lv-1-1
         · have gw:¬(lv-1-1<0):=(by omega);have gw2:decide (lv-1-1<0)=false:=(by simp;omega);have HQ:=Aa (show BB=(AH u (lv-1-1)&&BO (kids.drop (x+1)) kd (x+1) (lv-1)) from by rw[HQ.out,decide_eq_true hw,Bool.true_and]);go_wp2_with fail;refine (HREC.out _ _ HB5.out hw (by have:=HLV.out;omega)).mono ?_;rintro e w6 ⟨rfl,b6⟩;have HB6:=Aa (HB5.out.next b6);have XR6:=Aa (XR4.out.next b6);clear b6;generalize AH u (lv-1-1)=bk at *;cases bk
           · have HE:=Aa (show BB=false from HQ.out);go_wp2_with fail;go_ret
             exact ⟨by rw[HE.out];rfl,HB6.out⟩
           · have HE:=Aa (show BB=BO (kids.drop (x+1)) kd (x+1) (lv-1) from by rw[HQ.out];rfl);go_wp2_with fail;go_roundw
             case rel=>exact ⟨x+1,by omega,by go_num,HB6,XR6,HE⟩
             case measure=>simp[intOf];omega
         · have gw:lv-1-1<0:=(by omega);have gw2:decide (lv-1-1<0)=true:=(by simp;omega);have HE:=Aa (show BB=false from by rw[HQ.out,decide_eq_false hw];rfl);go_wp2_with fail;go_ret
           exact ⟨by rw[HE.out];rfl,HB5.out⟩
     · obtain rfl:x=n:=(by omega);have HP:=Aa (show Bq BB w0 (.returned (.bool true)) wr from ⟨by rw[HER.out,List.drop_of_length_le (by have:=HN.out;omega),F8],HR.out⟩);go_wp2_with fail;go_ret
       exact HP.out
  · have g3:(kd==3)=false:=(by simpa using k3);have HE:=Aa (show BB=BO kids kd 0 lv from by rw[HE.out,if_neg k3];rfl);clear k3;go_wp2_with fail;go_loopw [43] (fun i wr=>∃x:Nat,x<=n/\i=.int .i64 x/\Hid (Below w0.heap.size w0 wr)/\Hid (Ap 33 wr w0.heap.size #[.int .i64 kd,.slice Al nl cl,.slice Ar nr cr,.int .i64 op,.string p,.string q,.slice A n c])/\Hid (BB=BO (kids.drop x) kd x (lv))) (fun i _=>n-(intOf i).toNat)
    case atStart=>exact ⟨0,Nat.zero_le _,rfl,HB3,X3,HE⟩
    case round=>
     obtain ⟨x,hx,rfl,HR,XR,HER⟩:=hrel;by_cases hxn:x<n
     · obtain ⟨u,k2,Al2,C7,cl2,Ar2,nr2,cr2,op2,p2,q2,A2,n2,c2,hu,huk,hcs,hrec⟩:=HSTEP.out x hxn;have HREC:=Aa hrec;obtain ⟨d0,d1,d2,d3,d4,d5,d6⟩:=hcs wr HR.out;obtain ⟨rfl,-,hba⟩:=G10.out (by omega);have hba2:ba<wr.heap.size:=World.block_lt_of_cell? wr _ d0;have hxa:=XR.out.lt;have c0:=XR.out.cell 0 _ rfl
       have z1:Ap 33 (wr.alloc (.cells #[.int .i64 0,.slice none 0 0,.slice none 0 0,.int .i64 0,.string ⟨#[]⟩,.string ⟨#[]⟩,.slice none 0 0] 33)) wr.heap.size #[.int .i64 0,.slice none 0 0,.slice none 0 0,.int .i64 0,.string ⟨#[]⟩,.string ⟨#[]⟩,.slice none 0 0]:=Ap.new _ _ _;have HEL:=Aa (fun W=>FS kd k2 x W);have HQ:=Aa (show BB=(RS u kd x (lv)&&BO (kids.drop (x+1)) kd (x+1) (lv)) from by
         rw[HER.out,<-EO];congr 1
         exact List.drop_eq_getElem_cons (by have:=HN.out;omega) |>.trans (by
           have hlt:x<kids.length:=(by have:=HN.out;omega);rw[List.getElem?_eq_getElem hlt]at hu;injection hu with hu
           rw[hu]))
       unfold RS at HQ;rw[huk]at HQ;have g43:(x:Int)<(n:Int):=(by omega);clear hu huk hcs hrec
       go_wp2_with (with_reducible refine Ac rfl 33 _ _ rfl wr.heap.size #[.int .i64 k2,.slice Al2 C7 cl2,.slice Ar2 nr2 cr2,.int .i64 op2,.string p2,.string q2,.slice A2 n2 c2] rfl rfl _ z1 (by kernel_rfl) rfl (by simp[Value.oneCell']) ?_;intro wy ky oy;have HBy:=Aa (show Below wr.heap.size wr wy from (Ae wr _).trans (oy.below (Ae wr _).size (Nat.le_refl _)));have XY:=Aa ky;have c0y:=(XR.out.next HBy.out).cell 0 _ rfl;have y0:=ky.cell 0 _ rfl;clear oy d0 d1 d2 d3 d4 d5 d6 z1 c0)
       refine (HEL.out _).mono ?_;rintro e w4 ⟨rfl,b4⟩;have HB4:=Aa (show Below wr.heap.size wr w4 from HBy.out.trans (b4.mono HBy.out.size));have XR4:=Aa (XR.out.next HB4.out);have HB5:=Aa (HR.out.next HB4.out);have XY4:=Aa (XY.out.next b4);have c0:=XR4.out.cell 0 _ rfl;have y0:=XY4.out.cell 0 _ rfl;have y1:=XY4.out.cell 1 _ rfl;have y2:=XY4.out.cell 2 _ rfl;have y3:=XY4.out.cell 3 _ rfl;have y4:=XY4.out.cell 4 _ rfl;have y5:=XY4.out.cell 5 _ rfl
       have y6:=XY4.out.cell 6 _ rfl;clear b4 c0y ky;generalize AZ kd k2 x=bl at *;have HLV2:=HLV.out;cases bl
       · have HQ:=Aa (show BB=(decide (0<=lv)&&AH u (lv)&&BO (kids.drop (x+1)) kd (x+1) (lv)) from by rw[HQ.out];rfl);by_cases hw:0<=lv
         · have gw:¬(lv<0):=(by omega);have gw2:decide (lv<0)=false:=(by simp;omega);have HQ:=Aa (show BB=(AH u (lv)&&BO (kids.drop (x+1)) kd (x+1) (lv)) from by rw[HQ.out,decide_eq_true hw,Bool.true_and]);go_wp2_with fail;refine (HREC.out _ _ HB5.out hw (by have:=HLV.out;omega)).mono ?_;rintro e w6 ⟨rfl,b6⟩;have HB6:=Aa (HB5.out.next b6);have XR6:=Aa (XR4.out.next b6);clear b6;generalize AH u (lv)=bk at *;cases bk
           · have HE:=Aa (show BB=false from HQ.out);go_wp2_with fail;go_ret
             exact ⟨by rw[HE.out];rfl,HB6.out⟩
           · have HE:=Aa (show BB=BO (kids.drop (x+1)) kd (x+1) (lv) from by rw[HQ.out];rfl);go_wp2_with fail;go_roundw
             case rel=>exact ⟨x+1,by omega,by go_num,HB6,XR6,HE⟩
             case measure=>simp[intOf];omega
         · have gw:lv<0:=(by omega);have gw2:decide (lv<0)=true:=(by simp;omega);have HE:=Aa (show BB=false from by rw[HQ.out,decide_eq_false hw];rfl);go_wp2_with fail;go_ret
           exact ⟨by rw[HE.out];rfl,HB5.out⟩
       · have HQ:=Aa (show BB=(decide (0<=lv-1)&&AH u (lv-1)&&BO (kids.drop (x+1)) kd (x+1) (lv)) from by rw[HQ.out];rfl);by_cases hw:0<=lv-1
         · have gw:¬(lv-1<0):=(by omega);have gw2:decide (lv-1<0)=false:=(by simp;omega);have HQ:=Aa (show BB=(AH u (lv-1)&&BO (kids.drop (x+1)) kd (x+1) (lv)) from by rw[HQ.out,decide_eq_true hw,Bool.true_and]);go_wp2_with fail;refine (HREC.out _ _ HB5.out hw (by have:=HLV.out;omega)).mono ?_;rintro e w6 ⟨rfl,b6⟩;have HB6:=Aa (HB5.out.next b6);have XR6:=Aa (XR4.out.next b6);clear b6;generalize AH u (lv-1)=bk at *;cases bk
           · have HE:=Aa (show BB=false from HQ.out);go_wp2_with fail;go_ret
             exact ⟨by rw[HE.out];rfl,HB6.out⟩
           · have HE:=Aa (show BB=BO (kids.drop (x+1)) kd (x+1) (lv) from by rw[HQ.out];rfl);go_wp2_with fail;go_roundw
             case rel=>exact ⟨x+1,by omega,by go_num,HB6,XR6,HE⟩
             case measure=>simp[intOf];omega
         · have gw:lv-1<0:=(by omega);have gw2:decide (lv-1<0)=true:=(by simp;omega);have HE:=Aa (show BB=false from by rw[HQ.out,decide_eq_false hw];rfl);go_wp2_with fail;go_ret
           exact ⟨by rw[HE.out];rfl,HB5.out⟩
     · obtain rfl:x=n:=(by omega);have HP:=Aa (show Bq BB w0 (.returned (.bool true)) wr from ⟨by rw[HER.out,List.drop_of_length_le (by have:=HN.out;omega),F8],HR.out⟩);go_wp2_with fail;go_ret
       exact HP.out
theorem DD {S:Nat->Prop} {t:GT} {kd:Int} {Al:Option Addr} {nl cl:Nat} {Ar:Option Addr} {nr cr:Nat} {op:Int} {p q:ByteArray} {A:Option Addr} {n c:Nat} (w0:World) (h:Bt S w0 t [.int .i64 kd,.slice Al nl cl,.slice Ar nr cr,.int .i64 op,.string p,.string q,.slice A n c]) (hz:Ky t):Calls Tryz.prog 18 #[.agg #[.int .i64 kd,.slice Al nl cl,.slice Ar nr cr,.int .i64 op,.string p,.string q,.slice A n c]] w0 (Bq (AH t 60) w0):=by
 have HR:=Aa (fun W (hW:Below w0.heap.size w0 W)=>Ol h hz W 60 (by omega) (by omega) hW);obtain ⟨x1,hb,-⟩:=Av 33 w0 #[.int .i64 kd,.slice Al nl cl,.slice Ar nr cr,.int .i64 op,.string p,.string q,.slice A n c];have HB:=Aa hb;have c0:=x1.cell 0 _ rfl;have c1:=x1.cell 1 _ rfl;have c2:=x1.cell 2 _ rfl;have c3:=x1.cell 3 _ rfl;have c4:=x1.cell 4 _ rfl;have c5:=x1.cell 5 _ rfl;have c6:=x1.cell 6 _ rfl;clear h hz hb x1;go_enter Tryz.func18,Tryz.ntmps18;go_wp2_with fail
 refine (HR.out _ HB.out).mono ?_;rintro e w2 ⟨rfl,b2⟩;have HP:=Aa (show Bq (AH t 60) w0 (.returned (.bool (AH t 60))) w2 from ⟨rfl,HB.out.next b2⟩);clear b2;generalize AH t 60=BB at *;go_wp2_with fail;go_ret
 exact HP.out
end
end Go.Proofs.YtgohmojcopajoaaGreatDoor
namespace Go.Proofs.YtgohmojcopajoaaGreatDoor.Lx
section
theorem Om {f:Nat->Nat} {n j:Nat}:Bz f n j=100↔Ci (f j)=false/\AV (f j)=false/\DV (f j)=false/\H9 (f j)=false:=by
 unfold Bz;by_cases c1:Ci (f j)=true
 · simp only[if_pos c1];exact ⟨fun h=>by split at h<;>omega,fun h=>by rw[c1]at h;cases h.1⟩
 · have d1:Ci (f j)=false:=(by simpa using c1);simp only[if_neg c1];by_cases c2:AV (f j)=true
   · simp only[if_pos c2];refine ⟨fun h=>?_,fun h=>by rw[c2]at h;cases h.2.1⟩;split at h
     · omega
     · split at h<;>omega
   · have d2:AV (f j)=false:=(by simpa using c2);simp only[if_neg c2];by_cases c3:DV (f j)=true
     · simp only[if_pos c3];exact ⟨(fun h=>by cases h),fun h=>by rw[c3]at h;cases h.2.2.1⟩
     · have d3:DV (f j)=false:=(by simpa using c3);simp only[if_neg c3];by_cases c4:H9 (f j)=true
       · simp only[if_pos c4];exact ⟨(fun h=>by cases h),fun h=>by rw[c4]at h;cases h.2.2.2⟩
       · have d4:H9 (f j)=false:=(by simpa using c4);simp only[if_neg c4];exact ⟨fun _=>⟨d1,d2,d3,d4⟩,fun _=>trivial⟩
def Good (f:Nat->Nat) (n:Nat) (t:Tok):Prop:=t.2.1<n/\Bz f n t.2.1=0/\t.2.2=Ct f n t.2.1/\t.1=AL (f t.2.1)
def Asc (n:Nat):Nat->List Tok->Prop
 |_,[]=>True
 |i,t::ts=>i<=t.2.1/\t.2.1<t.2.2/\t.2.2<=n/\Asc n t.2.2 ts
def lens (ts:List Tok):Nat:=(ts.map fun t=>t.2.2-t.2.1).sum
theorem Asc.lens {n:Nat} (ts:List Tok):∀i,i<=n->Asc n i ts->ts.length<=Lx.lens ts/\i+Lx.lens ts<=n:=by
 induction ts with
 |nil=>intro i hi _;exact ⟨Nat.le_refl _,by show i+0<=n;omega⟩
 |cons t ts ih=>
  intro i hi h;have k:=ih t.2.2 h.2.2.1 h.2.2.2;have e:Lx.lens (t::ts)=t.2.2-t.2.1+Lx.lens ts:=by simp[Lx.lens]
  rw[e];have h1:=h.1;have h2:=h.2.1;have h3:=h.2.2.1;simp only[List.length_cons];omega
theorem P6 (f:Nat->Nat) (n:Nat) (m:Nat):∀(i:Nat) (acc:List Tok),i<=n->n<i+m->(En f n m i acc).code=0 ->
  ∃ts,(En f n m i acc).toks=acc++(ts++[(5,n,n)])/\(∀t∈ts,Good f n t)/\Asc n i ts:=by
 induction m with
 |zero=>intro i acc hi hm;omega
 |succ m ih=>
  intro i acc hi hm hc;have hs:=Qk f (n:=n) (i:=i) false hi;rw[En]at hc ⊢;by_cases c1:skip f n i false=n
  · rw[if_pos c1];exact ⟨[],rfl,(fun t ht=>by cases ht),trivial⟩
  · rw[if_neg c1]at hc ⊢;by_cases c2:Bz f n (skip f n i false)≠0
    · rw[if_pos c2]at hc;exact absurd hc c2
    · rw[if_neg c2]at hc ⊢;have ht:=GD f (n:=n) (i:=skip f n i false) (by omega);obtain ⟨ts,h1,h2,h3⟩:=ih _ _ (by omega) (by omega) hc;refine ⟨(AL (f (skip f n i false)),skip f n i false,Ct f n (skip f n i false))::ts,?_,?_,?_⟩
      · rw[h1];simp
      · intro t h;rcases List.mem_cons.1 h with rfl|h
        · exact ⟨by dsimp only;omega,Decidable.not_not.1 c2,rfl,rfl⟩
        · exact h2 t h
      · exact ⟨hs.1,ht.1,ht.2,h3⟩
theorem P7 (f:Nat->Nat) (n:Nat) (m:Nat):∀(i:Nat) (acc:List Tok),(En f n m i acc).code≠0->(En f n m i acc).toks=[]:=by
 induction m with
 |zero=>intro i acc hc;exact absurd rfl hc
 |succ m ih=>
  intro i acc hc;rw[En]at hc ⊢;by_cases c1:skip f n i false=n
  · rw[if_pos c1]at hc;exact absurd rfl hc
  · rw[if_neg c1]at hc ⊢;by_cases c2:Bz f n (skip f n i false)≠0
    · rw[if_pos c2]
    · rw[if_neg c2]at hc ⊢;exact ih _ _ hc
theorem Ed {f:Nat->Nat} {n:Nat} (hc:(Aj f n).code=0):n<=16384/\∃ts,(Aj f n).toks=ts++[(5,n,n)]/\(∀t∈ts,Good f n t)/\Asc n 0 ts:=by
 unfold Aj at hc ⊢;by_cases c:16384<n
 · rw[if_pos c]at hc;cases hc
 · rw[if_neg c]at hc ⊢;refine ⟨by omega,?_⟩;obtain ⟨ts,h1,h2,h3⟩:=P6 f n (n+1) 0 [] (Nat.zero_le _) (by omega) hc;exact ⟨ts,h1,h2,h3⟩
theorem G6 {f:Nat->Nat} {n:Nat} (hc:(Aj f n).code≠0):(Aj f n).toks=[]:=by
 unfold Aj at hc ⊢;by_cases c:16384<n
 · rw[if_pos c]
 · rw[if_neg c]at hc ⊢;exact P7 f n _ _ _ hc
end
section
def gL (L:List Nat) (j:Nat):Nat:=L.getD j 0
theorem Wk (pre:List Nat) (c:Nat) (rest:List Nat):gL (pre++c::rest) pre.length=c:=by unfold gL;simp
theorem Yk (pre xs rest:List Nat) (j:Nat) (h:j<xs.length):gL (pre++(xs++rest)) (pre.length+j)=gL xs j:=by unfold gL;simp[List.getD_eq_getElem?_getD,List.getElem?_append_right,List.getElem?_append_left h]
def Xf (c:Nat):Bool:=c==32 || c==9 || c==10 || c==35
def pass:List Nat->Bool->Bool
 |[],com=>!com
 |c::cs,com=>if c=10 then pass cs false else if c=35 then pass cs true else if com=false/\c≠32/\c≠9 then false else pass cs com
theorem LO (sep:List Nat):∀(L pre rest:List Nat) (com:Bool),L=pre++(sep++rest)->pass sep com=true->skip (gL L) L.length pre.length com=skip (gL L) L.length (pre.length+sep.length) false:=by
 induction sep with
 |nil=>
  intro L pre rest com hL h;have:com=false:=by simpa[pass] using h
  subst this;rfl
 |cons c cs ih=>
  intro L pre rest com hL h;have e:=IA (gL L) (n:=L.length) (i:=pre.length) com (by rw[hL];simp);have hc:gL L pre.length=c:=by rw[hL];exact Wk _ _ _
  rw[hc]at e;have hl:(pre++[c]).length=pre.length+1:=by simp
  have k:=fun com' hp=>ih L (pre++[c]) rest com' (by rw[hL];simp) hp
  rw[hl,show pre.length+1+cs.length=pre.length+(c::cs).length by simp;omega]at k;rw[pass]at h;by_cases c1:c=10
  · rw[if_pos c1]at e h;exact e.trans (k _ h)
  · rw[if_neg c1]at e h;by_cases c2:c=35
    · rw[if_pos c2]at e h;exact e.trans (k _ h)
    · rw[if_neg c2]at e h;by_cases c3:com=false/\c≠32/\c≠9
      · rw[if_pos c3]at h;cases h
      · rw[if_neg c3]at e h;exact e.trans (k _ h)
theorem Kz {p:Nat->Bool} {g:Nat->Nat} {N:Nat} (k:Nat):∀P,(∀j,j<k->p (g (P+j))=true)->P+k<=N->(P+k=N\/p (g (P+k))=false)->stop p g N P=P+k:=by
 induction k with
 |zero=>
  intro P _ hN he;rcases he with he|he
  · obtain rfl:P=N:=he;exact Fy _ _ _
  · by_cases h:P=N
    · subst h;exact Fy _ _ _
    · rw[Cr _ _ (show P<N by omega),if_neg (by rw[show g P=g (P+0) from rfl,he];exact Bool.false_ne_true)];rfl
 |succ k ih=> intro P h hN he;rw[Cr _ _ (show P<N by omega),if_pos (show p (g P)=true from h 0 (by omega))];rw[ih (P+1) (fun j hj=>by rw[show P+1+j=P+(j+1) by omega];exact h (j+1) (by omega)) (by omega) (by rw[show P+1+k=P+(k+1) by omega];exact he)];omega
theorem Iy (p:Nat->Bool) (f:Nat->Nat) {n:Nat} (m:Nat):∀i,i+m=n->∀j,i<=j->j<stop p f n i->p (f j)=true:=by
 induction m with
 |zero=>
     intro i hi j h1 h2;obtain rfl:i=n:=by omega
     rw[Fy]at h2;omega
 |succ m ih=>
  intro i hi j h1 h2;rw[Cr p f (show i<n by omega)]at h2;by_cases c:p (f i)=true
  · rw[if_pos c]at h2;by_cases e:j=i
    · rw[e];exact c
    · exact ih (i+1) (by omega) j (by omega) h2
  · rw[if_neg c]at h2;omega
theorem RY {c:Nat} (h:Xf c=true):c=32\/c=9\/c=10\/c=35:=by unfold Xf at h;simpa[or_assoc] using h
theorem V0 {f:Nat->Nat} {n a:Nat} (he:Bz f n a=0):Xf (f a)=false:=by
 cases hb:Xf (f a) with
 |false=>rfl
 |true=>
  have h100:Bz f n a=100:=by rw[Om];rcases RY hb with h|h|h|h<;>rw[h]<;>decide
  omega
def Dv (f:Nat->Nat) (t:Tok):List Nat:=(List.range' t.2.1 (t.2.2-t.2.1)).map f
theorem IQ (f:Nat->Nat) (t:Tok):(Dv f t).length=t.2.2-t.2.1:=by simp[Dv]
theorem RZ (f:Nat->Nat) (t:Tok) (j:Nat) (h:j<t.2.2-t.2.1):gL (Dv f t) j=f (t.2.1+j):=by unfold gL Dv;simp[List.getD_eq_getElem?_getD,h]
def Zc (f:Nat->Nat) (ps:List (List Nat×Tok)):List Nat:=(ps.map fun x=>x.1++Dv f x.2).flatten
theorem Sa {g:Nat->Nat} {N q:Nat} (hq:q<N) (h:Xf (g q)=false):skip g N q false=q:=by
 rw[IA g false hq];have h1:g q≠10:=fun e=>by rw[e]at h;cases h
 have h2:g q≠35:=fun e=>by rw[e]at h;cases h
 have h3:g q≠32:=fun e=>by rw[e]at h;cases h
 have h4:g q≠9:=fun e=>by rw[e]at h;cases h
 rw[if_neg h1,if_neg h2,if_pos ⟨rfl,h3,h4⟩]
end
section
def Fi (c k d:Nat):Bool:=if Ci c=true then !Ds d else if AV c=true then !AV d else if DV c=true then true else decide (k=2) || !Gf c d
theorem Sb {f:Nat->Nat} {n a b:Nat} {g:Nat->Nat} {N p:Nat} (ha:a<n) (he:Bz f n a=0) (hb:b=Ct f n a) (h0:∀j,j<b-a->g (p+j)=f (a+j)) (hN:p+(b-a)<=N) (hE:p+(b-a)=N\/Fi (f a) (b-a) (g (p+(b-a)))=true) :
   Bz g N p=0/\Ct g N p=p+(b-a)/\g p=f a:=by
 have hgt:=GD f ha;rw[<-hb]at hgt;have hga:g p=f a:=h0 0 (by omega);unfold Bz at he ⊢;unfold Ct at hb ⊢;unfold Fi at hE;rw[hga];have hsub:p+(b-a)-p=b-a:=by omega
 by_cases c1:Ci (f a)=true
 · simp only[if_pos c1]at he hb hE ⊢;have hs:stop Ds g N p=p+(b-a):=by
     refine Kz (b-a) p (fun j hj=>?_) hN (hE.imp id (fun h=>by simpa using h));rw[h0 j hj];exact Iy Ds f (n:=n) (n-a) a (by omega) _ (by omega) (by omega)
   rw[hs,hsub];rw[<-hb]at he;exact ⟨he,rfl,trivial⟩
 · simp only[if_neg c1]at he hb hE ⊢;by_cases c2:AV (f a)=true
   · simp only[if_pos c2]at he hb hE ⊢;have hs:stop AV g N p=p+(b-a):=by
       refine Kz (b-a) p (fun j hj=>?_) hN (hE.imp id (fun h=>by simpa using h));rw[h0 j hj];exact Iy AV f (n:=n) (n-a) a (by omega) _ (by omega) (by omega)
     rw[hs,hsub];rw[<-hb]at he;exact ⟨he,rfl,trivial⟩
   · simp only[if_neg c2]at he hb hE ⊢;by_cases c3:DV (f a)=true
     · simp only[if_pos c3]at hb ⊢;subst hb;exact ⟨trivial,by omega,trivial⟩
     · simp only[if_neg c3]at he hb hE ⊢;refine ⟨he,?_,trivial⟩;by_cases c4:a+1<n/\Gf (f a) (f (a+1))=true
       · rw[if_pos c4]at hb;rw[h0 1 (by omega),if_pos ⟨by omega,c4.2⟩];omega
       · rw[if_neg c4]at hb;have e1:p+(b-a)=p+1:=(by omega);have e2:b-a=1:=(by omega);rw[e1,e2]at hE;rw[e1,if_neg];rintro ⟨h1,h2⟩;rcases hE with hE|hE
         · omega
         · rw[h2]at hE;simp at hE
def CI (k:Nat) (x:List Nat):Prop:=x≠[]/\Bz (gL x) x.length 0=0/\Ct (gL x) x.length 0=x.length/\AL (gL x 0)=k
abbrev Piece:=List Nat×Nat×List Nat
def AF (ps:List Piece):List Nat:=(ps.map fun x=>x.1++x.2.2).flatten
theorem DF (x:Piece) (ps:List Piece):AF (x::ps)=x.1++(x.2.2++AF ps):=by simp[AF]
theorem BF (ps qs:List Piece):AF (ps++qs)=AF ps++AF qs:=by simp[AF]
def Fits:List Piece->List Nat->Prop
 |[],_=>True
 |x::ps,last=>(∀c cs,AF ps++last=c::cs->Fi (gL x.2.2 0) x.2.2.length c=true)/\Fits ps last
theorem Fits.append {ps qs:List Piece} {last:List Nat} (h:Fits ps (AF qs++last)) (k:Fits qs last):Fits (ps++qs) last:=by
 induction ps with
 |nil=>exact k
 |cons x ps ih=> refine ⟨fun c cs he=>h.1 c cs ?_,ih h.2⟩;rw[<-he];show _=AF (ps++qs)++last;rw[BF,List.append_assoc]
theorem On {k:Nat} {x:List Nat} (h:CI k x):Xf (gL x 0)=false:=V0 h.2.1
theorem Sc {k:Nat} {x:List Nat} (h:CI k x):0<x.length:=List.length_pos_iff.2 h.1
def FU:Nat->List Piece->List Nat
 |_,[]=>[]
 |p,x::ps=>(p+x.1.length)::FU (p+x.1.length+x.2.2.length) ps
theorem Xg (last:List Nat) (hlast:pass last false=true) (ps:List Piece):∀(L pre:List Nat) (m:Nat) (acc:List Tok),L=pre++(AF ps++last) ->
  (∀x∈ps,CI x.2.1 x.2.2/\pass x.1 false=true)->Fits ps last->L.length<pre.length+m ->
  ∃ts',En (gL L) L.length m pre.length acc=⟨acc++(ts'++[(5,L.length,L.length)]),0,0⟩/\ts'.map (fun t=>(t.1,Dv (gL L) t))=ps.map (fun x=>x.2)/\(∀t∈ts',t.2.1<=t.2.2/\t.2.2<=L.length)/\ts'.map (fun t=>t.2.1)=FU pre.length ps:=by
 induction ps with
 |nil=>
  intro L pre m acc hL _ _ hm;have hge:pre.length<=L.length:=by rw[hL,List.length_append];omega
  obtain ⟨k,rfl⟩:∃k,m=k+1:=⟨m-1,by omega⟩;refine ⟨[],?_,rfl,(fun t ht=>by cases ht),rfl⟩;have h1:=LO last L pre [] false (by rw[hL];simp[AF]) hlast;have h2:pre.length+last.length=L.length:=by rw[hL];simp[AF]
  rw[h2,Np]at h1;rw[En,if_pos h1];rfl
 |cons x ps ih=>
  intro L pre m acc hL hps hfit hm;have hge:pre.length<=L.length:=by rw[hL,List.length_append];omega
  obtain ⟨sep,k0,tx⟩:=x;obtain ⟨m,rfl⟩:∃k,m=k+1:=⟨m-1,by omega⟩;obtain ⟨hg,hp⟩:=hps (sep,k0,tx) (List.mem_cons_self ..);dsimp only at hg hp
  have htl:=Sc hg;have hL1:L=pre++(sep++(tx++(AF ps++last))):=by rw[hL,DF];simp
  have hL2:L=(pre++sep)++(tx++(AF ps++last)):=by rw[hL1];simp
  have h1:=LO sep L pre _ false hL1 hp;have hq:(pre++sep).length=pre.length+sep.length:=by simp
  obtain ⟨q,hqq⟩:∃q,q=pre.length+sep.length:=⟨_,rfl⟩;rw[<-hqq]at h1 hq;have hLl:L.length=q+tx.length+(AF ps++last).length:=by rw[hL2,List.length_append,hq,List.length_append];omega
  have h0:∀j,j<tx.length->gL L (q+j)=gL tx (0+j):=by intro j hj;rw[hL2,<-hq,Yk _ _ _ _ hj,Nat.zero_add]
  have hE:q+tx.length=L.length\/Fi (gL tx 0) tx.length (gL L (q+tx.length))=true:=by
    cases hr:AF ps++last with
    |nil=>left;rw[hLl,hr];rfl
    |cons c cs=>
      right
      have hc:gL L (q+tx.length)=c:=by have e:L=(pre++sep++tx)++c::cs:=(by rw[hL2,hr];simp);have el:(pre++sep++tx).length=q+tx.length:=(by rw[List.length_append,hq]);rw[e,<-el];exact Wk _ _ _
      rw[hc];exact hfit.1 c cs hr
  obtain ⟨t1,t2,t3⟩:=Sb (f:=gL tx) (n:=tx.length) (a:=0) (b:=tx.length) (g:=gL L) (N:=L.length) (p:=q) htl hg.2.1 hg.2.2.1.symm h0 (by omega) hE;rw[Nat.sub_zero]at t2;have hnb:Xf (gL L q)=false:=by rw[t3];exact On hg
  have hs:skip (gL L) L.length pre.length false=q:=h1.trans (Sa (by omega) hnb);have hpl:(pre++(sep++tx)).length=q+tx.length:=by rw[<-List.append_assoc,List.length_append,hq]
  obtain ⟨ts',e1,e2,e3,e4⟩:=ih L (pre++(sep++tx)) m (acc++[(k0,q,q+tx.length)]) (by rw[hL1];simp) (fun y hy=>hps y (List.mem_cons_of_mem _ hy)) hfit.2 (by rw[hpl];omega);rw[hpl]at e1 e4;refine ⟨(k0,q,q+tx.length)::ts',?_,?_,?_,?_⟩
  · rw[En,hs,if_neg (by omega),t1,if_neg (fun h=>h rfl),t2,t3,hg.2.2.2,e1];simp
  · rw[List.map_cons,List.map_cons,e2];congr 2
    apply List.ext_getElem
    · rw[IQ];dsimp only;omega
    · intro j hj1 hj2;have h3:(Dv (gL L) (k0,q,q+tx.length))[j]=gL L (q+j):=(by simp[Dv]);rw[h3,h0 j hj2,Nat.zero_add];unfold gL;rw[List.getD_eq_getElem?_getD,List.getElem?_eq_getElem hj2];rfl
  · intro t ht;rcases List.mem_cons.1 ht with rfl|ht
    · dsimp only;omega
    · exact e3 t ht
  · rw[List.map_cons,e4];show q::FU (q+tx.length) ps=(pre.length+sep.length)::FU (pre.length+sep.length+tx.length) ps;rw[hqq]
theorem V1 (ps:List Piece) (last:List Nat) (hlast:pass last false=true) (hps:∀x∈ps,CI x.2.1 x.2.2/\pass x.1 false=true) (hfit:Fits ps last) (hN:(AF ps++last).length<=16384) :
  ∃ts',Aj (gL (AF ps++last)) (AF ps++last).length=⟨ts'++[(5,(AF ps++last).length,(AF ps++last).length)],0,0⟩/\ts'.map (fun t=>(t.1,Dv (gL (AF ps++last)) t))=ps.map (fun x=>x.2)/\(∀t∈ts',t.2.1<=t.2.2/\t.2.2<=(AF ps++last).length)/\ts'.map (fun t=>t.2.1)=FU 0 ps:=by
 unfold Aj;rw[if_neg (by omega)];exact Xg last hlast ps _ [] _ [] rfl hps hfit (by simp)
end
section
def Zd:List (List Nat)->List Nat
 |[]=>[]
 |x::r=>x++(r.map (32::·)).flatten
def Ze:List Tok->List (List Nat×Tok)
 |[]=>[]
 |t::ts=>([],t)::ts.map (fun u=>([32],u))
def lastOf:List Tok->List Nat
 |[]=>[]
 |_::_=>[32]
def Z2 (f g:Nat->Nat) (N:Nat) (ts:List Tok):Prop:=
 ∃ts',Aj g N=⟨ts'++[(5,N,N)],0,0⟩/\ts'.map (fun t=>(t.1,Dv g t))=ts.map (fun t=>(t.1,Dv f t))/\∀t∈ts',t.2.1<=t.2.2/\t.2.2<=N
def Zf (sp:Nat->List Nat):Nat->List Tok->List (List Nat×Tok)
 |_,[]=>[]
 |k,t::ts=>(sp k,t)::Zf sp (k+1) ts
def Z3 (p q:Nat×Nat):Prop:=p.1<q.1\/(p.1=q.1/\p.2<q.2)
end
end Go.Proofs.YtgohmojcopajoaaGreatDoor.Lx
namespace Go.Proofs.YtgohmojcopajoaaGreatDoor
section
open Go.RowKit
open Lx
def Dt (s:ByteArray):List Nat:=s.data.toList.map UInt8.toNat
theorem Dp (s:ByteArray):(Dt s).length=s.size:=by rw[Dt,List.length_map,Array.length_toList];rfl
theorem DG (s:ByteArray):Ab s=gL (Dt s):=by
 funext i
 by_cases h:i<s.size
 · rw[BA s i h];unfold gL Dt;have h2:i<s.data.toList.length:=(by rw[Array.length_toList];exact h);rw[List.getD_eq_getElem?_getD,List.getElem?_map,List.getElem?_eq_getElem h2];simp[ByteArray.getElem_eq_getElem_data]
 · have h2:(Dt s).length<=i:=(by rw[Dp];omega);unfold Ab gL;rw[dif_neg h,List.getD_eq_getElem?_getD,List.getElem?_eq_none h2];rfl
theorem MQ {s t:ByteArray} (h:Dt s=Dt t):s=t:=by apply ByteArray.ext;apply Array.toList_inj.1;exact (List.map_inj_right (fun a b hab=>UInt8.toNat_inj.1 hab)).1 h
theorem G9 (s:ByteArray) (k a b:Nat) (hab:a<=b) (hb:b<=s.size):Dt (s.extract a b)=Dv (Ab s) (k,a,b):=by
 apply List.ext_getElem
 · rw[Dp,IQ,ext_size s a b hab hb]
 · intro j h1 h2;rw[Dp,ext_size s a b hab hb]at h1;have h3:(Dt (s.extract a b))[j]=gL (Dt (s.extract a b)) j:=by
    unfold gL;rw[List.getD_eq_getElem?_getD,List.getElem?_eq_getElem];rfl
   have h4:(Dv (Ab s) (k,a,b))[j]=gL (Dv (Ab s) (k,a,b)) j:=by unfold gL;rw[List.getD_eq_getElem?_getD,List.getElem?_eq_getElem];rfl
   rw[h3,h4,<-DG,RZ _ _ _ h1,CR s a b j hb (by omega)]
def Zg (xs:List ByteArray):ByteArray:=⟨(Lib.join (xs.map (·.data.toList)) [32]).toArray⟩
theorem Sd (f:Nat->Nat) (n:Nat):Dv f (5,n,n)=[]:=by simp[Dv]
end
end Go.Proofs.YtgohmojcopajoaaGreatDoor
