/- Texts of one seat, put together: ExprRx LexFirstM LexAgain LexText LexSpellM LexBytes ExprP ExprQ ExprD ExprTb ShelfB KeepP Build. -/
import Derived.Test.YtgohmojcopajoaaGreatDoorH25
import Derived.Test.YtgohmojcopajoaaGreatDoorH01
import Derived.Test.YtgohmojcopajoaaGreatDoorH03
import Derived.Lib.Join
import Derived.Test.YtgohmojcopajoaaGreatDoorH21
import Derived.Shelf.Strings.Builder1
import Derived.Shelf.Strconv.Itoa3
import Derived.Test.YtgohmojcopajoaaGreatDoorH18
set_option linter.unusedVariables false
set_option linter.unusedSimpArgs false
set_option maxRecDepth 100000
set_option maxHeartbeats 16000000
namespace Go.Proofs.YtgohmojcopajoaaGreatDoor
section
open Go.RowKit
open Lx Ex
theorem NA {S:Nat->Prop} {W0:World} {t:GT} {vs:List Value} (h1:AW S W0 t vs):IK t->∀(w0:World) (lv:Int),0<=lv->lv<=60->Below W0.heap.size W0 w0->Calls Tryz.prog 41 #[.agg vs.toArray,.int .i64 lv] w0 (Av (AF t lv) w0):=by
 induction h1 with
 |mk kd op l r p q kids Al Ar A nl cl nr cr n c ba oa cs g1 g2 g3 g4 g5 g6 g7 g8 g9 g10 g11 g12 ih=>
  intro hsz w0 lv hlv0 hlv1 hb0;have hcmp:=fun W (hW:Below w0.heap.size w0 W)=>F9 S (.mk kd l r op p q kids) kd Al nl cl Ar nr cr op p q A n c W ((AW.mk kd op l r p q kids Al Ar A nl cl nr cr n c ba oa cs g1 g2 g3 g4 g5 g6 g7 g8 g9 g10 g11 g12).keep (AJ.of_below (hb0.next hW))) hsz (by cases hsz with|mk _ _ _ _ _ _ _ z1 z2 z3 z4 z5=>rw[<-g1.1];exact z3) (by cases hsz with|mk _ _ _ _ _ _ _ z1 z2 z3 z4 z5=>rw[<-g2.1];exact z4)
  have HC:=Aa hcmp;have HBA:=Aa (fun W=>N9 (.mk kd l r op p q kids) kd Al nl cl Ar nr cr op p q A n c W ⟨l,r,kids,rfl,g1.1,g2.1,g3⟩);have hkz:∀u∈kids,IK u:=by cases hsz with|mk _ _ _ _ _ _ _ z1 z2 z3 z4 z5=>exact z5
  show Calls _ _ #[.agg #[.int .i64 kd,.slice Al nl cl,.slice Ar nr cr,.int .i64 op,.string p,.string q,.slice A n c],.int .i64 lv] w0 _;obtain ⟨x1,hb,-⟩:=Ap 33 w0 #[.int .i64 kd,.slice Al nl cl,.slice Ar nr cr,.int .i64 op,.string p,.string q,.slice A n c];have HB:=Aa hb;have X1:=Aa x1;have zx:=x1.lt;have G10:=Aa g10;have HN:=Aa g3
  have HSTEP:=Aa (show ∀j,j<n->∃(u:GT) (k2:Int) (Al2:Option Addr) (BO cl2:Nat) (Ar2:Option Addr) (nr2 cr2:Nat) (op2:Int) (p2 q2:ByteArray) (A2:Option Addr) (n2 c2:Nat),kids[j]?=some u/\u.kind=k2/\(∀W,Below w0.heap.size w0 W->W.cell? ⟨ba,oa+j*7,none⟩=some (.int .i64 k2)/\W.cell? ⟨ba,oa+j*7+1,none⟩=some (.slice Al2 BO cl2)/\W.cell? ⟨ba,oa+j*7+2,none⟩=some (.slice Ar2 nr2 cr2)/\W.cell? ⟨ba,oa+j*7+3,none⟩=some (.int .i64 op2)/\W.cell? ⟨ba,oa+j*7+4,none⟩=some (.string p2)/\W.cell? ⟨ba,oa+j*7+5,none⟩=some (.string q2)/\W.cell? ⟨ba,oa+j*7+6,none⟩=some (.slice A2 n2 c2))/\∀W lw,Below w0.heap.size w0 W->0<=lw->lw<=60->Calls Tryz.prog 41 #[.agg #[.int .i64 k2,.slice Al2 BO cl2,.slice Ar2 nr2 cr2,.int .i64 op2,.string p2,.string q2,.slice A2 n2 c2],.int .i64 lw] W (Av (AF u lw) W) from by
    intro j hj;have hk:j<kids.length:=(by omega);have ht:kids[j]?=some kids[j]:=List.getElem?_eq_getElem hk;have hti:=g12 j _ ht;obtain ⟨k2,Al2,BO,cl2,Ar2,nr2,cr2,op2,p2,q2,A2,n2,c2,e1⟩:=hti.shape;have cc1:=(g11 j hj).2;have hr:=fun W lw hW h0 h1=>ih j _ ht (hkz _ (List.getElem_mem hk)) W lw h0 h1 (hb0.next hW)
    rw[e1]at cc1 hti hr;have hkk:(kids[j]).kind=k2:=by obtain ⟨l3,r3,ks3,e3,-⟩:=hti.parts;rw[e3];rfl
    exact ⟨_,k2,Al2,BO,cl2,Ar2,nr2,cr2,op2,p2,q2,A2,n2,c2,ht,hkk,fun W hW=>⟨(Af (hb0.next hW) (g10 (by omega)).2.2).trans (cc1 0 _ rfl),(Af (hb0.next hW) (g10 (by omega)).2.2).trans (cc1 1 _ rfl),(Af (hb0.next hW) (g10 (by omega)).2.2).trans (cc1 2 _ rfl),(Af (hb0.next hW) (g10 (by omega)).2.2).trans (cc1 3 _ rfl),(Af (hb0.next hW) (g10 (by omega)).2.2).trans (cc1 4 _ rfl),(Af (hb0.next hW) (g10 (by omega)).2.2).trans (cc1 5 _ rfl),(Af (hb0.next hW) (g10 (by omega)).2.2).trans (cc1 6 _ rfl)⟩,hr⟩)
  clear g1 g2 g4 g5 g6 g7 g10 g11 g12 ih hcmp hkz hsz x1 hb hb0 g3;have c0:=X1.out.cell 0 _ rfl;have c1:=X1.out.cell 1 _ rfl;have c2:=X1.out.cell 2 _ rfl;have c3:=X1.out.cell 3 _ rfl;have c4:=X1.out.cell 4 _ rfl;have c5:=X1.out.cell 5 _ rfl;have c6:=X1.out.cell 6 _ rfl;by_cases k2:kd=2
  · have gk:(kd==2)=true:=(by simp[k2]);have HE:=Aa (show AF (.mk kd l r op p q kids) lv=Kw (.mk kd l r op p q kids) from by rw[AF,if_pos k2]);generalize AF (.mk kd l r op p q kids) lv=BB at *;generalize Kw (.mk kd l r op p q kids)=BC at *;clear k2;go_enter Tryz.func41,Tryz.ntmps41;go_wp2_with fail;refine (HC.out _ HB.out).mono ?_;rintro e w2 ⟨rfl,b2⟩;have HP:=Aa (show Av BB w0 (.returned (.bool BC)) w2 from ⟨by rw[HE.out],HB.out.next b2⟩);clear b2;go_wp2_with fail;go_ret
    exact HP.out
  have gk:(kd==2)=false:=by simpa using k2
  have HK:=Aa (fun W=>OZ kd W);have HE:=Aa (show AF (.mk kd l r op p q kids) lv=(match Cv kd with|none=>false|some m=>decide (n=m)&&FG (.mk kd l r op p q kids)&&BM kids kd 0 (if kd=3 then lv-1 else lv)) from by rw[AF,if_neg k2,HN.out];cases Cv kd<;>rfl)
  generalize AF (.mk kd l r op p q kids) lv=BB at *;generalize FG (.mk kd l r op p q kids)=BR at *;unfold VU at HK;clear k2;cases ha:Cv kd with
  |none=>
    rw[ha]at HE HK;have HE:=Aa (show BB=false from HE.out);go_enter Tryz.func41,Tryz.ntmps41;go_wp2_with fail;refine (HK.out _).mono ?_;rintro e w2 ⟨rfl,b2⟩;have HB2:=Aa (HB.out.next b2);clear b2;go_wp2_with fail;go_ret
    exact ⟨by rw[HE.out];rfl,HB2.out⟩
  |some m=>
  rw[ha]at HE HK;have HE:=Aa (show BB=(decide (n=m)&&BR&&BM kids kd 0 (if kd=3 then lv-1 else lv)) from HE.out);by_cases hm:n=m
  case neg=>
    have HE:=Aa (show BB=false from by rw[HE.out];simp[hm]);have gm:((n:Int) != (m:Int))=true:=(by simp;omega);go_enter Tryz.func41,Tryz.ntmps41;go_wp2_with fail;refine (HK.out _).mono ?_;rintro e w2 ⟨rfl,b2⟩;have HB2:=Aa (HB.out.next b2);have c6:=(X1.out.next b2).cell 6 _ rfl;clear b2 c0 c1 c2 c3 c4 c5;simp only[Option.getD_some,Option.isSome_some];go_wp2_with fail;go_ret
    exact ⟨by rw[HE.out];rfl,HB2.out⟩
  subst hm;have HE:=Aa (show BB=(BR&&BM kids kd 0 (if kd=3 then lv-1 else lv)) from by rw[HE.out];simp);have gm:((n:Int) != (n:Int))=false:=by simp
  have HLV:=Aa (⟨hlv0,hlv1⟩:0<=lv/\lv<=60);clear ha;go_enter Tryz.func41,Tryz.ntmps41;go_wp2_with fail;refine (HK.out _).mono ?_;rintro e w2 ⟨rfl,b2⟩;have HB2:=Aa (HB.out.next b2);have X2:=Aa (X1.out.next b2);clear b2 c0 c1 c2 c3 c4 c5 c6;have c0:=X2.out.cell 0 _ rfl;have c1:=X2.out.cell 1 _ rfl;have c2:=X2.out.cell 2 _ rfl;have c3:=X2.out.cell 3 _ rfl;have c4:=X2.out.cell 4 _ rfl;have c5:=X2.out.cell 5 _ rfl;have c6:=X2.out.cell 6 _ rfl
  simp only[Option.getD_some,Option.isSome_some];go_wp2_with fail;refine (HBA.out _).mono ?_;rintro e w3 ⟨rfl,b3⟩;have HB3:=Aa (HB2.out.next b3);have X3:=Aa (X2.out.next b3);clear b3 c0 c1 c2 c3 c4 c5 c6;have c0:=X3.out.cell 0 _ rfl;have c6:=X3.out.cell 6 _ rfl;cases BR
  · have HE:=Aa (show BB=false from by rw[HE.out];rfl);go_wp2_with fail;go_ret
    exact ⟨by rw[HE.out];rfl,HB3.out⟩
  by_cases k3:kd=3
  · have g3:(kd==3)=true:=(by simp[k3]);have HE:=Aa (show BB=BM kids kd 0 (lv-1) from by rw[HE.out,if_pos k3];rfl);clear k3;go_wp2_with fail;go_loopw [43] (fun i wr=>∃x:Nat,x<=n/\i=.int .i64 x/\Hid (Below w0.heap.size w0 wr)/\Hid (Am 33 wr w0.heap.size #[.int .i64 kd,.slice Al nl cl,.slice Ar nr cr,.int .i64 op,.string p,.string q,.slice A n c])/\Hid (BB=BM (kids.drop x) kd x (lv-1))) (fun i _=>n-(intOf i).toNat)
    case atStart=>exact ⟨0,Nat.zero_le _,rfl,HB3,X3,HE⟩
    case round=>
     obtain ⟨x,hx,rfl,HR,XR,HER⟩:=hrel;by_cases hxn:x<n
     · obtain ⟨u,k2,Al2,BO,cl2,Ar2,nr2,cr2,op2,p2,q2,A2,n2,c2,hu,huk,hcs,hrec⟩:=HSTEP.out x hxn;have HREC:=Aa hrec;obtain ⟨d0,d1,d2,d3,d4,d5,d6⟩:=hcs wr HR.out;obtain ⟨rfl,-,hba⟩:=G10.out (by omega);have hba2:ba<wr.heap.size:=World.block_lt_of_cell? wr _ d0;have hxa:=XR.out.lt;have c0:=XR.out.cell 0 _ rfl
       have z1:Am 33 (wr.alloc (.cells #[.int .i64 0,.slice none 0 0,.slice none 0 0,.int .i64 0,.string ⟨#[]⟩,.string ⟨#[]⟩,.slice none 0 0] 33)) wr.heap.size #[.int .i64 0,.slice none 0 0,.slice none 0 0,.int .i64 0,.string ⟨#[]⟩,.string ⟨#[]⟩,.slice none 0 0]:=Am.new _ _ _;have HEL:=Aa (fun W=>F8 kd k2 x W);have HQ:=Aa (show BB=(Rk u kd x (lv-1)&&BM (kids.drop (x+1)) kd (x+1) (lv-1)) from by
         rw[HER.out,<-Ez];congr 1
         exact List.drop_eq_getElem_cons (by have:=HN.out;omega) |>.trans (by
           have hlt:x<kids.length:=(by have:=HN.out;omega);rw[List.getElem?_eq_getElem hlt]at hu;injection hu with hu
           rw[hu]))
       unfold Rk at HQ;rw[huk]at HQ;have g43:(x:Int)<(n:Int):=(by omega);clear hu huk hcs hrec
       go_wp2_with (with_reducible refine Ab rfl 33 _ _ rfl wr.heap.size #[.int .i64 k2,.slice Al2 BO cl2,.slice Ar2 nr2 cr2,.int .i64 op2,.string p2,.string q2,.slice A2 n2 c2] rfl rfl _ z1 (by kernel_rfl) rfl (by simp[Value.oneCell']) ?_;intro wy ky oy;have HBy:=Aa (show Below wr.heap.size wr wy from (Ae wr _).trans (oy.below (Ae wr _).size (Nat.le_refl _)));have XY:=Aa ky;have c0y:=(XR.out.next HBy.out).cell 0 _ rfl;have y0:=ky.cell 0 _ rfl;clear oy d0 d1 d2 d3 d4 d5 d6 z1 c0)
       refine (HEL.out _).mono ?_;rintro e w4 ⟨rfl,b4⟩;have HB4:=Aa (show Below wr.heap.size wr w4 from HBy.out.trans (b4.mono HBy.out.size));have XR4:=Aa (XR.out.next HB4.out);have HB5:=Aa (HR.out.next HB4.out);have XY4:=Aa (XY.out.next b4);have c0:=XR4.out.cell 0 _ rfl;have y0:=XY4.out.cell 0 _ rfl;have y1:=XY4.out.cell 1 _ rfl;have y2:=XY4.out.cell 2 _ rfl;have y3:=XY4.out.cell 3 _ rfl;have y4:=XY4.out.cell 4 _ rfl;have y5:=XY4.out.cell 5 _ rfl
       have y6:=XY4.out.cell 6 _ rfl;clear b4 c0y ky;generalize Bh kd k2 x=bl at *;have HLV2:=HLV.out;cases bl
       · have HQ:=Aa (show BB=(decide (0<=lv-1)&&AF u (lv-1)&&BM (kids.drop (x+1)) kd (x+1) (lv-1)) from by rw[HQ.out];rfl);by_cases hw:0<=lv-1
         · have gw:¬(lv-1<0):=(by omega);have gw2:decide (lv-1<0)=false:=(by simp;omega);have HQ:=Aa (show BB=(AF u (lv-1)&&BM (kids.drop (x+1)) kd (x+1) (lv-1)) from by rw[HQ.out,decide_eq_true hw,Bool.true_and]);go_wp2_with fail;refine (HREC.out _ _ HB5.out hw (by have:=HLV.out;omega)).mono ?_;rintro e w6 ⟨rfl,b6⟩;have HB6:=Aa (HB5.out.next b6);have XR6:=Aa (XR4.out.next b6);clear b6;generalize AF u (lv-1)=bk at *;cases bk
           · have HE:=Aa (show BB=false from HQ.out);go_wp2_with fail;go_ret
             exact ⟨by rw[HE.out];rfl,HB6.out⟩
           · have HE:=Aa (show BB=BM (kids.drop (x+1)) kd (x+1) (lv-1) from by rw[HQ.out];rfl);go_wp2_with fail;go_roundw
             case rel=>exact ⟨x+1,by omega,by go_num,HB6,XR6,HE⟩
             case measure=>simp[intOf];omega
         · have gw:lv-1<0:=(by omega);have gw2:decide (lv-1<0)=true:=(by simp;omega);have HE:=Aa (show BB=false from by rw[HQ.out,decide_eq_false hw];rfl);go_wp2_with fail;go_ret
           exact ⟨by rw[HE.out];rfl,HB5.out⟩
       · have HQ:=Aa (show BB=(decide (0<=lv-1-1)&&AF u (lv-1-1)&&BM (kids.drop (x+1)) kd (x+1) (lv-1)) from by rw[HQ.out];rfl);by_cases hw:0<=lv-1-1
         · have gw:¬(lv-1-1<0):=(by omega);have gw2:decide (lv-1-1<0)=false:=(by simp;omega);have HQ:=Aa (show BB=(AF u (lv-1-1)&&BM (kids.drop (x+1)) kd (x+1) (lv-1)) from by rw[HQ.out,decide_eq_true hw,Bool.true_and]);go_wp2_with fail;refine (HREC.out _ _ HB5.out hw (by have:=HLV.out;omega)).mono ?_;rintro e w6 ⟨rfl,b6⟩;have HB6:=Aa (HB5.out.next b6);have XR6:=Aa (XR4.out.next b6);clear b6;generalize AF u (lv-1-1)=bk at *;cases bk
           · have HE:=Aa (show BB=false from HQ.out);go_wp2_with fail;go_ret
             exact ⟨by rw[HE.out];rfl,HB6.out⟩
           · have HE:=Aa (show BB=BM (kids.drop (x+1)) kd (x+1) (lv-1) from by rw[HQ.out];rfl);go_wp2_with fail;go_roundw
             case rel=>exact ⟨x+1,by omega,by go_num,HB6,XR6,HE⟩
             case measure=>simp[intOf];omega
         · have gw:lv-1-1<0:=(by omega);have gw2:decide (lv-1-1<0)=true:=(by simp;omega);have HE:=Aa (show BB=false from by rw[HQ.out,decide_eq_false hw];rfl);go_wp2_with fail;go_ret
           exact ⟨by rw[HE.out];rfl,HB5.out⟩
     · obtain rfl:x=n:=(by omega);have HP:=Aa (show Av BB w0 (.returned (.bool true)) wr from ⟨by rw[HER.out,List.drop_of_length_le (by have:=HN.out;omega),EZ],HR.out⟩);go_wp2_with fail;go_ret
       exact HP.out
  · have g3:(kd==3)=false:=(by simpa using k3);have HE:=Aa (show BB=BM kids kd 0 lv from by rw[HE.out,if_neg k3];rfl);clear k3;go_wp2_with fail;go_loopw [43] (fun i wr=>∃x:Nat,x<=n/\i=.int .i64 x/\Hid (Below w0.heap.size w0 wr)/\Hid (Am 33 wr w0.heap.size #[.int .i64 kd,.slice Al nl cl,.slice Ar nr cr,.int .i64 op,.string p,.string q,.slice A n c])/\Hid (BB=BM (kids.drop x) kd x (lv))) (fun i _=>n-(intOf i).toNat)
    case atStart=>exact ⟨0,Nat.zero_le _,rfl,HB3,X3,HE⟩
    case round=>
     obtain ⟨x,hx,rfl,HR,XR,HER⟩:=hrel;by_cases hxn:x<n
     · obtain ⟨u,k2,Al2,BO,cl2,Ar2,nr2,cr2,op2,p2,q2,A2,n2,c2,hu,huk,hcs,hrec⟩:=HSTEP.out x hxn;have HREC:=Aa hrec;obtain ⟨d0,d1,d2,d3,d4,d5,d6⟩:=hcs wr HR.out;obtain ⟨rfl,-,hba⟩:=G10.out (by omega);have hba2:ba<wr.heap.size:=World.block_lt_of_cell? wr _ d0;have hxa:=XR.out.lt;have c0:=XR.out.cell 0 _ rfl
       have z1:Am 33 (wr.alloc (.cells #[.int .i64 0,.slice none 0 0,.slice none 0 0,.int .i64 0,.string ⟨#[]⟩,.string ⟨#[]⟩,.slice none 0 0] 33)) wr.heap.size #[.int .i64 0,.slice none 0 0,.slice none 0 0,.int .i64 0,.string ⟨#[]⟩,.string ⟨#[]⟩,.slice none 0 0]:=Am.new _ _ _;have HEL:=Aa (fun W=>F8 kd k2 x W);have HQ:=Aa (show BB=(Rk u kd x (lv)&&BM (kids.drop (x+1)) kd (x+1) (lv)) from by
         rw[HER.out,<-Ez];congr 1
         exact List.drop_eq_getElem_cons (by have:=HN.out;omega) |>.trans (by
           have hlt:x<kids.length:=(by have:=HN.out;omega);rw[List.getElem?_eq_getElem hlt]at hu;injection hu with hu
           rw[hu]))
       unfold Rk at HQ;rw[huk]at HQ;have g43:(x:Int)<(n:Int):=(by omega);clear hu huk hcs hrec
       go_wp2_with (with_reducible refine Ab rfl 33 _ _ rfl wr.heap.size #[.int .i64 k2,.slice Al2 BO cl2,.slice Ar2 nr2 cr2,.int .i64 op2,.string p2,.string q2,.slice A2 n2 c2] rfl rfl _ z1 (by kernel_rfl) rfl (by simp[Value.oneCell']) ?_;intro wy ky oy;have HBy:=Aa (show Below wr.heap.size wr wy from (Ae wr _).trans (oy.below (Ae wr _).size (Nat.le_refl _)));have XY:=Aa ky;have c0y:=(XR.out.next HBy.out).cell 0 _ rfl;have y0:=ky.cell 0 _ rfl;clear oy d0 d1 d2 d3 d4 d5 d6 z1 c0)
       refine (HEL.out _).mono ?_;rintro e w4 ⟨rfl,b4⟩;have HB4:=Aa (show Below wr.heap.size wr w4 from HBy.out.trans (b4.mono HBy.out.size));have XR4:=Aa (XR.out.next HB4.out);have HB5:=Aa (HR.out.next HB4.out);have XY4:=Aa (XY.out.next b4);have c0:=XR4.out.cell 0 _ rfl;have y0:=XY4.out.cell 0 _ rfl;have y1:=XY4.out.cell 1 _ rfl;have y2:=XY4.out.cell 2 _ rfl;have y3:=XY4.out.cell 3 _ rfl;have y4:=XY4.out.cell 4 _ rfl;have y5:=XY4.out.cell 5 _ rfl
       have y6:=XY4.out.cell 6 _ rfl;clear b4 c0y ky;generalize Bh kd k2 x=bl at *;have HLV2:=HLV.out;cases bl
       · have HQ:=Aa (show BB=(decide (0<=lv)&&AF u (lv)&&BM (kids.drop (x+1)) kd (x+1) (lv)) from by rw[HQ.out];rfl);by_cases hw:0<=lv
         · have gw:¬(lv<0):=(by omega);have gw2:decide (lv<0)=false:=(by simp;omega);have HQ:=Aa (show BB=(AF u (lv)&&BM (kids.drop (x+1)) kd (x+1) (lv)) from by rw[HQ.out,decide_eq_true hw,Bool.true_and]);go_wp2_with fail;refine (HREC.out _ _ HB5.out hw (by have:=HLV.out;omega)).mono ?_;rintro e w6 ⟨rfl,b6⟩;have HB6:=Aa (HB5.out.next b6);have XR6:=Aa (XR4.out.next b6);clear b6;generalize AF u (lv)=bk at *;cases bk
           · have HE:=Aa (show BB=false from HQ.out);go_wp2_with fail;go_ret
             exact ⟨by rw[HE.out];rfl,HB6.out⟩
           · have HE:=Aa (show BB=BM (kids.drop (x+1)) kd (x+1) (lv) from by rw[HQ.out];rfl);go_wp2_with fail;go_roundw
             case rel=>exact ⟨x+1,by omega,by go_num,HB6,XR6,HE⟩
             case measure=>simp[intOf];omega
         · have gw:lv<0:=(by omega);have gw2:decide (lv<0)=true:=(by simp;omega);have HE:=Aa (show BB=false from by rw[HQ.out,decide_eq_false hw];rfl);go_wp2_with fail;go_ret
           exact ⟨by rw[HE.out];rfl,HB5.out⟩
       · have HQ:=Aa (show BB=(decide (0<=lv-1)&&AF u (lv-1)&&BM (kids.drop (x+1)) kd (x+1) (lv)) from by rw[HQ.out];rfl);by_cases hw:0<=lv-1
         · have gw:¬(lv-1<0):=(by omega);have gw2:decide (lv-1<0)=false:=(by simp;omega);have HQ:=Aa (show BB=(AF u (lv-1)&&BM (kids.drop (x+1)) kd (x+1) (lv)) from by rw[HQ.out,decide_eq_true hw,Bool.true_and]);go_wp2_with fail;refine (HREC.out _ _ HB5.out hw (by have:=HLV.out;omega)).mono ?_;rintro e w6 ⟨rfl,b6⟩;have HB6:=Aa (HB5.out.next b6);have XR6:=Aa (XR4.out.next b6);clear b6;generalize AF u (lv-1)=bk at *;cases bk
           · have HE:=Aa (show BB=false from HQ.out);go_wp2_with fail;go_ret
             exact ⟨by rw[HE.out];rfl,HB6.out⟩
           · have HE:=Aa (show BB=BM (kids.drop (x+1)) kd (x+1) (lv) from by rw[HQ.out];rfl);go_wp2_with fail;go_roundw
             case rel=>exact ⟨x+1,by omega,by go_num,HB6,XR6,HE⟩
             case measure=>simp[intOf];omega
         · have gw:lv-1<0:=(by omega);have gw2:decide (lv-1<0)=true:=(by simp;omega);have HE:=Aa (show BB=false from by rw[HQ.out,decide_eq_false hw];rfl);go_wp2_with fail;go_ret
           exact ⟨by rw[HE.out];rfl,HB5.out⟩
     · obtain rfl:x=n:=(by omega);have HP:=Aa (show Av BB w0 (.returned (.bool true)) wr from ⟨by rw[HER.out,List.drop_of_length_le (by have:=HN.out;omega),EZ],HR.out⟩);go_wp2_with fail;go_ret
       exact HP.out
theorem Fb {S:Nat->Prop} {t:GT} {kd:Int} {Al:Option Addr} {nl cl:Nat} {Ar:Option Addr} {nr cr:Nat} {op:Int} {p q:ByteArray} {A:Option Addr} {n c:Nat} (w0:World) (h:AW S w0 t [.int .i64 kd,.slice Al nl cl,.slice Ar nr cr,.int .i64 op,.string p,.string q,.slice A n c]) (hz:IK t):Calls Tryz.prog 18 #[.agg #[.int .i64 kd,.slice Al nl cl,.slice Ar nr cr,.int .i64 op,.string p,.string q,.slice A n c]] w0 (Av (AF t 60) w0):=by
 have HR:=Aa (fun W (hW:Below w0.heap.size w0 W)=>NA h hz W 60 (by omega) (by omega) hW);obtain ⟨x1,hb,-⟩:=Ap 33 w0 #[.int .i64 kd,.slice Al nl cl,.slice Ar nr cr,.int .i64 op,.string p,.string q,.slice A n c];have HB:=Aa hb;have c0:=x1.cell 0 _ rfl;have c1:=x1.cell 1 _ rfl;have c2:=x1.cell 2 _ rfl;have c3:=x1.cell 3 _ rfl;have c4:=x1.cell 4 _ rfl;have c5:=x1.cell 5 _ rfl;have c6:=x1.cell 6 _ rfl;clear h hz hb x1;go_enter Tryz.func18,Tryz.ntmps18;go_wp2_with fail
 refine (HR.out _ HB.out).mono ?_;rintro e w2 ⟨rfl,b2⟩;have HP:=Aa (show Av (AF t 60) w0 (.returned (.bool (AF t 60))) w2 from ⟨rfl,HB.out.next b2⟩);clear b2;generalize AF t 60=BB at *;go_wp2_with fail;go_ret
 exact HP.out
end
end Go.Proofs.YtgohmojcopajoaaGreatDoor
namespace Go.Proofs.YtgohmojcopajoaaGreatDoor.Lx
section
def Good (f:Nat->Nat) (n:Nat) (t:Tok):Prop:=t.2.1<n/\Cl f n t.2.1=0/\t.2.2=Dg f n t.2.1/\t.1=AY (f t.2.1)
def Asc (n:Nat):Nat->List Tok->Prop
 |_,[]=>True
 |i,t::ts=>i<=t.2.1/\t.2.1<t.2.2/\t.2.2<=n/\Asc n t.2.2 ts
def lens (ts:List Tok):Nat:=(ts.map fun t=>t.2.2-t.2.1).sum
theorem Asc.lens {n:Nat} (ts:List Tok):∀i,i<=n->Asc n i ts->ts.length<=Lx.lens ts/\i+Lx.lens ts<=n:=by
 induction ts with
 |nil=>intro i hi _;exact ⟨Nat.le_refl _,by show i+0<=n;omega⟩
 |cons t ts ih=>
  intro i hi h;have k:=ih t.2.2 h.2.2.1 h.2.2.2;have e:Lx.lens (t::ts)=t.2.2-t.2.1+Lx.lens ts:=by simp[Lx.lens]
  rw[e];have h1:=h.1;have h2:=h.2.1;have h3:=h.2.2.1;simp only[List.length_cons];omega
theorem Pa (f:Nat->Nat) (n:Nat) (m:Nat):∀(i:Nat) (acc:List Tok),i<=n->n<i+m->(EP f n m i acc).code=0 ->
  ∃ts,(EP f n m i acc).toks=acc++(ts++[(5,n,n)])/\(∀t∈ts,Good f n t)/\Asc n i ts:=by
 induction m with
 |zero=>intro i acc hi hm;omega
 |succ m ih=>
  intro i acc hi hm hc;have hs:=PD f (n:=n) (i:=i) false hi;rw[EP]at hc ⊢;by_cases c1:skip f n i false=n
  · rw[if_pos c1];exact ⟨[],rfl,(fun t ht=>by cases ht),trivial⟩
  · rw[if_neg c1]at hc ⊢;by_cases c2:Cl f n (skip f n i false)≠0
    · rw[if_pos c2]at hc;exact absurd hc c2
    · rw[if_neg c2]at hc ⊢;have ht:=Ii f (n:=n) (i:=skip f n i false) (by omega);obtain ⟨ts,h1,h2,h3⟩:=ih _ _ (by omega) (by omega) hc;refine ⟨(AY (f (skip f n i false)),skip f n i false,Dg f n (skip f n i false))::ts,?_,?_,?_⟩
      · rw[h1];simp
      · intro t h;rcases List.mem_cons.1 h with rfl|h
        · exact ⟨by dsimp only;omega,Decidable.not_not.1 c2,rfl,rfl⟩
        · exact h2 t h
      · exact ⟨hs.1,ht.1,ht.2,h3⟩
theorem Pb (f:Nat->Nat) (n:Nat) (m:Nat):∀(i:Nat) (acc:List Tok),(EP f n m i acc).code≠0->(EP f n m i acc).toks=[]:=by
 induction m with
 |zero=>intro i acc hc;exact absurd rfl hc
 |succ m ih=>
  intro i acc hc;rw[EP]at hc ⊢;by_cases c1:skip f n i false=n
  · rw[if_pos c1]at hc;exact absurd rfl hc
  · rw[if_neg c1]at hc ⊢;by_cases c2:Cl f n (skip f n i false)≠0
    · rw[if_pos c2]
    · rw[if_neg c2]at hc ⊢;exact ih _ _ hc
theorem EF {f:Nat->Nat} {n:Nat} (hc:(Aw f n).code=0):n<=16384/\∃ts,(Aw f n).toks=ts++[(5,n,n)]/\(∀t∈ts,Good f n t)/\Asc n 0 ts:=by
 unfold Aw at hc ⊢;by_cases c:16384<n
 · rw[if_pos c]at hc;cases hc
 · rw[if_neg c]at hc ⊢;refine ⟨by omega,?_⟩;obtain ⟨ts,h1,h2,h3⟩:=Pa f n (n+1) 0 [] (Nat.zero_le _) (by omega) hc;exact ⟨ts,h1,h2,h3⟩
theorem Gi {f:Nat->Nat} {n:Nat} (hc:(Aw f n).code≠0):(Aw f n).toks=[]:=by
 unfold Aw at hc ⊢;by_cases c:16384<n
 · rw[if_pos c]
 · rw[if_neg c]at hc ⊢;exact Pb f n _ _ _ hc
end
section
def gL (L:List Nat) (j:Nat):Nat:=L.getD j 0
def ZV (c:Nat):Bool:=c==32 || c==9 || c==10 || c==35
def pass:List Nat->Bool->Bool
 |[],com=>!com
 |c::cs,com=>if c=10 then pass cs false else if c=35 then pass cs true else if com=false/\c≠32/\c≠9 then false else pass cs com
theorem NC (p:Nat->Bool) (f:Nat->Nat) {n:Nat} (m:Nat):∀i,i+m=n->∀j,i<=j->j<stop p f n i->p (f j)=true:=by
 induction m with
 |zero=>
     intro i hi j h1 h2;obtain rfl:i=n:=by omega
     rw[Hf]at h2;omega
 |succ m ih=>
  intro i hi j h1 h2;rw[CY p f (show i<n by omega)]at h2;by_cases c:p (f i)=true
  · rw[if_pos c]at h2;by_cases e:j=i
    · rw[e];exact c
    · exact ih (i+1) (by omega) j (by omega) h2
  · rw[if_neg c]at h2;omega
def Uf (f:Nat->Nat) (t:Tok):List Nat:=(List.range' t.2.1 (t.2.2-t.2.1)).map f
def YT (f:Nat->Nat) (ps:List (List Nat×Tok)):List Nat:=(ps.map fun x=>x.1++Uf f x.2).flatten
end
section
def Vu (c k d:Nat):Bool:=if CU c=true then !DK d else if Bq c=true then !Bq d else if Fh c=true then true else decide (k=2) || !Ih c d
def XI (k:Nat) (x:List Nat):Prop:=x≠[]/\Cl (gL x) x.length 0=0/\Dg (gL x) x.length 0=x.length/\AY (gL x 0)=k
abbrev Piece:=List Nat×Nat×List Nat
def Lu (ps:List Piece):List Nat:=(ps.map fun x=>x.1++x.2.2).flatten
theorem Pd (x:Piece) (ps:List Piece):Lu (x::ps)=x.1++(x.2.2++Lu ps):=by simp[Lu]
def Fits:List Piece->List Nat->Prop
 |[],_=>True
 |x::ps,last=>(∀c cs,Lu ps++last=c::cs->Vu (gL x.2.2 0) x.2.2.length c=true)/\Fits ps last
def WO:Nat->List Piece->List Nat
 |_,[]=>[]
 |p,x::ps=>(p+x.1.length)::WO (p+x.1.length+x.2.2.length) ps
end
section
def YU:List (List Nat)->List Nat
 |[]=>[]
 |x::r=>x++(r.map (32::·)).flatten
def YV:List Tok->List (List Nat×Tok)
 |[]=>[]
 |t::ts=>([],t)::ts.map (fun u=>([32],u))
def lastOf:List Tok->List Nat
 |[]=>[]
 |_::_=>[32]
def Zu (f g:Nat->Nat) (N:Nat) (ts:List Tok):Prop:=
 ∃ts',Aw g N=⟨ts'++[(5,N,N)],0,0⟩/\ts'.map (fun t=>(t.1,Uf g t))=ts.map (fun t=>(t.1,Uf f t))/\∀t∈ts',t.2.1<=t.2.2/\t.2.2<=N
def YW (sp:Nat->List Nat):Nat->List Tok->List (List Nat×Tok)
 |_,[]=>[]
 |k,t::ts=>(sp k,t)::YW sp (k+1) ts
def Zv (p q:Nat×Nat):Prop:=p.1<q.1\/(p.1=q.1/\p.2<q.2)
end
end Go.Proofs.YtgohmojcopajoaaGreatDoor.Lx
namespace Go.Proofs.YtgohmojcopajoaaGreatDoor
section
open Go.RowKit
open Lx
def ZJ (s:ByteArray):List Nat:=s.data.toList.map UInt8.toNat
def YX (xs:List ByteArray):ByteArray:=⟨(Lib.join (xs.map (·.data.toList)) [32]).toArray⟩
end
end Go.Proofs.YtgohmojcopajoaaGreatDoor
namespace Go.Proofs.YtgohmojcopajoaaGreatDoor.Ex
section
open Lx
def bp (p:PT):Nat×List Nat:=(p.1,ZJ p.2)
def mk (s0:List Nat) (p:PT):Piece:=(s0,bp p)
def start (c:Nat):Bool:=CU c || Bq c || c==45 || c==33 || c==40
def Vv (d:Nat):Bool:=!DK d&&!Bq d&&d != 62&&d != 61&&d != 46
def ZW (r:List Nat):Prop:=∀c cs,r=c::cs->Vv c=true
def WP (m:Mn) (s0:List Nat):List Piece:=if m.num=eS then [mk s0 (1,m.var)] else if m.var=eS then [mk s0 (3,m.num)] else [mk s0 (3,m.num),mk [] (sg 42),mk [] (1,m.var)]
def WQ (l:List Mn):List Piece:=(l.map fun m=>mk [32] (sg (if m.neg then 45 else 43))::WP m [32]).flatten
def VW:List Mn->List Nat->List Piece
 |[],_=>[]
 |m::l,s0=>(if m.neg then mk s0 (sg 45)::WP m [] else WP m s0)++WQ l
def Qj (c:Bool) (g:List Nat->List Piece) (s0:List Nat):List Piece:=if c then mk s0 (sg 40)::(g []++[mk [] (sg 41)]) else g s0
def Ug:Tr->List Nat->List Piece
 |.leaf true,s0=>[mk s0 (1,⟨#[116,114,117,101]⟩)]
 |.leaf false,s0=>[mk s0 (1,⟨#[102,97,108,115,101]⟩)]
 |.cmp l op r,s0=>VW l s0++mk [32] (2,Ff op)::VW r [32]
 |.deny t,s0=>mk s0 (sg 33)::Qj (Bi t || AR t) (Ug t) []
 |.both a b,s0=>Qj (AR a) (Ug a) s0++mk [32] (sg 38)::Qj (Bi b || AR b) (Ug b) [32]
 |.any a b,s0=>Ug a s0++mk [32] (sg 124)::Qj (AR b) (Ug b) [32]
def YY (g:List Nat->List Piece):Prop:=∃k c cs ps,(∀s0,g s0=(s0,k,c::cs)::ps)/\start c=true
end
section
open Lx
def Zw (x:Piece):Prop:=XI x.2.1 x.2.2/\pass x.1 false=true
end
section
open Lx
def VX:List Bool->List PT
 |[]=>[(1,⟨#[116,114,117,101]⟩)]
 |false::bs=>sg 40::(VX bs++[sg 41])
 |true::bs=>sg 33::VX bs
def VY:List Bool->Tr
 |[]=>.leaf true
 |false::bs=>VY bs
 |true::bs=>.deny (VY bs)
def Uh:Nat->List Bool->List PT
 |0,_=>[]
 |_+1,[]=>[]
 |k+1,false::bs=>Uh k bs++[sg 41]
 |k+1,true::bs=>Uh k bs
def ZX (o:ByteArray) (t:Tok):PT:=(t.1,o.extract t.2.1 t.2.2)
def Ui:List Bool->List Piece
 |[]=>[mk [] (1,⟨#[116,114,117,101]⟩)]
 |false::bs=>mk [] (sg 40)::(Ui bs++[mk [] (sg 41)])
 |true::bs=>mk [] (sg 33)::Ui bs
end
section
open Lx
def ub (s:ByteArray):List UInt8:=s.data.toList
def YZ (l:List UInt8):List Nat:=l.map UInt8.toNat
theorem VZ (l:List UInt8):ub ⟨l.toArray⟩=l:=by simp[ub]
def Uj (m:Mn):List UInt8:=ub m.num++((if m.num≠eS/\m.var≠eS then [42] else [])++ub m.var)
def Uk (first neg:Bool):List UInt8:=if first then (if neg then [45] else []) else (if neg then [32,45,32] else [32,43,32])
def Cb:Bool->List Mn->List UInt8
 |_,[]=>[]
 |f,m::l=>Uk f m.neg++(Uj m++Cb false l)
def Dr (c:Bool) (l:List UInt8):List UInt8:=if c then 40::(l++[41]) else l
def AC:Tr->List UInt8
 |.leaf true=>[116,114,117,101]
 |.leaf false=>[102,97,108,115,101]
 |.cmp l op r=>Cb true l++(32::(ub (Ff op)++32::Cb true r))
 |.deny t=>33::Dr (Bi t || AR t) (AC t)
 |.both a b=>Dr (AR a) (AC a)++([32,38,32]++Dr (Bi b || AR b) (AC b))
 |.any a b=>AC a++([32,124,32]++Dr (AR b) (AC b))
theorem JI (s0:List Nat) (p:PT) (ps:List Piece):Lu (mk s0 p::ps)=s0++(YZ (ub p.2)++Lu ps):=by rw[Pd];rfl
end
end Go.Proofs.YtgohmojcopajoaaGreatDoor.Ex
namespace Go.Proofs.YtgohmojcopajoaaGreatDoor.Nu
section
open Go.Shelf
def Tryz.bString_ren:Go.Shelf.Ren:=⟨fun|169=>37|n=>n,fun|70=>89|9=>9|0=>0|72=>92|37=>90|127=>132|3=>3|5=>5|n=>n,fun|n=>n⟩
theorem Tryz.bString:Go.Proofs.Lays.n169 Tryz.prog Tryz.bString_ren:={
 mixed:=by kernel_rfl
 f169:=Tryz.func37.trans (congrArg some (by kernel_rfl))
 t0:=Tryz.underlying0
 a0:=Tryz.isAgg0
 z0:=Tryz.sizeOf0
 v0:=Tryz.zeroValue0
 t3:=Tryz.underlying3
 a3:=Tryz.isAgg3
 z3:=Tryz.sizeOf3
 v3:=Tryz.zeroValue3
 t9:=Tryz.underlying9
 a9:=Tryz.isAgg9
 z9:=Tryz.sizeOf9
 v9:=Tryz.zeroValue9
 t37:=Tryz.underlying90
 a37:=Tryz.isAgg90
 z37:=Tryz.sizeOf90
 v37:=Tryz.zeroValue90
 t70:=Tryz.underlying89
 a70:=Tryz.isAgg89
 z70:=Tryz.sizeOf89
 v70:=Tryz.zeroValue89
 t72:=Tryz.underlying92
 a72:=Tryz.isAgg92
 z72:=Tryz.sizeOf92
 v72:=Tryz.zeroValue92
 t127:=Tryz.underlying132
 a127:=Tryz.isAgg132
 z127:=Tryz.sizeOf132
 v127:=Tryz.zeroValue132 }
end
section
open Go.RowKit
theorem Ai.next {g:Nat} {a b c:World} (h:Ai g a b) (k:Below b.heap.size b c):Ai g a c:=h.trans ⟨k.os,k.tape,k.output,k.size,fun i hi _=>k.block i hi⟩
end
section
open Go.Shelf Go.RowKit
theorem FA:(Tryz.prog.info? 92).map (·.size)=some 2:=by kernel_rfl
theorem H9:liesAt Tryz.prog Tryz.prog.depth 92 (2/Tryz.prog.cellsOf 92) 0 92 1=true:=by kernel_rfl
theorem JR (b:Nat) (w:World) (h0:w.cell? ⟨b,0,none⟩=some (.pointer (some ⟨b,0,none⟩))) :
  Calls Tryz.prog 107 #[.pointer (some ⟨b,0,none⟩)] w fun e w'=>e=.returned (.tuple #[])/\w'=w:=by
 obtain ⟨j,hj,-⟩:=Option.map_eq_some_iff.1 FA;have hne:=fun w=>Lib.run_neq_ptr_same (P:=Tryz.prog) w ⟨b,0,none⟩ Tryz.underlying89 hj
 clear hj;go_enter Tryz.func107,Tryz.ntmps107;go_wp2_with fail;go_end0
 exact ⟨rfl,rfl⟩
theorem IL (b:Nat) (w:World) (h0:w.cell? ⟨b,0,none⟩=some (.pointer none)) (hsh:w.shape? b=some (92,2)) (hfz:w.frozen? ⟨b,0,none⟩=false) :
  Calls Tryz.prog 107 #[.pointer (some ⟨b,0,none⟩)] w fun e w'=>e=.returned (.tuple #[])/\w'=w.setCell ⟨b,0,none⟩ (.pointer (some ⟨b,0,none⟩)):=by
 obtain ⟨j,hj,hjs⟩:=Option.map_eq_some_iff.1 FA;have hne:=fun w=>Lib.run_neq_ptr_same (P:=Tryz.prog) w ⟨b,0,none⟩ Tryz.underlying89 hj
 have hto:=Lib.run_to_unsafe (P:=Tryz.prog) w ⟨b,0,none⟩ Tryz.underlying89 Tryz.underlying193 hj (by rw[hjs];decide) hsh (Nat.zero_lt_succ 1);have hfrom:=Lib.run_from_unsafe (P:=Tryz.prog) w ⟨b,0,none⟩ Tryz.underlying193 Tryz.underlying89 hj hsh H9;have hx:=Lib.run_noEscape (P:=Tryz.prog) w (.pointer (some ⟨b,0,none⟩))
 have hcf:=fun (args:Array Value) (w:World)=>run_callFunc_extern (P:=Tryz.prog) (w:=w) (args:=args) Tryz.func142 (by kernel_rfl) (by kernel_rfl) (by kernel_rfl) (e:=Extern.AbiNoEscape.same) (by kernel_rfl)
 clear hj hjs;go_enter Tryz.func107,Tryz.ntmps107;go_wp2_with fail;go_end0
 exact ⟨rfl,rfl⟩
def Lv (w:World) (B b:Nat) (bs:List Value):Prop:=∃p v,(p=.pointer none\/p=.pointer (some ⟨b,0,none⟩))/\Am 92 w b #[p,v]/\w.ownsRow B 5 1 v bs.length bs
structure BW (B b:Nat) (w w':World):Prop where
 os:w'.os=w.os
 tape:w'.tape=w.tape
 output:w'.output=w.output
 size:w.heap.size<=w'.heap.size
 low:∀k,k<w.heap.size->k<B->k≠b->w'.heap[k]?=w.heap[k]?
 box:∀T g cs,T≠5->g≠b->Am T w g cs->Am T w' g cs
theorem BW.refl (B b:Nat) (w:World):BW B b w w:=⟨rfl,rfl,rfl,Nat.le_refl _,fun _ _ _ _=>rfl,fun _ _ _ _ _ h=>h⟩
theorem BW.trans {B b:Nat} {a c d:World} (h:BW B b a c) (k:BW B b c d):BW B b a d:=
 ⟨k.os.trans h.os,k.tape.trans h.tape,k.output.trans h.output,Nat.le_trans h.size k.size,fun i h0 h1 h2=>(k.low i (Nat.lt_of_lt_of_le h0 h.size) h1 h2).trans (h.low i h0 h1 h2),fun T g cs h1 h2 x=>k.box T g cs h1 h2 (h.box T g cs h1 h2 x)⟩
theorem BW.of_below {B b:Nat} {w w':World} (h:Below w.heap.size w w'):BW B b w w':=⟨h.os,h.tape,h.output,h.size,fun k hk _ _=>h.block k hk,fun _ _ _ _ _ x=>x.next h⟩
theorem BW.of_only {B b:Nat} {w w':World} (h:Ai b w w'):BW B b w w':=
 ⟨h.gb.os,h.gb.tape,h.gb.output,h.gb.size,fun k hk _ hne=>h.gb.block k hk (fun e=>hne (by injection e)),fun _ _ _ _ hne x=>x.other h hne⟩
theorem BW.below {B b C:Nat} {w w':World} (h:BW B b w w') (hC:C<=B) (hb:C<=b) (hw:C<=w.heap.size):Below C w w':=⟨h.os,h.tape,h.output,h.size,fun k hk=>h.low k (by omega) (by omega) (by omega)⟩
theorem Ly:(Tryz.prog.info? 5).map (fun i=>(i.zero,i.size,i.bytes))=some (some (.int .u8 0),1,1):=by kernel_rfl
theorem Lz {w w':World} {B:Nat} {T:TypeId} {v:Value} {n g:Nat} {xs:List Value} {cs:Array Value} (hT:T≠5) (hown:w.ownsRow B 5 1 v n xs) (hg:w.grownBy w' v.ownBlock) (x:Am T w g cs):Am T w' g cs:=
 x.grown hg (fun e=>Lib.ownBlock_ne hown x hT e.symm)
theorem Lv.fresh {w:World} {B b:Nat} (h:Am 92 w b #[.pointer none,.slice none 0 0]):Lv w B b []:=⟨_,_,.inl rfl,h,World.ownsRow_nil _ _ _ _⟩
theorem Lv.below {w w':World} {B b:Nat} {bs:List Value} (h:Lv w B b bs) (hb:Below w.heap.size w w'):Lv w' B b bs:=by
 obtain ⟨p,v,hp,x,ho⟩:=h;refine ⟨p,v,hp,x.next hb,ho.kept (row:=none) ⟨hb.os,hb.tape,hb.output,hb.size,fun k hk _=>hb.block k hk⟩ ?_⟩;rcases ho.2 with ⟨rfl,_⟩|⟨g,cap,cur,rfl,_⟩
 · exact .inl rfl
 · exact .inr (by simp[Value.ownBlock])
def Vw (r:Value) (B b:Nat) (bs:List Value) (w:World) (e:Ending) (w':World):Prop:=e=.returned r/\Lv w' B b bs/\BW B b w w'
theorem Mm {w:World} {B b n:Nat} {v p q:Value} {xs:List Value} (ho:w.ownsRow B 5 1 v n xs) (x:Am 92 w b #[p,q]):v.ownBlock≠some b:=Lib.ownBlock_ne ho x (by decide)
theorem Ro {w:World} {B n:Nat} {v:Value} {xs:List Value} (ho:w.ownsRow B 5 1 v n xs):∃ao m cap,v=.slice ao m cap:=by
 rcases ho.2 with ⟨rfl,_⟩|⟨g,cap,cur,rfl,_⟩
 · exact ⟨_,_,_,rfl⟩
 · exact ⟨_,_,_,rfl⟩
theorem XJ {w:World} {b:Nat} {p q:Value} (x:Am 92 w b #[p,q]) (y:Value):Am 92 (w.setCell ⟨b,0,none⟩ y) b #[y,q]:=by unfold Am at x ⊢;simp[World.setCell,Array.getElem?_modify,x]
theorem XK {w:World} {b:Nat} {p q:Value} (x:Am 92 w b #[p,q]) (y:Value):Am 92 (w.setCell ⟨b,1,none⟩ y) b #[p,y]:=by unfold Am at x ⊢;simp[World.setCell,Array.getElem?_modify,x]
theorem Kz (B b:Nat) (bs:List Value) (w:World) (h:Lv w B b bs):Calls Tryz.prog 107 #[.pointer (some ⟨b,0,none⟩)] w fun e w'=>e=.returned (.tuple #[])/\(∃v,Am 92 w' b #[.pointer (some ⟨b,0,none⟩),v]/\w'.ownsRow B 5 1 v bs.length bs)/\BW B b w w':=by
 obtain ⟨p,v,rfl|rfl,x,ho⟩:=h
 · refine (IL b w (x.cell 0 _ rfl) (by unfold Am at x;simp[World.shape?,x]) (x.fr 0)).mono ?_;rintro e w' ⟨rfl,rfl⟩;exact ⟨rfl,⟨v,XJ x _,ho.kept (row:=some b) (Db w b 0 _) (.inr (Mm ho x))⟩,BW.of_only (Db w b 0 _)⟩
 · refine (JR b w (x.cell 0 _ rfl)).mono ?_;rintro e w' ⟨rfl,rfl⟩;exact ⟨rfl,⟨v,x,ho⟩,BW.refl _ _ _⟩
theorem IM (B b:Nat) (bs:List Value) (s:ByteArray) (w:World) (h:Lv w B b bs) (hlen:bs.length+s.size<=140737488355328) (hBw:B<=w.heap.size) :
  Calls Tryz.prog 64 #[.pointer (some ⟨b,0,none⟩),.string s] w (Vw (.tuple #[.int .i64 s.size,.nilIface]) B b (bs++Lib.strCells s) w):=by
 have hc:=Kz B b bs w h;obtain ⟨i0,hi,hz0,hz1,hz2⟩:=info_parts Ly;clear h;go_enter Tryz.func64,Tryz.ntmps64;go_wp2_with fail;refine hc.mono ?_;rintro e w1 ⟨rfl,⟨v,x,ho⟩,b1⟩;have c1:w1.cell? ⟨b,1,none⟩=some v:=x.cell 1 _ rfl;have hB1:B<=w1.heap.size:=Nat.le_trans hBw b1.size;have h63:bs.length+s.size<=maxLen:=by unfold maxLen;omega
 have X:=Aa x;have HB1:=Aa b1;clear x b1 hc
 go_wp2_with (at_builtin;refine Lib.wpList_append_own_string _ rfl _ _ 90 9 rfl B 5 i0 Tryz.underlying90 Tryz.underlying9 hi hz0 hz1 hz2 v bs.length bs rfl ho s rfl h63 hlen hB1 ?_;intro v2 w2 ho2 g2 hnil;clear hnil;obtain ⟨ao2,n2,cap2,rfl⟩:=Ro ho2;have y:=Lz (by decide) ho g2 X.out;have u0:w2.cell? ⟨b,1,none⟩=some v:=y.cell 1 _ rfl;have u1:=y.fr 1;have hb2:=Aa (HB1.out.trans ⟨g2.os,g2.tape,g2.output,g2.size,fun k h0 hk hne=>g2.block k h0 (fun e=>by have:=(ho.lt k e.symm).1;omega),fun T g cs hT hne z=>Lz hT ho g2 z⟩);have Y:=Aa y;have HO2:=Aa ho2;clear y ho2 g2)
 go_ret2
 refine ⟨rfl,⟨_,.slice ao2 n2 cap2,.inr rfl,XK Y.out _,?_⟩,hb2.out.trans (BW.of_only (Db w2 b 1 _))⟩;rw[List.length_append,Lib.strCells_length];exact HO2.out.kept (row:=some b) (Db w2 b 1 _) (.inr (Mm HO2.out Y.out))
theorem K0:Builder.Extra Tryz.prog Tryz.bString_ren:={ sizeBuilder:=FA,liesBuilder:=H9,t5:=Tryz.underlying5,a5:=Tryz.isAgg5,z5:=Tryz.sizeOf5,v5:=Tryz.zeroValue5,infoByte:=Ly,cellsByte:=by kernel_rfl,sizeByte:=by kernel_rfl,neB5:=by decide }
theorem EG (B C b:Nat) (l:List UInt8) (w:World) (h:Lv w B b (Lib.byteCells l)) (hC:C<=B) (hCb:C<=b) (hw:C<=w.heap.size):Calls Tryz.prog 37 #[.pointer (some ⟨b,0,none⟩)] w (fun e w'=>e=.returned (.string ⟨l.toArray⟩)/\Below C w w'):=by
 obtain ⟨p,v,hp,x,ho⟩:=h;have ho':w.ownsRow C 5 1 v (Lib.byteCells l).length (Lib.byteCells l):=by
  refine ⟨ho.1,?_⟩;rcases ho.2 with h0|⟨g,cap,cur,h1,h2,h3⟩
  · exact .inl h0
  · exact .inr ⟨g,cap,cur,h1,Nat.le_trans hC h2,h3⟩
 have hb:Lib.IsBuilder (Tryz.bString_ren.t 72) (Tryz.bString_ren.t 5) C b (Lib.byteCells l) w:=by
  rcases hp with rfl|rfl
  · exact Or.inl ⟨hCb,v,x,ho',Mm ho x⟩
  · exact Or.inr ⟨hCb,v,x,ho',Mm ho x⟩
 exact (Any.Builder_String_any Tryz.bString K0 C b l w hb hw).mono (fun e w' ⟨h1,h2⟩=>⟨h1,h2⟩)
end
end Go.Proofs.YtgohmojcopajoaaGreatDoor.Nu
