/- Texts of one seat, put together: ExprRx LexFirstM LexAgain LexText LexSpellM LexBytes ExprP ExprQ ExprD ExprTb ShelfB KeepP. -/
import Derived.Test.YtgohmojcopajoaaGreatDoorP25
import Derived.Test.YtgohmojcopajoaaGreatDoorP01
import Derived.Test.YtgohmojcopajoaaGreatDoorP03
import Derived.Lib.Join
import Derived.Test.YtgohmojcopajoaaGreatDoorP20
import Derived.Shelf.Strings.Builder1
import Derived.Shelf.Strconv.Itoa3
import Derived.Test.YtgohmojcopajoaaGreatDoorP17
set_option linter.unusedVariables false
set_option linter.unusedSimpArgs false
set_option maxRecDepth 100000
set_option maxHeartbeats 16000000
namespace Go.Proofs.YtgohmojcopajoaaGreatDoor
section
open Go.RowKit
open Lx Ex
theorem Na {S:Nat->Prop} {W0:World} {t:GT} {vs:List Value} (h1:Bq S W0 t vs):Oz t->∀(w0:World) (lv:Int),0<=lv->lv<=60->Below W0.heap.size W0 w0->Calls Tryz.prog 41 #[.agg vs.toArray,.int .i64 lv] w0 (BG (Bb t lv) w0):=by
 induction h1 with
 |mk kd op l r p q kids Al Ar A nl cl nr cr n c ba oa cs g1 g2 g3 g4 g5 g6 g7 g8 g9 g10 g11 g12 ih=>
  intro hsz w0 lv hlv0 hlv1 hb0;have hcmp:=fun W (hW:Below w0.heap.size w0 W)=>FE S (.mk kd l r op p q kids) kd Al nl cl Ar nr cr op p q A n c W ((Bq.mk kd op l r p q kids Al Ar A nl cl nr cr n c ba oa cs g1 g2 g3 g4 g5 g6 g7 g8 g9 g10 g11 g12).keep (As.of_below (hb0.next hW))) hsz (by cases hsz with|mk _ _ _ _ _ _ _ z1 z2 z3 z4 z5=>rw[<-g1.1];exact z3) (by cases hsz with|mk _ _ _ _ _ _ _ z1 z2 z3 z4 z5=>rw[<-g2.1];exact z4)
  have HC:=Aa hcmp;have HBA:=Aa (fun W=>MZ (.mk kd l r op p q kids) kd Al nl cl Ar nr cr op p q A n c W ⟨l,r,kids,rfl,g1.1,g2.1,g3⟩);have hkz:∀u∈kids,Oz u:=by cases hsz with|mk _ _ _ _ _ _ _ z1 z2 z3 z4 z5=>exact z5
  show Calls _ _ #[.agg #[.int .i64 kd,.slice Al nl cl,.slice Ar nr cr,.int .i64 op,.string p,.string q,.slice A n c],.int .i64 lv] w0 _;obtain ⟨x1,hb,-⟩:=Ax 33 w0 #[.int .i64 kd,.slice Al nl cl,.slice Ar nr cr,.int .i64 op,.string p,.string q,.slice A n c];have HB:=Aa hb;have X1:=Aa x1;have zx:=x1.lt;have G10:=Aa g10;have HN:=Aa g3
  have HSTEP:=Aa (show ∀j,j<n->∃(u:GT) (k2:Int) (Al2:Option Addr) (Cc cl2:Nat) (Ar2:Option Addr) (nr2 cr2:Nat) (op2:Int) (p2 q2:ByteArray) (A2:Option Addr) (n2 c2:Nat),kids[j]?=some u/\u.kind=k2/\(∀W,Below w0.heap.size w0 W->W.cell? ⟨ba,oa+j*7,none⟩=some (.int .i64 k2)/\W.cell? ⟨ba,oa+j*7+1,none⟩=some (.slice Al2 Cc cl2)/\W.cell? ⟨ba,oa+j*7+2,none⟩=some (.slice Ar2 nr2 cr2)/\W.cell? ⟨ba,oa+j*7+3,none⟩=some (.int .i64 op2)/\W.cell? ⟨ba,oa+j*7+4,none⟩=some (.string p2)/\W.cell? ⟨ba,oa+j*7+5,none⟩=some (.string q2)/\W.cell? ⟨ba,oa+j*7+6,none⟩=some (.slice A2 n2 c2))/\∀W lw,Below w0.heap.size w0 W->0<=lw->lw<=60->Calls Tryz.prog 41 #[.agg #[.int .i64 k2,.slice Al2 Cc cl2,.slice Ar2 nr2 cr2,.int .i64 op2,.string p2,.string q2,.slice A2 n2 c2],.int .i64 lw] W (BG (Bb u lw) W) from by
    intro j hj;have hk:j<kids.length:=(by omega);have ht:kids[j]?=some kids[j]:=List.getElem?_eq_getElem hk;have hti:=g12 j _ ht;obtain ⟨k2,Al2,Cc,cl2,Ar2,nr2,cr2,op2,p2,q2,A2,n2,c2,e1⟩:=hti.shape;have cc1:=(g11 j hj).2;have hr:=fun W lw hW h0 h1=>ih j _ ht (hkz _ (List.getElem_mem hk)) W lw h0 h1 (hb0.next hW)
    rw[e1]at cc1 hti hr;have hkk:(kids[j]).kind=k2:=by obtain ⟨l3,r3,ks3,e3,-⟩:=hti.parts;rw[e3];rfl
    exact ⟨_,k2,Al2,Cc,cl2,Ar2,nr2,cr2,op2,p2,q2,A2,n2,c2,ht,hkk,fun W hW=>⟨(Ah (hb0.next hW) (g10 (by omega)).2.2).trans (cc1 0 _ rfl),(Ah (hb0.next hW) (g10 (by omega)).2.2).trans (cc1 1 _ rfl),(Ah (hb0.next hW) (g10 (by omega)).2.2).trans (cc1 2 _ rfl),(Ah (hb0.next hW) (g10 (by omega)).2.2).trans (cc1 3 _ rfl),(Ah (hb0.next hW) (g10 (by omega)).2.2).trans (cc1 4 _ rfl),(Ah (hb0.next hW) (g10 (by omega)).2.2).trans (cc1 5 _ rfl),(Ah (hb0.next hW) (g10 (by omega)).2.2).trans (cc1 6 _ rfl)⟩,hr⟩)
  clear g1 g2 g4 g5 g6 g7 g10 g11 g12 ih hcmp hkz hsz x1 hb hb0 g3;have c0:=X1.out.cell 0 _ rfl;have c1:=X1.out.cell 1 _ rfl;have c2:=X1.out.cell 2 _ rfl;have c3:=X1.out.cell 3 _ rfl;have c4:=X1.out.cell 4 _ rfl;have c5:=X1.out.cell 5 _ rfl;have c6:=X1.out.cell 6 _ rfl;by_cases k2:kd=2
  · have gk:(kd==2)=true:=(by simp[k2]);have HE:=Aa (show Bb (.mk kd l r op p q kids) lv=Lu (.mk kd l r op p q kids) from by rw[Bb,if_pos k2]);generalize Bb (.mk kd l r op p q kids) lv=BB at *;generalize Lu (.mk kd l r op p q kids)=BC at *;clear k2;go_enter Tryz.func41,Tryz.ntmps41;go_wp2_with fail;refine (HC.out _ HB.out).mono ?_;rintro e w2 ⟨rfl,b2⟩;have HP:=Aa (show BG BB w0 (.returned (.bool BC)) w2 from ⟨by rw[HE.out],HB.out.next b2⟩);clear b2;go_wp2_with fail;go_ret
    exact HP.out
  have gk:(kd==2)=false:=by simpa using k2
  have HK:=Aa (fun W=>Oy kd W);have HE:=Aa (show Bb (.mk kd l r op p q kids) lv=(match E7 kd with|none=>false|some m=>decide (n=m)&&GD (.mk kd l r op p q kids)&&BZ kids kd 0 (if kd=3 then lv-1 else lv)) from by rw[Bb,if_neg k2,HN.out];cases E7 kd<;>rfl)
  generalize Bb (.mk kd l r op p q kids) lv=BB at *;generalize GD (.mk kd l r op p q kids)=BR at *;unfold U5 at HK;clear k2;cases ha:E7 kd with
  |none=>
    rw[ha]at HE HK;have HE:=Aa (show BB=false from HE.out);go_enter Tryz.func41,Tryz.ntmps41;go_wp2_with fail;refine (HK.out _).mono ?_;rintro e w2 ⟨rfl,b2⟩;have HB2:=Aa (HB.out.next b2);clear b2;go_wp2_with fail;go_ret
    exact ⟨by rw[HE.out];rfl,HB2.out⟩
  |some m=>
  rw[ha]at HE HK;have HE:=Aa (show BB=(decide (n=m)&&BR&&BZ kids kd 0 (if kd=3 then lv-1 else lv)) from HE.out);by_cases hm:n=m
  case neg=>
    have HE:=Aa (show BB=false from by rw[HE.out];simp[hm]);have gm:((n:Int) != (m:Int))=true:=(by simp;omega);go_enter Tryz.func41,Tryz.ntmps41;go_wp2_with fail;refine (HK.out _).mono ?_;rintro e w2 ⟨rfl,b2⟩;have HB2:=Aa (HB.out.next b2);have c6:=(X1.out.next b2).cell 6 _ rfl;clear b2 c0 c1 c2 c3 c4 c5;simp only[Option.getD_some,Option.isSome_some];go_wp2_with fail;go_ret
    exact ⟨by rw[HE.out];rfl,HB2.out⟩
  subst hm;have HE:=Aa (show BB=(BR&&BZ kids kd 0 (if kd=3 then lv-1 else lv)) from by rw[HE.out];simp);have gm:((n:Int) != (n:Int))=false:=by simp
  have HLV:=Aa (⟨hlv0,hlv1⟩:0<=lv/\lv<=60);clear ha;go_enter Tryz.func41,Tryz.ntmps41;go_wp2_with fail;refine (HK.out _).mono ?_;rintro e w2 ⟨rfl,b2⟩;have HB2:=Aa (HB.out.next b2);have X2:=Aa (X1.out.next b2);clear b2 c0 c1 c2 c3 c4 c5 c6;have c0:=X2.out.cell 0 _ rfl;have c1:=X2.out.cell 1 _ rfl;have c2:=X2.out.cell 2 _ rfl;have c3:=X2.out.cell 3 _ rfl;have c4:=X2.out.cell 4 _ rfl;have c5:=X2.out.cell 5 _ rfl;have c6:=X2.out.cell 6 _ rfl
  simp only[Option.getD_some,Option.isSome_some];go_wp2_with fail;refine (HBA.out _).mono ?_;rintro e w3 ⟨rfl,b3⟩;have HB3:=Aa (HB2.out.next b3);have X3:=Aa (X2.out.next b3);clear b3 c0 c1 c2 c3 c4 c5 c6;have c0:=X3.out.cell 0 _ rfl;have c6:=X3.out.cell 6 _ rfl;cases BR
  · have HE:=Aa (show BB=false from by rw[HE.out];rfl);go_wp2_with fail;go_ret
    exact ⟨by rw[HE.out];rfl,HB3.out⟩
  by_cases k3:kd=3
  · have g3:(kd==3)=true:=(by simp[k3]);have HE:=Aa (show BB=BZ kids kd 0 (lv-1) from by rw[HE.out,if_pos k3];rfl);clear k3;go_wp2_with fail;go_loopw [43] (fun i wr=>∃x:Nat,x<=n/\i=.int .i64 x/\Hid (Below w0.heap.size w0 wr)/\Hid (Ao 33 wr w0.heap.size #[.int .i64 kd,.slice Al nl cl,.slice Ar nr cr,.int .i64 op,.string p,.string q,.slice A n c])/\Hid (BB=BZ (kids.drop x) kd x (lv-1))) (fun i _=>n-(intOf i).toNat)
    case atStart=>exact ⟨0,Nat.zero_le _,rfl,HB3,X3,HE⟩
    case round=>
     obtain ⟨x,hx,rfl,HR,XR,HER⟩:=hrel;by_cases hxn:x<n
     · obtain ⟨u,k2,Al2,Cc,cl2,Ar2,nr2,cr2,op2,p2,q2,A2,n2,c2,hu,huk,hcs,hrec⟩:=HSTEP.out x hxn;have HREC:=Aa hrec;obtain ⟨d0,d1,d2,d3,d4,d5,d6⟩:=hcs wr HR.out;obtain ⟨rfl,-,hba⟩:=G10.out (by omega);have hba2:ba<wr.heap.size:=World.block_lt_of_cell? wr _ d0;have hxa:=XR.out.lt;have c0:=XR.out.cell 0 _ rfl
       have z1:Ao 33 (wr.alloc (.cells #[.int .i64 0,.slice none 0 0,.slice none 0 0,.int .i64 0,.string ⟨#[]⟩,.string ⟨#[]⟩,.slice none 0 0] 33)) wr.heap.size #[.int .i64 0,.slice none 0 0,.slice none 0 0,.int .i64 0,.string ⟨#[]⟩,.string ⟨#[]⟩,.slice none 0 0]:=Ao.new _ _ _;have HEL:=Aa (fun W=>FD kd k2 x W);have HQ:=Aa (show BB=(Qj u kd x (lv-1)&&BZ (kids.drop (x+1)) kd (x+1) (lv-1)) from by
         rw[HER.out,<-E8];congr 1
         exact List.drop_eq_getElem_cons (by have:=HN.out;omega) |>.trans (by
           have hlt:x<kids.length:=(by have:=HN.out;omega);rw[List.getElem?_eq_getElem hlt]at hu;injection hu with hu
           rw[hu]))
       unfold Qj at HQ;rw[huk]at HQ;have g43:(x:Int)<(n:Int):=(by omega);clear hu huk hcs hrec
       go_wp2_with (with_reducible refine Ab rfl 33 _ _ rfl wr.heap.size #[.int .i64 k2,.slice Al2 Cc cl2,.slice Ar2 nr2 cr2,.int .i64 op2,.string p2,.string q2,.slice A2 n2 c2] rfl rfl _ z1 (by kernel_rfl) rfl (by simp[Value.oneCell']) ?_;intro wy ky oy;have HBy:=Aa (show Below wr.heap.size wr wy from (Ae wr _).trans (oy.below (Ae wr _).size (Nat.le_refl _)));have XY:=Aa ky;have c0y:=(XR.out.next HBy.out).cell 0 _ rfl;have y0:=ky.cell 0 _ rfl;clear oy d0 d1 d2 d3 d4 d5 d6 z1 c0)
       refine (HEL.out _).mono ?_;rintro e w4 ⟨rfl,b4⟩;have HB4:=Aa (show Below wr.heap.size wr w4 from HBy.out.trans (b4.mono HBy.out.size));have XR4:=Aa (XR.out.next HB4.out);have HB5:=Aa (HR.out.next HB4.out);have XY4:=Aa (XY.out.next b4);have c0:=XR4.out.cell 0 _ rfl;have y0:=XY4.out.cell 0 _ rfl;have y1:=XY4.out.cell 1 _ rfl;have y2:=XY4.out.cell 2 _ rfl;have y3:=XY4.out.cell 3 _ rfl;have y4:=XY4.out.cell 4 _ rfl;have y5:=XY4.out.cell 5 _ rfl
       have y6:=XY4.out.cell 6 _ rfl;clear b4 c0y ky;generalize Bn kd k2 x=bl at *;have HLV2:=HLV.out;cases bl
       · have HQ:=Aa (show BB=(decide (0<=lv-1)&&Bb u (lv-1)&&BZ (kids.drop (x+1)) kd (x+1) (lv-1)) from by rw[HQ.out];rfl);by_cases hw:0<=lv-1
         · have gw:¬(lv-1<0):=(by omega);have gw2:decide (lv-1<0)=false:=(by simp;omega);have HQ:=Aa (show BB=(Bb u (lv-1)&&BZ (kids.drop (x+1)) kd (x+1) (lv-1)) from by rw[HQ.out,decide_eq_true hw,Bool.true_and]);go_wp2_with fail;refine (HREC.out _ _ HB5.out hw (by have:=HLV.out;omega)).mono ?_;rintro e w6 ⟨rfl,b6⟩;have HB6:=Aa (HB5.out.next b6);have XR6:=Aa (XR4.out.next b6);clear b6;generalize Bb u (lv-1)=bk at *;cases bk
           · have HE:=Aa (show BB=false from HQ.out);go_wp2_with fail;go_ret
             exact ⟨by rw[HE.out];rfl,HB6.out⟩
           · have HE:=Aa (show BB=BZ (kids.drop (x+1)) kd (x+1) (lv-1) from by rw[HQ.out];rfl);go_wp2_with fail;go_roundw
             case rel=>exact ⟨x+1,by omega,by go_num,HB6,XR6,HE⟩
             case measure=>simp[intOf];omega
         · have gw:lv-1<0:=(by omega);have gw2:decide (lv-1<0)=true:=(by simp;omega);have HE:=Aa (show BB=false from by rw[HQ.out,decide_eq_false hw];rfl);go_wp2_with fail;go_ret
           exact ⟨by rw[HE.out];rfl,HB5.out⟩
       · have HQ:=Aa (show BB=(decide (0<=lv-1-1)&&Bb u (lv-1-1)&&BZ (kids.drop (x+1)) kd (x+1) (lv-1)) from by rw[HQ.out];rfl);by_cases hw:0<=lv-1-1
         · have gw:¬(lv-1-1<0):=(by omega);have gw2:decide (lv-1-1<0)=false:=(by simp;omega);have HQ:=Aa (show BB=(Bb u (lv-1-1)&&BZ (kids.drop (x+1)) kd (x+1) (lv-1)) from by rw[HQ.out,decide_eq_true hw,Bool.true_and]);go_wp2_with fail;refine (HREC.out _ _ HB5.out hw (by have:=HLV.out;omega)).mono ?_;rintro e w6 ⟨rfl,b6⟩;have HB6:=Aa (HB5.out.next b6);have XR6:=Aa (XR4.out.next b6);clear b6;generalize Bb u (lv-1-1)=bk at *;cases bk
           · have HE:=Aa (show BB=false from HQ.out);go_wp2_with fail;go_ret
             exact ⟨by rw[HE.out];rfl,HB6.out⟩
           · have HE:=Aa (show BB=BZ (kids.drop (x+1)) kd (x+1) (lv-1) from by rw[HQ.out];rfl);go_wp2_with fail;go_roundw
             case rel=>exact ⟨x+1,by omega,by go_num,HB6,XR6,HE⟩
             case measure=>simp[intOf];omega
         · have gw:lv-1-1<0:=(by omega);have gw2:decide (lv-1-1<0)=true:=(by simp;omega);have HE:=Aa (show BB=false from by rw[HQ.out,decide_eq_false hw];rfl);go_wp2_with fail;go_ret
           exact ⟨by rw[HE.out];rfl,HB5.out⟩
     · obtain rfl:x=n:=(by omega);have HP:=Aa (show BG BB w0 (.returned (.bool true)) wr from ⟨by rw[HER.out,List.drop_of_length_le (by have:=HN.out;omega),Fp],HR.out⟩);go_wp2_with fail;go_ret
       exact HP.out
  · have g3:(kd==3)=false:=(by simpa using k3);have HE:=Aa (show BB=BZ kids kd 0 lv from by rw[HE.out,if_neg k3];rfl);clear k3;go_wp2_with fail;go_loopw [43] (fun i wr=>∃x:Nat,x<=n/\i=.int .i64 x/\Hid (Below w0.heap.size w0 wr)/\Hid (Ao 33 wr w0.heap.size #[.int .i64 kd,.slice Al nl cl,.slice Ar nr cr,.int .i64 op,.string p,.string q,.slice A n c])/\Hid (BB=BZ (kids.drop x) kd x (lv))) (fun i _=>n-(intOf i).toNat)
    case atStart=>exact ⟨0,Nat.zero_le _,rfl,HB3,X3,HE⟩
    case round=>
     obtain ⟨x,hx,rfl,HR,XR,HER⟩:=hrel;by_cases hxn:x<n
     · obtain ⟨u,k2,Al2,Cc,cl2,Ar2,nr2,cr2,op2,p2,q2,A2,n2,c2,hu,huk,hcs,hrec⟩:=HSTEP.out x hxn;have HREC:=Aa hrec;obtain ⟨d0,d1,d2,d3,d4,d5,d6⟩:=hcs wr HR.out;obtain ⟨rfl,-,hba⟩:=G10.out (by omega);have hba2:ba<wr.heap.size:=World.block_lt_of_cell? wr _ d0;have hxa:=XR.out.lt;have c0:=XR.out.cell 0 _ rfl
       have z1:Ao 33 (wr.alloc (.cells #[.int .i64 0,.slice none 0 0,.slice none 0 0,.int .i64 0,.string ⟨#[]⟩,.string ⟨#[]⟩,.slice none 0 0] 33)) wr.heap.size #[.int .i64 0,.slice none 0 0,.slice none 0 0,.int .i64 0,.string ⟨#[]⟩,.string ⟨#[]⟩,.slice none 0 0]:=Ao.new _ _ _;have HEL:=Aa (fun W=>FD kd k2 x W);have HQ:=Aa (show BB=(Qj u kd x (lv)&&BZ (kids.drop (x+1)) kd (x+1) (lv)) from by
         rw[HER.out,<-E8];congr 1
         exact List.drop_eq_getElem_cons (by have:=HN.out;omega) |>.trans (by
           have hlt:x<kids.length:=(by have:=HN.out;omega);rw[List.getElem?_eq_getElem hlt]at hu;injection hu with hu
           rw[hu]))
       unfold Qj at HQ;rw[huk]at HQ;have g43:(x:Int)<(n:Int):=(by omega);clear hu huk hcs hrec
       go_wp2_with (with_reducible refine Ab rfl 33 _ _ rfl wr.heap.size #[.int .i64 k2,.slice Al2 Cc cl2,.slice Ar2 nr2 cr2,.int .i64 op2,.string p2,.string q2,.slice A2 n2 c2] rfl rfl _ z1 (by kernel_rfl) rfl (by simp[Value.oneCell']) ?_;intro wy ky oy;have HBy:=Aa (show Below wr.heap.size wr wy from (Ae wr _).trans (oy.below (Ae wr _).size (Nat.le_refl _)));have XY:=Aa ky;have c0y:=(XR.out.next HBy.out).cell 0 _ rfl;have y0:=ky.cell 0 _ rfl;clear oy d0 d1 d2 d3 d4 d5 d6 z1 c0)
       refine (HEL.out _).mono ?_;rintro e w4 ⟨rfl,b4⟩;have HB4:=Aa (show Below wr.heap.size wr w4 from HBy.out.trans (b4.mono HBy.out.size));have XR4:=Aa (XR.out.next HB4.out);have HB5:=Aa (HR.out.next HB4.out);have XY4:=Aa (XY.out.next b4);have c0:=XR4.out.cell 0 _ rfl;have y0:=XY4.out.cell 0 _ rfl;have y1:=XY4.out.cell 1 _ rfl;have y2:=XY4.out.cell 2 _ rfl;have y3:=XY4.out.cell 3 _ rfl;have y4:=XY4.out.cell 4 _ rfl;have y5:=XY4.out.cell 5 _ rfl
       have y6:=XY4.out.cell 6 _ rfl;clear b4 c0y ky;generalize Bn kd k2 x=bl at *;have HLV2:=HLV.out;cases bl
       · have HQ:=Aa (show BB=(decide (0<=lv)&&Bb u (lv)&&BZ (kids.drop (x+1)) kd (x+1) (lv)) from by rw[HQ.out];rfl);by_cases hw:0<=lv
         · have gw:¬(lv<0):=(by omega);have gw2:decide (lv<0)=false:=(by simp;omega);have HQ:=Aa (show BB=(Bb u (lv)&&BZ (kids.drop (x+1)) kd (x+1) (lv)) from by rw[HQ.out,decide_eq_true hw,Bool.true_and]);go_wp2_with fail;refine (HREC.out _ _ HB5.out hw (by have:=HLV.out;omega)).mono ?_;rintro e w6 ⟨rfl,b6⟩;have HB6:=Aa (HB5.out.next b6);have XR6:=Aa (XR4.out.next b6);clear b6;generalize Bb u (lv)=bk at *;cases bk
           · have HE:=Aa (show BB=false from HQ.out);go_wp2_with fail;go_ret
             exact ⟨by rw[HE.out];rfl,HB6.out⟩
           · have HE:=Aa (show BB=BZ (kids.drop (x+1)) kd (x+1) (lv) from by rw[HQ.out];rfl);go_wp2_with fail;go_roundw
             case rel=>exact ⟨x+1,by omega,by go_num,HB6,XR6,HE⟩
             case measure=>simp[intOf];omega
         · have gw:lv<0:=(by omega);have gw2:decide (lv<0)=true:=(by simp;omega);have HE:=Aa (show BB=false from by rw[HQ.out,decide_eq_false hw];rfl);go_wp2_with fail;go_ret
           exact ⟨by rw[HE.out];rfl,HB5.out⟩
       · have HQ:=Aa (show BB=(decide (0<=lv-1)&&Bb u (lv-1)&&BZ (kids.drop (x+1)) kd (x+1) (lv)) from by rw[HQ.out];rfl);by_cases hw:0<=lv-1
         · have gw:¬(lv-1<0):=(by omega);have gw2:decide (lv-1<0)=false:=(by simp;omega);have HQ:=Aa (show BB=(Bb u (lv-1)&&BZ (kids.drop (x+1)) kd (x+1) (lv)) from by rw[HQ.out,decide_eq_true hw,Bool.true_and]);go_wp2_with fail;refine (HREC.out _ _ HB5.out hw (by have:=HLV.out;omega)).mono ?_;rintro e w6 ⟨rfl,b6⟩;have HB6:=Aa (HB5.out.next b6);have XR6:=Aa (XR4.out.next b6);clear b6;generalize Bb u (lv-1)=bk at *;cases bk
           · have HE:=Aa (show BB=false from HQ.out);go_wp2_with fail;go_ret
             exact ⟨by rw[HE.out];rfl,HB6.out⟩
           · have HE:=Aa (show BB=BZ (kids.drop (x+1)) kd (x+1) (lv) from by rw[HQ.out];rfl);go_wp2_with fail;go_roundw
             case rel=>exact ⟨x+1,by omega,by go_num,HB6,XR6,HE⟩
             case measure=>simp[intOf];omega
         · have gw:lv-1<0:=(by omega);have gw2:decide (lv-1<0)=true:=(by simp;omega);have HE:=Aa (show BB=false from by rw[HQ.out,decide_eq_false hw];rfl);go_wp2_with fail;go_ret
           exact ⟨by rw[HE.out];rfl,HB5.out⟩
     · obtain rfl:x=n:=(by omega);have HP:=Aa (show BG BB w0 (.returned (.bool true)) wr from ⟨by rw[HER.out,List.drop_of_length_le (by have:=HN.out;omega),Fp],HR.out⟩);go_wp2_with fail;go_ret
       exact HP.out
theorem Iz {S:Nat->Prop} {t:GT} {kd:Int} {Al:Option Addr} {nl cl:Nat} {Ar:Option Addr} {nr cr:Nat} {op:Int} {p q:ByteArray} {A:Option Addr} {n c:Nat} (w0:World) (h:Bq S w0 t [.int .i64 kd,.slice Al nl cl,.slice Ar nr cr,.int .i64 op,.string p,.string q,.slice A n c]) (hz:Oz t):Calls Tryz.prog 18 #[.agg #[.int .i64 kd,.slice Al nl cl,.slice Ar nr cr,.int .i64 op,.string p,.string q,.slice A n c]] w0 (BG (Bb t 60) w0):=by
 have HR:=Aa (fun W (hW:Below w0.heap.size w0 W)=>Na h hz W 60 (by omega) (by omega) hW);obtain ⟨x1,hb,-⟩:=Ax 33 w0 #[.int .i64 kd,.slice Al nl cl,.slice Ar nr cr,.int .i64 op,.string p,.string q,.slice A n c];have HB:=Aa hb;have c0:=x1.cell 0 _ rfl;have c1:=x1.cell 1 _ rfl;have c2:=x1.cell 2 _ rfl;have c3:=x1.cell 3 _ rfl;have c4:=x1.cell 4 _ rfl;have c5:=x1.cell 5 _ rfl;have c6:=x1.cell 6 _ rfl;clear h hz hb x1;go_enter Tryz.func18,Tryz.ntmps18;go_wp2_with fail
 refine (HR.out _ HB.out).mono ?_;rintro e w2 ⟨rfl,b2⟩;have HP:=Aa (show BG (Bb t 60) w0 (.returned (.bool (Bb t 60))) w2 from ⟨rfl,HB.out.next b2⟩);clear b2;generalize Bb t 60=BB at *;go_wp2_with fail;go_ret
 exact HP.out
end
end Go.Proofs.YtgohmojcopajoaaGreatDoor
namespace Go.Proofs.YtgohmojcopajoaaGreatDoor.Lx
section
theorem Nb {f:Nat->Nat} {n j:Nat}:AQ f n j=100↔Cd (f j)=false/\Be (f j)=false/\D8 (f j)=false/\Fe (f j)=false:=by
 unfold AQ;by_cases c1:Cd (f j)=true
 · simp only[if_pos c1];exact ⟨fun h=>by split at h<;>omega,fun h=>by rw[c1]at h;cases h.1⟩
 · have d1:Cd (f j)=false:=(by simpa using c1);simp only[if_neg c1];by_cases c2:Be (f j)=true
   · simp only[if_pos c2];refine ⟨fun h=>?_,fun h=>by rw[c2]at h;cases h.2.1⟩;split at h
     · omega
     · split at h<;>omega
   · have d2:Be (f j)=false:=(by simpa using c2);simp only[if_neg c2];by_cases c3:D8 (f j)=true
     · simp only[if_pos c3];exact ⟨(fun h=>by cases h),fun h=>by rw[c3]at h;cases h.2.2.1⟩
     · have d3:D8 (f j)=false:=(by simpa using c3);simp only[if_neg c3];by_cases c4:Fe (f j)=true
       · simp only[if_pos c4];exact ⟨(fun h=>by cases h),fun h=>by rw[c4]at h;cases h.2.2.2⟩
       · have d4:Fe (f j)=false:=(by simpa using c4);simp only[if_neg c4];exact ⟨fun _=>⟨d1,d2,d3,d4⟩,fun _=>trivial⟩
def Good (f:Nat->Nat) (n:Nat) (t:Tok):Prop:=t.2.1<n/\AQ f n t.2.1=0/\t.2.2=BI f n t.2.1/\t.1=AG (f t.2.1)
def Asc (n:Nat):Nat->List Tok->Prop
 |_,[]=>True
 |i,t::ts=>i<=t.2.1/\t.2.1<t.2.2/\t.2.2<=n/\Asc n t.2.2 ts
def lens (ts:List Tok):Nat:=(ts.map fun t=>t.2.2-t.2.1).sum
theorem Asc.lens {n:Nat} (ts:List Tok):∀i,i<=n->Asc n i ts->ts.length<=Lx.lens ts/\i+Lx.lens ts<=n:=by
 induction ts with
 |nil=>intro i hi _;exact ⟨Nat.le_refl _,by show i+0<=n;omega⟩
 |cons t ts ih=>
  intro i hi h;have k:=ih t.2.2 h.2.2.1 h.2.2.2;have e:Lx.lens (t::ts)=t.2.2-t.2.1+Lx.lens ts:=by simp[Lx.lens]
  rw[e];have h1:=h.1;have h2:=h.2.1;have h3:=h.2.2.1;simp only[List.length_cons];omega
theorem O0 (f:Nat->Nat) (n:Nat) (m:Nat):∀(i:Nat) (acc:List Tok),i<=n->n<i+m->(C7 f n m i acc).code=0 ->
  ∃ts,(C7 f n m i acc).toks=acc++(ts++[(5,n,n)])/\(∀t∈ts,Good f n t)/\Asc n i ts:=by
 induction m with
 |zero=>intro i acc hi hm;omega
 |succ m ih=>
  intro i acc hi hm hc;have hs:=OP f (n:=n) (i:=i) false hi;rw[C7]at hc ⊢;by_cases c1:skip f n i false=n
  · rw[if_pos c1];exact ⟨[],rfl,(fun t ht=>by cases ht),trivial⟩
  · rw[if_neg c1]at hc ⊢;by_cases c2:AQ f n (skip f n i false)≠0
    · rw[if_pos c2]at hc;exact absurd hc c2
    · rw[if_neg c2]at hc ⊢;have ht:=Ih f (n:=n) (i:=skip f n i false) (by omega);obtain ⟨ts,h1,h2,h3⟩:=ih _ _ (by omega) (by omega) hc;refine ⟨(AG (f (skip f n i false)),skip f n i false,BI f n (skip f n i false))::ts,?_,?_,?_⟩
      · rw[h1];simp
      · intro t h;rcases List.mem_cons.1 h with rfl|h
        · exact ⟨by dsimp only;omega,Decidable.not_not.1 c2,rfl,rfl⟩
        · exact h2 t h
      · exact ⟨hs.1,ht.1,ht.2,h3⟩
theorem O1 (f:Nat->Nat) (n:Nat) (m:Nat):∀(i:Nat) (acc:List Tok),(C7 f n m i acc).code≠0->(C7 f n m i acc).toks=[]:=by
 induction m with
 |zero=>intro i acc hc;exact absurd rfl hc
 |succ m ih=>
  intro i acc hc;rw[C7]at hc ⊢;by_cases c1:skip f n i false=n
  · rw[if_pos c1]at hc;exact absurd rfl hc
  · rw[if_neg c1]at hc ⊢;by_cases c2:AQ f n (skip f n i false)≠0
    · rw[if_pos c2]
    · rw[if_neg c2]at hc ⊢;exact ih _ _ hc
theorem EV {f:Nat->Nat} {n:Nat} (hc:(Ap f n).code=0):n<=16384/\∃ts,(Ap f n).toks=ts++[(5,n,n)]/\(∀t∈ts,Good f n t)/\Asc n 0 ts:=by
 unfold Ap at hc ⊢;by_cases c:16384<n
 · rw[if_pos c]at hc;cases hc
 · rw[if_neg c]at hc ⊢;refine ⟨by omega,?_⟩;obtain ⟨ts,h1,h2,h3⟩:=O0 f n (n+1) 0 [] (Nat.zero_le _) (by omega) hc;exact ⟨ts,h1,h2,h3⟩
theorem Gi {f:Nat->Nat} {n:Nat} (hc:(Ap f n).code≠0):(Ap f n).toks=[]:=by
 unfold Ap at hc ⊢;by_cases c:16384<n
 · rw[if_pos c]
 · rw[if_neg c]at hc ⊢;exact O1 f n _ _ _ hc
end
section
def gL (L:List Nat) (j:Nat):Nat:=L.getD j 0
def TR (c:Nat):Bool:=c==32 || c==9 || c==10 || c==35
def pass:List Nat->Bool->Bool
 |[],com=>!com
 |c::cs,com=>if c=10 then pass cs false else if c=35 then pass cs true else if com=false/\c≠32/\c≠9 then false else pass cs com
theorem Nc (p:Nat->Bool) (f:Nat->Nat) {n:Nat} (m:Nat):∀i,i+m=n->∀j,i<=j->j<stop p f n i->p (f j)=true:=by
 induction m with
 |zero=>
     intro i hi j h1 h2;obtain rfl:i=n:=by omega
     rw[Ff]at h2;omega
 |succ m ih=>
  intro i hi j h1 h2;rw[BS p f (show i<n by omega)]at h2;by_cases c:p (f i)=true
  · rw[if_pos c]at h2;by_cases e:j=i
    · rw[e];exact c
    · exact ih (i+1) (by omega) j (by omega) h2
  · rw[if_neg c]at h2;omega
theorem Qn {c:Nat} (h:TR c=true):c=32\/c=9\/c=10\/c=35:=by unfold TR at h;simpa[or_assoc] using h
def Sd (f:Nat->Nat) (t:Tok):List Nat:=(List.range' t.2.1 (t.2.2-t.2.1)).map f
def WY (f:Nat->Nat) (ps:List (List Nat×Tok)):List Nat:=(ps.map fun x=>x.1++Sd f x.2).flatten
theorem Qo {g:Nat->Nat} {N q:Nat} (hq:q<N) (h:TR (g q)=false):skip g N q false=q:=by
 rw[Ed g false hq];have h1:g q≠10:=fun e=>by rw[e]at h;cases h
 have h2:g q≠35:=fun e=>by rw[e]at h;cases h
 have h3:g q≠32:=fun e=>by rw[e]at h;cases h
 have h4:g q≠9:=fun e=>by rw[e]at h;cases h
 rw[if_neg h1,if_neg h2,if_pos ⟨rfl,h3,h4⟩]
end
section
def TS (c k d:Nat):Bool:=if Cd c=true then !CX d else if Be c=true then !Be d else if D8 c=true then true else decide (k=2) || !Ft c d
def Wc (k:Nat) (x:List Nat):Prop:=x≠[]/\AQ (gL x) x.length 0=0/\BI (gL x) x.length 0=x.length/\AG (gL x 0)=k
abbrev Piece:=List Nat×Nat×List Nat
def KJ (ps:List Piece):List Nat:=(ps.map fun x=>x.1++x.2.2).flatten
theorem O2 (x:Piece) (ps:List Piece):KJ (x::ps)=x.1++(x.2.2++KJ ps):=by simp[KJ]
def Fits:List Piece->List Nat->Prop
 |[],_=>True
 |x::ps,last=>(∀c cs,KJ ps++last=c::cs->TS (gL x.2.2 0) x.2.2.length c=true)/\Fits ps last
def Vo:Nat->List Piece->List Nat
 |_,[]=>[]
 |p,x::ps=>(p+x.1.length)::Vo (p+x.1.length+x.2.2.length) ps
end
section
def WZ:List (List Nat)->List Nat
 |[]=>[]
 |x::r=>x++(r.map (32::·)).flatten
def Xa:List Tok->List (List Nat×Tok)
 |[]=>[]
 |t::ts=>([],t)::ts.map (fun u=>([32],u))
def lastOf:List Tok->List Nat
 |[]=>[]
 |_::_=>[32]
def Xu (f g:Nat->Nat) (N:Nat) (ts:List Tok):Prop:=
 ∃ts',Ap g N=⟨ts'++[(5,N,N)],0,0⟩/\ts'.map (fun t=>(t.1,Sd g t))=ts.map (fun t=>(t.1,Sd f t))/\∀t∈ts',t.2.1<=t.2.2/\t.2.2<=N
def Xb (sp:Nat->List Nat):Nat->List Tok->List (List Nat×Tok)
 |_,[]=>[]
 |k,t::ts=>(sp k,t)::Xb sp (k+1) ts
def Xv (p q:Nat×Nat):Prop:=p.1<q.1\/(p.1=q.1/\p.2<q.2)
end
end Go.Proofs.YtgohmojcopajoaaGreatDoor.Lx
namespace Go.Proofs.YtgohmojcopajoaaGreatDoor
section
open Go.RowKit
open Lx
def XV (s:ByteArray):List Nat:=s.data.toList.map UInt8.toNat
def Xc (xs:List ByteArray):ByteArray:=⟨(Lib.join (xs.map (·.data.toList)) [32]).toArray⟩
end
end Go.Proofs.YtgohmojcopajoaaGreatDoor
namespace Go.Proofs.YtgohmojcopajoaaGreatDoor.Ex
section
open Lx
def bp (p:PT):Nat×List Nat:=(p.1,XV p.2)
def mk (s0:List Nat) (p:PT):Piece:=(s0,bp p)
def start (c:Nat):Bool:=Cd c || Be c || c==45 || c==33 || c==40
def TT (d:Nat):Bool:=!CX d&&!Be d&&d != 62&&d != 61&&d != 46
def Yf (r:List Nat):Prop:=∀c cs,r=c::cs->TT c=true
def Vp (m:Mn) (s0:List Nat):List Piece:=if m.num=eS then [mk s0 (1,m.var)] else if m.var=eS then [mk s0 (3,m.num)] else [mk s0 (3,m.num),mk [] (sg 42),mk [] (1,m.var)]
def Vq (l:List Mn):List Piece:=(l.map fun m=>mk [32] (sg (if m.neg then 45 else 43))::Vp m [32]).flatten
def U6:List Mn->List Nat->List Piece
 |[],_=>[]
 |m::l,s0=>(if m.neg then mk s0 (sg 45)::Vp m [] else Vp m s0)++Vq l
def Po (c:Bool) (g:List Nat->List Piece) (s0:List Nat):List Piece:=if c then mk s0 (sg 40)::(g []++[mk [] (sg 41)]) else g s0
def Se:Tr->List Nat->List Piece
 |.leaf true,s0=>[mk s0 (1,⟨#[116,114,117,101]⟩)]
 |.leaf false,s0=>[mk s0 (1,⟨#[102,97,108,115,101]⟩)]
 |.cmp l op r,s0=>U6 l s0++mk [32] (2,CR op)::U6 r [32]
 |.deny t,s0=>mk s0 (sg 33)::Po (Bp t || AR t) (Se t) []
 |.both a b,s0=>Po (AR a) (Se a) s0++mk [32] (sg 38)::Po (Bp b || AR b) (Se b) [32]
 |.any a b,s0=>Se a s0++mk [32] (sg 124)::Po (AR b) (Se b) [32]
def Xd (g:List Nat->List Piece):Prop:=∃k c cs ps,(∀s0,g s0=(s0,k,c::cs)::ps)/\start c=true
end
section
open Lx
def Xw (x:Piece):Prop:=Wc x.2.1 x.2.2/\pass x.1 false=true
end
section
open Lx
def U7:List Bool->List PT
 |[]=>[(1,⟨#[116,114,117,101]⟩)]
 |false::bs=>sg 40::(U7 bs++[sg 41])
 |true::bs=>sg 33::U7 bs
def U8:List Bool->Tr
 |[]=>.leaf true
 |false::bs=>U8 bs
 |true::bs=>.deny (U8 bs)
def Sf:Nat->List Bool->List PT
 |0,_=>[]
 |_+1,[]=>[]
 |k+1,false::bs=>Sf k bs++[sg 41]
 |k+1,true::bs=>Sf k bs
def Yg (o:ByteArray) (t:Tok):PT:=(t.1,o.extract t.2.1 t.2.2)
def Sg:List Bool->List Piece
 |[]=>[mk [] (1,⟨#[116,114,117,101]⟩)]
 |false::bs=>mk [] (sg 40)::(Sg bs++[mk [] (sg 41)])
 |true::bs=>mk [] (sg 33)::Sg bs
end
section
open Lx
def ub (s:ByteArray):List UInt8:=s.data.toList
def Xe (l:List UInt8):List Nat:=l.map UInt8.toNat
theorem U9 (l:List UInt8):ub ⟨l.toArray⟩=l:=by simp[ub]
def Si (m:Mn):List UInt8:=ub m.num++((if m.num≠eS/\m.var≠eS then [42] else [])++ub m.var)
def Sj (first neg:Bool):List UInt8:=if first then (if neg then [45] else []) else (if neg then [32,45,32] else [32,43,32])
def Ca:Bool->List Mn->List UInt8
 |_,[]=>[]
 |f,m::l=>Sj f m.neg++(Si m++Ca false l)
def Dx (c:Bool) (l:List UInt8):List UInt8:=if c then 40::(l++[41]) else l
def AC:Tr->List UInt8
 |.leaf true=>[116,114,117,101]
 |.leaf false=>[102,97,108,115,101]
 |.cmp l op r=>Ca true l++(32::(ub (CR op)++32::Ca true r))
 |.deny t=>33::Dx (Bp t || AR t) (AC t)
 |.both a b=>Dx (AR a) (AC a)++([32,38,32]++Dx (Bp b || AR b) (AC b))
 |.any a b=>AC a++([32,124,32]++Dx (AR b) (AC b))
theorem J0 (s0:List Nat) (p:PT) (ps:List Piece):KJ (mk s0 p::ps)=s0++(Xe (ub p.2)++KJ ps):=by rw[O2];rfl
end
end Go.Proofs.YtgohmojcopajoaaGreatDoor.Ex
namespace Go.Proofs.YtgohmojcopajoaaGreatDoor.Nu
section
open Go.Shelf
def Tryz.bString_ren:Go.Shelf.Ren:=⟨fun|169=>37|n=>n,fun|70=>89|9=>9|0=>0|72=>92|37=>90|127=>132|3=>3|5=>5|n=>n,fun|n=>n⟩
theorem Tryz.bString:Go.Proofs.Lays.n169 Tryz.prog Tryz.bString_ren:={
 mixed:=by kernel_rfl
 f169:=Tryz.func37.trans (congrArg some (by kernel_rfl))
 t0:=Tryz.underlying0
 a0:=Tryz.isAgg0
 z0:=Tryz.sizeOf0
 v0:=Tryz.zeroValue0
 t3:=Tryz.underlying3
 a3:=Tryz.isAgg3
 z3:=Tryz.sizeOf3
 v3:=Tryz.zeroValue3
 t9:=Tryz.underlying9
 a9:=Tryz.isAgg9
 z9:=Tryz.sizeOf9
 v9:=Tryz.zeroValue9
 t37:=Tryz.underlying90
 a37:=Tryz.isAgg90
 z37:=Tryz.sizeOf90
 v37:=Tryz.zeroValue90
 t70:=Tryz.underlying89
 a70:=Tryz.isAgg89
 z70:=Tryz.sizeOf89
 v70:=Tryz.zeroValue89
 t72:=Tryz.underlying92
 a72:=Tryz.isAgg92
 z72:=Tryz.sizeOf92
 v72:=Tryz.zeroValue92
 t127:=Tryz.underlying132
 a127:=Tryz.isAgg132
 z127:=Tryz.sizeOf132
 v127:=Tryz.zeroValue132 }
end
section
open Go.RowKit
theorem An.next {g:Nat} {a b c:World} (h:An g a b) (k:Below b.heap.size b c):An g a c:=h.trans ⟨k.os,k.tape,k.output,k.size,fun i hi _=>k.block i hi⟩
end
end Go.Proofs.YtgohmojcopajoaaGreatDoor.Nu
