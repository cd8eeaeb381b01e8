/- Texts of one seat, put together: DelQ. -/
import Derived.Test.YtmedjkhmadfjlaaGreatR14
set_option linter.unusedVariables false
set_option linter.unusedSimpArgs false
set_option maxRecDepth 100000
set_option maxHeartbeats 16000000
namespace Go.Proofs.YtmedjkhmadfjlaaGreat
section
open Go.RowKit
open Tm
theorem AF.parts {w:World} {base n c k:Nat} {A:Option Addr} {ps:List PV} (h:AF 47 3 w base (.slice A n c) n (flat ps)) (hl:ps.length=n) (hz:∀p∈ps,BO w p.num p.Z k):AJ w A n ps k:=by refine ⟨hl,fun hn=>?_,hz⟩;obtain ⟨g,rfl,-,-,hc⟩:=h.cell hn;exact ⟨g,0,rfl,fun j u hu=>by rw[Nat.zero_add];exact (hc j u hu).1⟩
def TO (v:Value) (ps:List PV) (k:Nat) (w:World) (e:Ending) (w':World):Prop:=∃A n c,e=.returned (.slice A n c)/\AJ w' A n (ps.filter nz) k/\n<=c/\c<=9223372036854775807/\w.grownBy w' v.ownBlock
def EU (base g n c:Nat) (ps:List PV) (w:World) (i j:Nat) (wr:World):Prop:=
 ∃rs:List PV,rs.length=n/\AF 47 3 wr base (.slice (some ⟨g,0,none⟩) n c) n (flat rs)/\rs.take i=(ps.take j).filter nz/\rs.drop j=ps.drop j/\AA g w wr/\Kp w wr
theorem KQ {α:Type} (l:List α) (i:Nat) (x:α) (h:i<l.length):(l.set i x).take (i+1)=l.take i++[x]:=by rw[List.take_add_one,List.take_set_of_le (Nat.le_refl _)];simp[h]
theorem EU.keep {base g n c i j k:Nat} {ps:List PV} {w wr w1:World} {p:PV} (h:EU base g n c ps w i j wr) (hp:ps[j]?=some p) (hz:nz p=true) (hij:i<j) (hj:j<n) (hb:Below wr.heap.size wr w1) :
   EU base g n c ps w (i+1) (j+1) (((w1.setCell ⟨g,i*3,none⟩ (.int .i64 p.v)).setCell ⟨g,i*3+1,none⟩ (.bool p.s)).setCell ⟨g,i*3+2,none⟩ (.slice p.B p.m p.d)):=by
 obtain ⟨rs,h1,h2,h3,h4,h5,h6⟩:=h;have h7:=h2.below hb;have o3:AA g w1 (((w1.setCell ⟨g,i*3,none⟩ (.int .i64 p.v)).setCell ⟨g,i*3+1,none⟩ (.bool p.s)).setCell ⟨g,i*3+2,none⟩ (.slice p.B p.m p.d)):=(((AA.refl g w1).setCell _ _).setCell _ _).setCell _ _;refine ⟨rs.set i p,by simpa using h1,?_,?_,?_,?_,?_⟩
 · rw[<-Na rs i p (by omega)];exact ((h7.set (NL.i64 _)).set (NL.bool _)).set (NL.slice _ _ _)
 · rw[KQ _ _ _ (by omega),h3,List.take_add_one,hp,List.filter_append];simp[hz]
 · rw[List.drop_set_of_lt (by omega)];have:=congrArg (List.drop 1) h4;simpa[List.drop_drop,Nat.add_comm] using this
 · exact h5.trans (AA.trans (show AA g wr w1 from ⟨hb.os,hb.tape,hb.output,hb.size,fun k hk _=>hb.block k hk⟩) o3)
 · exact h6.trans ((Kp.of_below hb).trans (h7.kp o3))
theorem EU.drop_ {base g n c i j:Nat} {ps:List PV} {w wr w1:World} {p:PV} (h:EU base g n c ps w i j wr) (hp:ps[j]?=some p) (hz:nz p=false) (hb:Below wr.heap.size wr w1):EU base g n c ps w i (j+1) w1:=by
 obtain ⟨rs,h1,h2,h3,h4,h5,h6⟩:=h;refine ⟨rs,h1,h2.below hb,?_,?_,?_,h6.trans (Kp.of_below hb)⟩
 · rw[h3,List.take_add_one,hp,List.filter_append];simp[hz]
 · have:=congrArg (List.drop 1) h4;simpa[List.drop_drop,Nat.add_comm] using this
 · exact h5.trans ⟨hb.os,hb.tape,hb.output,hb.size,fun k hk _=>hb.block k hk⟩
theorem JN (base n c k:Nat) (A:Option Addr) (ps:List PV) (w:World) (h:AF 47 3 w base (.slice A n c) n (flat ps)) (hz:∀p∈ps,BO w p.num p.Z k) (hn:n<=1099511627) (hk:k<=1099511627776) :
   Calls Tryz.prog 167 #[.slice A n c,.func (.func 168) #[] #[]] w (TO (.slice A n c) ps k w):=by
 have hl:ps.length=n:=by have:=h.1;rw[Dp]at this;omega
 have hi:=KP A n c ps k w (h.parts hl hz) hn hk;obtain ⟨A',c',hv,hc1,hc2,hg⟩:=h.len;injection hv with e1 e2 e3
 subst e1 e3;go_enter Tryz.func167,Tryz.ntmps167;go_wp2_with fail;refine hi.mono ?_;rintro e w1 ⟨r,rfl,b1,⟨rfl,hall⟩|⟨i0,rfl,hi0,htake,hat⟩⟩
 · have HP:=Ac (show ps.filter nz=ps from List.filter_eq_self.2 hall);have HL:=Ac ((h.below b1).parts hl (fun p hp=>(hz p hp).below b1));clear hall h hz hi;go_wp2_with fail;go_ret
   exact ⟨A,n,c,rfl,by rw[HP.out];exact HL.out,hc1,hc2,⟨b1.os,b1.tape,b1.output,b1.size,fun k hk _=>b1.block k hk⟩⟩
 · obtain ⟨g,rfl⟩:=hg (by omega);have hne:((i0:Int)==-1)=false:=(by simp);have HZ:=Ac hz;have hi0n:i0<n:=(by omega);have HS:=Ac (show EU base g n c ps w i0 (i0+1) w1 from ⟨ps,hl,h.below b1,by
    obtain ⟨p,hp⟩:∃p,ps[i0]?=some p:=⟨_,List.getElem?_eq_getElem hi0⟩;rw[List.take_add_one,hp,List.filter_append,List.filter_eq_self.2 htake];simp[hat p hp],rfl,⟨b1.os,b1.tape,b1.output,b1.size,fun k hk _=>b1.block k hk⟩,Kp.of_below b1⟩)
   clear htake hat h hz hi;have hlen:=Ac hl;clear hl hi0;go_wp2_with fail;go_loopw [5,6] (fun x y wr=>∃i j:Nat,i<j/\j<=n/\x=.int .i64 i/\y=.int .i64 j/\Hid (EU base g n c ps w i j wr)) (fun _ y _=>n-(intOf y).toNat)
   case atStart=>exact ⟨i0,i0+1,by omega,by omega,rfl,by go_num,HS⟩
   case round=>
    obtain ⟨i,j,hij,hjn,rfl,rfl,HR⟩:=hrel;by_cases hj:j<n
    · obtain ⟨p,hp⟩:∃p,ps[j]?=some p:=⟨_,List.getElem?_eq_getElem (by have:=hlen.out;omega)⟩;have hcells:wr.cell? ⟨g,j*3,none⟩=some (.int .i64 p.v)/\wr.cell? ⟨g,j*3+1,none⟩=some (.bool p.s)/\wr.cell? ⟨g,j*3+2,none⟩=some (.slice p.B p.m p.d)/\g<wr.heap.size:=by
        obtain ⟨rs,h1,h2,h3,h4,h5,h6⟩:=HR.out;have hr:rs[j]?=some p:=by have:=congrArg (fun l=>l[0]?) h4;simpa[List.getElem?_drop,hp] using this
        obtain ⟨g',e',-,hlt,hc⟩:=h2.cell (by omega);injection e' with e'
        injection e' with e'
        subst e';obtain ⟨g0,g1,g2⟩:=flat_get rs j p hr;rw[show 3*j=j*3 by omega]at g0 g1 g2;exact ⟨(hc _ _ g0).1,(hc _ _ g1).1,(hc _ _ g2).1,hlt⟩
      obtain ⟨c0,c1,c2,hgl⟩:=hcells;have hzp:BO wr p.num p.Z k:=(HZ.out p (List.mem_of_getElem? hp)).kp (by obtain ⟨_,_,_,_,_,_,h6⟩:=HR.out;exact h6);obtain ⟨z0,z1,-⟩:=Bh 47 wr #[.int .i64 p.v,.bool p.s,.slice p.B p.m p.d];have hcon:=JM p k _ (hzp.below z1) hk;unfold PV.agg at hcon;have x0:=z0.c0;have x1:=z0.c1;have x2:=z0.c2;by_cases h0:p.Z=0
      · have HD:=Ac (show ∀w2,Below wr.heap.size wr w2->EU base g n c ps w i (j+1) w2 from fun w2 hb=>HR.out.drop_ hp (by simp[nz,h0]) hb);rw[show decide (p.Z=0)=true by simpa using h0]at hcon;clear h0 hp hzp;generalize p.v=pv at *;generalize p.s=psg at *;generalize p.B=pB at *;generalize p.m=pm at *;generalize p.d=pd at *;go_wp2_with fail;refine hcon.mono ?_;rintro e w2 ⟨rfl,b2⟩;go_wp2_with fail;go_roundw
        case rel=>exact ⟨i,j+1,by omega,by omega,rfl,by go_num,Lib.hid (HD.out _ (z1.next b2))⟩
        case measure=>simp[intOf]<;>omega
      · have HD:=Ac (show ∀w2,Below wr.heap.size wr w2->EU base g n c ps w (i+1) (j+1) (((w2.setCell ⟨g,i*3,none⟩ (.int .i64 p.v)).setCell ⟨g,i*3+1,none⟩ (.bool p.s)).setCell ⟨g,i*3+2,none⟩ (.slice p.B p.m p.d)) from fun w2 hb=>HR.out.keep hp (by simp[nz,h0]) hij hj hb (k:=k));rw[show decide (p.Z=0)=false by simpa using h0]at hcon
        have hcd:∀w2,Below wr.heap.size wr w2->(∃u0 u1 u2,w2.cell? ⟨g,i*3,none⟩=some u0/\w2.cell? ⟨g,i*3+1,none⟩=some u1/\w2.cell? ⟨g,i*3+2,none⟩=some u2)/\w2.frozen? ⟨g,i*3,none⟩=false/\w2.frozen? ⟨g,i*3+1,none⟩=false/\w2.frozen? ⟨g,i*3+2,none⟩=false:=by
         intro w2 hb;obtain ⟨rs,h1,h2,h3,h4,h5,h6⟩:=HR.out;obtain ⟨q,hq⟩:∃q,rs[i]?=some q:=⟨_,List.getElem?_eq_getElem (by omega)⟩;obtain ⟨g',e',-,hlt,hc⟩:=(h2.below hb).cell (by omega);injection e' with e'
         injection e' with e'
         subst e';obtain ⟨g0,g1,g2⟩:=flat_get rs i q hq;rw[show 3*i=i*3 by omega]at g0 g1 g2;exact ⟨⟨_,_,_,(hc _ _ g0).1,(hc _ _ g1).1,(hc _ _ g2).1⟩,(hc _ _ g0).2,(hc _ _ g1).2,(hc _ _ g2).2⟩
        have HC:=Ac hcd;clear h0 hp hzp hcd;generalize p.v=pv at *;generalize p.s=psg at *;generalize p.B=pB at *;generalize p.m=pm at *;generalize p.d=pd at *;go_wp2_with fail;refine hcon.mono ?_;rintro e w2 ⟨rfl,b2⟩;have tb:=z1.next b2;obtain ⟨⟨u0,u1,u2,d0,d1,d2⟩,f0,f1,f2⟩:=HC.out _ tb;have y0:=(z0.next b2).c0;have y1:=(z0.next b2).c1;have y2:=(z0.next b2).c2;have HT:=Ac tb;clear tb z0 z1 x0 x1 x2 c0 c1 c2;go_wp2_with fail;go_roundw
        case rel=>exact ⟨i+1,j+1,by omega,by omega,by go_num,by go_num,Lib.hid (HD.out _ HT.out)⟩
        case measure=>simp[intOf]<;>omega
    · obtain rfl:j=n:=(by omega);have hR:=HR.out;obtain ⟨rs,h1,h2,h3,h4,h5,h6⟩:=hR;have H3:=Ac h3;have H5:=Ac h5;have H6:=Ac h6;clear h3 h4 h5 h6 HR;go_wp2_with (with_reducible refine GL rfl _ rfl base g j c i (j-i) (c-i) rs h1 h2 rfl (by omega) (by omega) ?_;intro w3 h8 ho8);go_ret
      have e3:rs.take i=ps.filter nz:=(by rw[H3.out,List.take_of_length_le (by have:=hlen.out;omega)]);rw[e3]at h8;refine ⟨_,i,c,rfl,h8.parts ?_ (fun p hp=>((HZ.out p (List.mem_filter.1 hp).1).kp H6.out).kp (h2.kp ho8)),by omega,hc2,H5.out.trans ho8⟩;rw[<-e3,List.length_take];omega
end
end Go.Proofs.YtmedjkhmadfjlaaGreat
