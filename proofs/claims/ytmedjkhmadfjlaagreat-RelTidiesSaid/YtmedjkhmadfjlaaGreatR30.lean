/- Texts of one seat, put together: TCmp RelCmp. -/
import Derived.Test.YtmedjkhmadfjlaaGreatR19
import Derived.Test.YtmedjkhmadfjlaaGreatR08
import Derived.Test.YtmedjkhmadfjlaaGreatR29
import Derived.Test.YtmedjkhmadfjlaaGreatR22
import Derived.Test.YtmedjkhmadfjlaaGreatR25
set_option linter.unusedVariables false
set_option linter.unusedSimpArgs false
set_option maxRecDepth 100000
set_option maxHeartbeats 16000000
namespace Go.Proofs.YtmedjkhmadfjlaaGreat
section
open Go.RowKit
open Tm
def IJ:List Int->Int
 |[]=>0
 |x::xs=>if x≠0 then x else IJ xs
theorem S2 {x:Int} {xs:List Int} (h:x=0):IJ (x::xs)=IJ xs:=by rw[IJ,if_neg (by simp[h])]
theorem Vf {x:Int} {xs:List Int} (h:x≠0):IJ (x::xs)=x:=by rw[IJ,if_pos h]
theorem Pu (x y:Int):IJ [x,y]=E4 x y:=by
 unfold IJ IJ IJ E4;by_cases h:x=0
 · by_cases h2:y=0
   · simp[h,h2]
   · simp[h,h2]
 · simp[h]
theorem GW.two {w:World} {g:Nat} {x y:Int} (h:AK 3 w g #[.int .i64 x,.int .i64 y]):GW w (some ⟨g,0,Option.none⟩) 2 [x,y]:=
 ⟨rfl,fun _=>⟨g,0,rfl,fun j u hu=>by rw[Nat.zero_add];exact h.cell j u (by simpa[ints] using hu)⟩⟩
theorem S3 (A:Option Addr) (n c:Nat) (xs:List Int) (w:World) (hx:GW w A n xs) (hn:n<=9223372036854775807):Calls Tryz.prog 78 #[.slice A n c] w (fun e w'=>e=.returned (.int .i64 (IJ xs))/\w'=w):=by
 have HL:=Ac hx.1;go_enter Tryz.func78,Tryz.ntmps78;go_wp2_with fail;have HS:=Ac (show IJ (xs.drop 0)=IJ xs from rfl);go_loop [8] (fun i=>∃q:Nat,q<=n/\i=.int .i64 q/\Hid (IJ (xs.drop q)=IJ xs)) (fun i=>n-(intOf i).toNat)
 case atStart=>exact ⟨0,Nat.zero_le _,rfl,HS⟩
 case round=>
  obtain ⟨q,hq,rfl,HR⟩:=hrel;by_cases hqn:q<n
  · obtain ⟨bb,o,x,rfl,hlt,hxq,c0⟩:=hx.at_ hqn;have HD:=Ac (DL hxq);clear hxq;by_cases h0:x=0
    · have hb:(x != 0)=false:=(by simp[h0]);have HE:=Ac (show IJ (xs.drop (q+1))=IJ xs by rw[<-HR.out,HD.out,S2 h0]);clear h0;go_wp2_with fail;go_round
      case rel=>exact ⟨q+1,by omega,by go_num,HE⟩
      case measure=>simp[intOf]<;>omega
    · have hb:(x != 0)=true:=(by simp[h0]);have HE:=Ac (show IJ xs=x by rw[<-HR.out,HD.out,Vf h0]);clear h0;go_wp2_with fail;go_ret
      exact ⟨by rw[HE.out];rfl,rfl⟩
  · have HE:=Ac (show IJ xs=0 by rw[<-HR.out,List.drop_of_length_le (by rw[HL.out];omega)];rfl);go_wp2_with fail;go_ret
    exact ⟨by rw[HE.out];rfl,rfl⟩
theorem S4 (x y:PV) (k:Nat) (w0:World) (hx:BO w0 x.num x.Z k) (hy:BO w0 y.num y.Z k) (hk:k<=1099511627776):Calls Tryz.prog 116 #[x.agg,y.agg] w0 (fun e w'=>e=.returned (.int .i64 (E4 (AP x.v y.v) (AP x.Z y.Z)))/\Below w0.heap.size w0 w'):=by
 obtain ⟨xv,xs,xB,xm,xd,xZ⟩:=x;obtain ⟨yv,ys,yB,ym,yd,yZ⟩:=y;obtain ⟨z0,z1,z2,-⟩:=Bi 47 47 w0 #[.int .i64 xv,.bool xs,.slice xB xm xd] #[.int .i64 yv,.bool ys,.slice yB ym yd];show Calls _ _ #[.agg #[.int .i64 xv,.bool xs,.slice xB xm xd],.agg #[.int .i64 yv,.bool ys,.slice yB ym yd]] _ _;dsimp only
 have hx:BO w0 (.agg #[.bool xs,.slice xB xm xd]) xZ k:=hx;have hy:BO w0 (.agg #[.bool ys,.slice yB ym yd]) yZ k:=hy;go_enter Tryz.func116,Tryz.ntmps116;go_wp2_with fail;generalize hW0:((w0.alloc (.cells #[.int .i64 xv,.bool xs,.slice xB xm xd] 47)).alloc (.cells #[.int .i64 yv,.bool ys,.slice yB ym yd] 47))=W0 at *;clear hW0;have HX:=Ac (hx.below z2);have HY:=Ac (hy.below z2);have T0:=Ac z2
 have SOF:=Ac (show ∀W,Below W0.heap.size W0 W->(W.cell? ⟨w0.heap.size,0,none⟩=some (.int .i64 xv)/\W.cell? ⟨w0.heap.size,1,none⟩=some (.bool xs)/\W.cell? ⟨w0.heap.size,2,none⟩=some (.slice xB xm xd)/\W.cell? ⟨w0.heap.size+1,0,none⟩=some (.int .i64 yv)/\W.cell? ⟨w0.heap.size+1,1,none⟩=some (.bool ys)/\W.cell? ⟨w0.heap.size+1,2,none⟩=some (.slice yB ym yd)) from fun W h=>⟨(z0.next h).c0,(z0.next h).c1,(z0.next h).c2,(z1.next h).c0,(z1.next h).c1,(z1.next h).c2⟩)
 clear z0 z1 z2 hx hy
 refine AO (by kernel_rfl) (by kernel_rfl) (by kernel_rfl) (fun w w'=>Below w.heap.size w w') (fun j v w=>match j with|0=>v=.pointer (some ⟨w0.heap.size,0,none⟩)|1=>v=.int .i64 xv|2=>v=.pointer (some ⟨w0.heap.size+1,0,none⟩)|3=>v=.int .i64 yv|4=>v=.int .i64 (AP xv yv)|5=>v=.pointer (some ⟨w0.heap.size,1,none⟩)|6=>v=.agg #[.bool xs,.slice xB xm xd]|7=>v=.pointer (some ⟨w0.heap.size+1,1,none⟩)|8=>v=.agg #[.bool ys,.slice yB ym yd]|9=>v=.int .i64 (AP xZ yZ)|10=>∃g,v=.slice (some ⟨g,0,none⟩) 2 2/\AK 3 w g #[.int .i64 (AP xv yv),.int .i64 (AP xZ yZ)]|11=>v=.int .i64 (IJ [AP xv yv,AP xZ yZ])|12=>v=.int .i64 (IJ [AP xv yv,AP xZ yZ])|_=>True) (fun _ _ w=>Below W0.heap.size W0 w) ?_ (fun _=>Ap W0 1) ?_ ?_
 · intro j v w w' hT h;match j,h with
   |0,h=>exact h
   |1,h=>exact h
   |2,h=>exact h
   |3,h=>exact h
   |4,h=>exact h
   |5,h=>exact h
   |6,h=>exact h
   |7,h=>exact h
   |8,h=>exact h
   |9,h=>exact h
   |10,h=>exact (by obtain ⟨g,e,h1⟩:=h;exact ⟨g,e,h1.next hT⟩)
   |11,h=>exact h
   |12,h=>exact h
   |j+13,h=>trivial
 · refine ⟨?_,?_,?_,?_,?_,?_,?_,?_,?_,?_,?_,?_,?_,trivial⟩
   · intro l9 σ w a hin hout hl hc hp hG hF;refine Ad.none rfl ?_;have e2:a.tmps.getD 2 undef=.pointer (some ⟨w0.heap.size,0,none⟩):=hout 2 (Ae (by kernel_rfl));refine Does.val (.pointer (some ⟨w0.heap.size,0,none⟩)) (w':=w) ?_ ⟨Below.refl _ _,rfl,hG⟩;simp only[Array.getD_eq_getD_getElem?]at e2;go_simp
   · intro l9 σ w a hin hout hl hc hp hG hF;refine Ad.none rfl ?_;have e5:a.tmps.getD 5 undef=.pointer (some ⟨w0.heap.size,0,none⟩):=Am (hin 0 5) rfl (hp ⟨0,.data⟩ (by simp) rfl) (hF 0);have CC:=SOF.out w hG;obtain ⟨C0,C1,C2,D0,D1,D2⟩:=CC;refine Does.val (.int .i64 xv) (w':=w) ?_ ⟨Below.refl _ _,rfl,hG⟩;go_simp
   · intro l9 σ w a hin hout hl hc hp hG hF;refine Ad.none rfl ?_;have e3:a.tmps.getD 3 undef=.pointer (some ⟨w0.heap.size+1,0,none⟩):=hout 3 (Ae (by kernel_rfl));refine Does.val (.pointer (some ⟨w0.heap.size+1,0,none⟩)) (w':=w) ?_ ⟨Below.refl _ _,rfl,hG⟩;simp only[Array.getD_eq_getD_getElem?]at e3;go_simp
   · intro l9 σ w a hin hout hl hc hp hG hF;refine Ad.none rfl ?_;have e7:a.tmps.getD 7 undef=.pointer (some ⟨w0.heap.size+1,0,none⟩):=Am (hin 2 7) rfl (hp ⟨2,.data⟩ (by simp) rfl) (hF 2);have CC:=SOF.out w hG;obtain ⟨C0,C1,C2,D0,D1,D2⟩:=CC;refine Does.val (.int .i64 yv) (w':=w) ?_ ⟨Below.refl _ _,rfl,hG⟩;go_simp
   · intro l9 σ w a hin hout hl hc hp hG hF;refine Ad.none rfl ?_;have e6:a.tmps.getD 6 undef=.int .i64 xv:=Am (hin 1 6) rfl (hp ⟨1,.data⟩ (by simp) rfl) (hF 1);have e8:a.tmps.getD 8 undef=.int .i64 yv:=Am (hin 3 8) rfl (hp ⟨3,.data⟩ (by simp) rfl) (hF 3);refine Does.call ?_ (Ix xv yv w) ?_
     · go_simp
     · rintro e w' ⟨rfl,rfl⟩;exact ⟨_,rfl,Below.refl _ _,rfl,hG⟩
   · intro l9 σ w a hin hout hl hc hp hG hF;refine Ad.none rfl ?_;have e2:a.tmps.getD 2 undef=.pointer (some ⟨w0.heap.size,0,none⟩):=hout 2 (Ae (by kernel_rfl));refine Does.val (.pointer (some ⟨w0.heap.size,1,none⟩)) (w':=w) ?_ ⟨Below.refl _ _,rfl,hG⟩;simp only[Array.getD_eq_getD_getElem?]at e2;go_simp
   · intro l9 σ w a hin hout hl hc hp hG hF;refine Ad.none rfl ?_;have e10:a.tmps.getD 10 undef=.pointer (some ⟨w0.heap.size,1,none⟩):=Am (hin 5 10) rfl (hp ⟨5,.data⟩ (by simp) rfl) (hF 5);have CC:=SOF.out w hG;obtain ⟨C0,C1,C2,D0,D1,D2⟩:=CC;refine Does.val (.agg #[.bool xs,.slice xB xm xd]) (w':=w) ?_ ⟨Below.refl _ _,rfl,hG⟩;go_simp
   · intro l9 σ w a hin hout hl hc hp hG hF;refine Ad.none rfl ?_;have e3:a.tmps.getD 3 undef=.pointer (some ⟨w0.heap.size+1,0,none⟩):=hout 3 (Ae (by kernel_rfl));refine Does.val (.pointer (some ⟨w0.heap.size+1,1,none⟩)) (w':=w) ?_ ⟨Below.refl _ _,rfl,hG⟩;simp only[Array.getD_eq_getD_getElem?]at e3;go_simp
   · intro l9 σ w a hin hout hl hc hp hG hF;refine Ad.none rfl ?_;have e12:a.tmps.getD 12 undef=.pointer (some ⟨w0.heap.size+1,1,none⟩):=Am (hin 7 12) rfl (hp ⟨7,.data⟩ (by simp) rfl) (hF 7);have CC:=SOF.out w hG;obtain ⟨C0,C1,C2,D0,D1,D2⟩:=CC;refine Does.val (.agg #[.bool ys,.slice yB ym yd]) (w':=w) ?_ ⟨Below.refl _ _,rfl,hG⟩;go_simp
   · intro l9 σ w a hin hout hl hc hp hG hF;refine Ad.none rfl ?_;have e11:a.tmps.getD 11 undef=.agg #[.bool xs,.slice xB xm xd]:=Am (hin 6 11) rfl (hp ⟨6,.data⟩ (by simp) rfl) (hF 6);have e13:a.tmps.getD 13 undef=.agg #[.bool ys,.slice yB ym yd]:=Am (hin 8 13) rfl (hp ⟨8,.data⟩ (by simp) rfl) (hF 8)
     refine Does.call ?_ ((show Calls Tryz.prog 72 #[.agg #[.bool xs,.slice xB xm xd],.agg #[.bool ys,.slice yB ym yd]] w (BE xZ yZ w) from MK _ _ xZ yZ k w (HX.out.below hG) (HY.out.below hG) (by omega))) ?_
     · go_simp
     · rintro e w' ⟨rfl,hb⟩;exact ⟨_,rfl,hb,rfl,hG.next hb⟩
   · intro l9 σ w a hin hout hl hc hp hG hF;refine Ad.none rfl ?_;have e9:a.tmps.getD 9 undef=.int .i64 (AP xv yv):=Am (hin 4 9) rfl (hp ⟨4,.data⟩ (by simp) rfl) (hF 4);have e14:a.tmps.getD 14 undef=.int .i64 (AP xZ yZ):=Am (hin 9 14) rfl (hp ⟨9,.data⟩ (by simp) rfl) (hF 9);refine Does.val (.slice (some ⟨w.heap.size,0,none⟩) 2 2) (w':=w.alloc (.cells #[.int .i64 (AP xv yv),.int .i64 (AP xZ yZ)] 3)) ?_ ⟨Af w _,⟨w.heap.size,rfl,AK.new _ _ _⟩,hG.next (Af w _)⟩
     simp only[Array.getD_eq_getD_getElem?]at e9 e14;go_simp
   · intro l9 σ w a hin hout hl hc hp hG hF;refine Ad.none rfl ?_;have e15:=hin 10 15 rfl (hp ⟨10,.data⟩ (by simp) rfl);obtain ⟨g10,ev10,x10⟩:=hF 10 (hp ⟨10,.data⟩ (by simp) rfl);rw[ev10]at e15;refine Does.call ?_ (S3 (some ⟨g10,0,none⟩) 2 2 [AP xv yv,AP xZ yZ] w (GW.two x10) (by omega)) ?_
     · go_simp
     · rintro e w' ⟨rfl,rfl⟩;exact ⟨_,rfl,Below.refl _ _,rfl,hG⟩
   · intro l9 σ w a hin hout hl hc hp hG hF;refine Ad.none rfl ?_;have e16:a.tmps.getD 16 undef=.int .i64 (IJ [AP xv yv,AP xZ yZ]):=Am (hin 11 16) rfl (hp ⟨11,.data⟩ (by simp) rfl) (hF 11);refine Does.val (.int .i64 (IJ [AP xv yv,AP xZ yZ])) (w':=w) ?_ ⟨Below.refl _ _,rfl,hG⟩;simp only[Array.getD_eq_getD_getElem?]at e16;go_simp
 · intro l9 σ W9 hall hG hF;rw[show mid _ σ l9 _=(Act.put (Act.put (Act.put (Act.put (Act.put (Act.put (Act.put (Act.put (Act.put (Act.put (Act.put (Act.put (Act.put _ (some 5) (σ 0)) (some 6) (σ 1)) (some 7) (σ 2)) (some 8) (σ 3)) (some 9) (σ 4)) (some 10) (σ 5)) (some 11) (σ 6)) (some 12) (σ 7)) (some 13) (σ 8)) (some 14) (σ 9)) (some 15) (σ 10)) (some 16) (σ 11)) (some 4) (σ 12)) from (AU hall).trans rfl];generalize σ 0=tt0;generalize σ 1=tt1;generalize σ 2=tt2
   generalize σ 3=tt3;generalize σ 4=tt4;generalize σ 5=tt5;generalize σ 6=tt6;generalize σ 7=tt7;generalize σ 8=tt8;generalize σ 9=tt9;generalize σ 10=tt10;generalize σ 11=tt11;rw[show σ 12=.int .i64 (IJ [AP xv yv,AP xZ yZ]) from hF 12 (by decide)];simp only[Act.put,List.setIfInBounds_toArray,List.set_cons_zero,List.set_cons_succ];have TG:=hG;clear hF hG hall;clear σ;have HT:=Ac (T0.out.next TG);clear TG SOF HX HY;rw[Pu];generalize hr:E4 (AP xv yv) (AP xZ yZ)=r at *
   have HRR:=Ac hr;clear hr;go_wp2_with fail;go_ret
   exact ⟨by rw[HRR.out];rfl,HT.out⟩
theorem Ns:∀args w,(callFunc 116 args).run Tryz.prog w=.ok (.enter 116 args) w:=enters_of Tryz.func116 (by kernel_rfl) rfl
theorem TU {L M:List (Int×Int)} {q:Nat} {u c v d:Int} (h:L[q]?=some (u,c)) (h':M[q]?=some (v,d)):cmpL (L.drop q) (M.drop q)=if E4 (AP u v) (AP c d)≠0 then E4 (AP u v) (AP c d) else cmpL (L.drop (q+1)) (M.drop (q+1)):=by
 rw[DL h,DL h',cmpL];unfold E4;by_cases h1:AP u v=0
 · simp[h1]
 · simp[h1]
theorem IK (A:Option Addr) (n c:Nat) (B:Option Addr) (m d:Nat) (L M:List (Int×Int)) (k:Nat) (w0:World) (hx:FE w0 A n L k) (hy:FE w0 B m M k) (hn:n<=9223372036854775807) (hm:m<=9223372036854775807) (hk:k<=1099511627776) :
  Calls Tryz.prog 114 #[.slice A n c,.slice B m d,.func (.func 116) #[] #[]] w0 (fun e w'=>e=.returned (.int .i64 (cmpL L M))/\Below w0.heap.size w0 w'):=by
 have HL:=Ac hx.len;have HM:=Ac hy.len;have HX:=Ac hx;have HY:=Ac hy;have eg:=Ns;clear hx hy;go_enter Tryz.func114,Tryz.ntmps114;go_wp2_with fail;have HB0:=Ac (Below.refl w0.heap.size w0);go_loopw [13] (fun i wr=>∃q:Nat,q<=n/\i=.int .i64 q/\q<=m/\Hid (cmpL (L.drop q) (M.drop q)=cmpL L M)/\Hid (Below w0.heap.size w0 wr)) (fun i _=>n-(intOf i).toNat)
 case atStart=>exact ⟨0,Nat.zero_le _,rfl,Nat.zero_le _,Lib.hid rfl,HB0⟩
 case round=>
  obtain ⟨q,hq,rfl,hqm,HR,HB⟩:=hrel;by_cases hqn:q<n
  · obtain ⟨bb,o,p,rfl,hlt,hLp,c0,c1,c2,hz⟩:=(HX.out.below HB.out).at_ hqn;have y1:=Af wr (.cells #[.int .i64 p.v,.bool p.s,.slice p.B p.m p.d] 47);by_cases hqm':q<m
    · obtain ⟨bc,o',r,rfl,hlt',hMp,d0,d1,d2,hz'⟩:=(HY.out.below HB.out).at_ hqm';have HG:=Ac (TU hLp hMp);have y2:=Af (wr.alloc (.cells #[.int .i64 p.v,.bool p.s,.slice p.B p.m p.d] 47)) (.cells #[.int .i64 r.v,.bool r.s,.slice r.B r.m r.d] 47);have hcl:=S4 p r k _ ((hz.below y1).below y2) ((hz'.below y1).below y2) hk;have HB2:=Ac ((HB.out.next y1).next y2);unfold PV.agg at hcl;by_cases h0:E4 (AP p.v r.v) (AP p.Z r.Z)=0
      · have HE:=Ac (show cmpL (L.drop (q+1)) (M.drop (q+1))=cmpL L M by rw[<-HR.out,HG.out,if_neg (by simp[h0])]);rw[h0]at hcl;clear h0 hLp hMp hz hz' y1 y2 HG;go_wp2_with fail;refine hcl.mono ?_;rintro e w2 ⟨rfl,b2⟩;have HB3:=Ac (HB2.out.next b2);go_wp2_with fail;go_roundw
        case rel=>exact ⟨q+1,by omega,by go_num,by omega,HE,HB3⟩
        case measure=>simp[intOf]<;>omega
      · have HE:=Ac (show cmpL L M=E4 (AP p.v r.v) (AP p.Z r.Z) by rw[<-HR.out,HG.out,if_pos h0]);generalize E4 (AP p.v r.v) (AP p.Z r.Z)=z at *;have hb:(z != 0)=true:=(by simp[h0]);clear h0 hLp hMp hz hz' y1 y2 HG;go_wp2_with fail;refine hcl.mono ?_;rintro e w2 ⟨rfl,b2⟩;go_wp2_with fail;go_ret
        exact ⟨by rw[HE.out];rfl,HB2.out.next b2⟩
    · have HE:=Ac (show cmpL L M=1 by rw[<-HR.out,DL hLp,List.drop_of_length_le (show M.length<=q by rw[HM.out];omega)];rfl);have HB2:=Ac (HB.out.next y1);clear hLp hz y1;go_wp2_with fail;go_ret
      exact ⟨by rw[HE.out];rfl,HB2.out⟩
  · obtain rfl:q=n:=(by omega);by_cases hqm':q<m
    · have HE:=Ac (show cmpL L M=-1 by
        rw[<-HR.out,List.drop_of_length_le (show L.length<=q by rw[HL.out];exact Nat.le_refl _)];obtain ⟨x,hx⟩:∃x,M[q]?=some x:=⟨M[q]'(by rw[HM.out];exact hqm'),List.getElem?_eq_getElem _⟩;rw[DL hx];rfl)
      go_wp2_with fail;go_ret
      exact ⟨by rw[HE.out];rfl,HB.out⟩
    · have HE:=Ac (show cmpL L M=0 by rw[<-HR.out,List.drop_of_length_le (show L.length<=q by rw[HL.out];exact Nat.le_refl _),List.drop_of_length_le (show M.length<=q by rw[HM.out];omega)];rfl);go_wp2_with fail;go_ret
      exact ⟨by rw[HE.out];rfl,HB.out⟩
theorem Kg (v u:Value) (L M:List (Int×Int)) (K KM:Int) (k:Nat) (w0:World) (hv:D9 w0 v L K k) (hu:D9 w0 u M KM k) (hl:L.length<=1099511) (hm:M.length<=1099511) (hk:k<=1099511627) :
   Calls Tryz.prog 69 #[v,u] w0 (fun e w'=>e=.returned (.int .i64 (Hl L M K KM))/\Below w0.heap.size w0 w'):=by
 obtain ⟨A,n,c,s,B,m,d,rfl,hp,hc1,hc2,hK⟩:=hv;obtain ⟨A2,n2,c2,s2,B2,m2,d2,rfl,hp2,hd1,hd2,hK2⟩:=hu;have hn:=hp.len;have hn2:=hp2.len;have HN1:=Ac (Bz L);have HN2:=Ac (Bz M);rw[hn]at hl;rw[hn2]at hm;obtain ⟨z0,z1,z2,-⟩:=Bi 40 40 w0 #[.slice A n c,.bool s,.slice B m d] #[.slice A2 n2 c2,.bool s2,.slice B2 m2 d2];go_enter Tryz.func69,Tryz.ntmps69;go_wp2_with fail
 generalize hW0:((w0.alloc (.cells #[.slice A n c,.bool s,.slice B m d] 40)).alloc (.cells #[.slice A2 n2 c2,.bool s2,.slice B2 m2 d2] 40))=W0 at *;clear hW0;obtain ⟨kk,hkk0⟩:∃kk,kk=k+n+n2:=⟨_,rfl⟩;have hkk:kk<=1099511627776:=by omega
 have HPA:=Ac (fun W (h:Below W0.heap.size W0 W)=>(Gj A n c L k W (hp.below (z2.next h)) hc1 hc2 (by omega) hk).mono (fun e w' (q:Er _ _ _ _ _)=>show Er L kk W e w' from by obtain ⟨A',n',c',e1,e2,e3⟩:=q;exact ⟨A',n',c',e1,e2.mono (by omega),e3⟩))
 have HPB:=Ac (fun W (h:Below W0.heap.size W0 W)=>(Gj A2 n2 c2 M k W (hp2.below (z2.next h)) hd1 hd2 (by omega) hk).mono (fun e w' (q:Er _ _ _ _ _)=>show Er M kk W e w' from by obtain ⟨A',n',c',e1,e2,e3⟩:=q;exact ⟨A',n',c',e1,e2.mono (by omega),e3⟩));unfold Er at HPA HPB;have HKA:=Ac (hK.below z2);have HKB:=Ac (hK2.below z2);have T0:=Ac z2;have Z0:=Ac z0;have Z1:=Ac z1
 have SOF:=Ac (show ∀W,Below W0.heap.size W0 W->(W.cell? ⟨w0.heap.size,0,none⟩=some (.slice A n c)/\W.cell? ⟨w0.heap.size,1,none⟩=some (.bool s)/\W.cell? ⟨w0.heap.size,2,none⟩=some (.slice B m d)/\W.cell? ⟨w0.heap.size+1,0,none⟩=some (.slice A2 n2 c2)/\W.cell? ⟨w0.heap.size+1,1,none⟩=some (.bool s2)/\W.cell? ⟨w0.heap.size+1,2,none⟩=some (.slice B2 m2 d2)) from fun W h=>⟨(z0.next h).c0,(z0.next h).c1,(z0.next h).c2,(z1.next h).c0,(z1.next h).c1,(z1.next h).c2⟩)
 have HH:=Ac hkk0;clear z0 z1 z2 hp hp2 hK hK2 hkk0 hn hn2
 refine AO (by kernel_rfl) (by kernel_rfl) (by kernel_rfl) (fun w w'=>Below w.heap.size w w') (fun j v w=>match j with|0=>v=.pointer (some ⟨w0.heap.size,0,none⟩)|1=>v=.slice A n c|2=>∃A n c,v=.slice A n c/\FE w A n (norm L) kk/\n<=c/\c<=9223372036854775807|3=>v=.pointer (some ⟨w0.heap.size+1,0,none⟩)|4=>v=.slice A2 n2 c2|5=>∃A n c,v=.slice A n c/\FE w A n (norm M) kk/\n<=c/\c<=9223372036854775807|6=>v=.int .i64 (cmpL (norm L) (norm M))|7=>v=.int .i64 (cmpL (norm L) (norm M))|_=>True) (fun _ _ w=>Below W0.heap.size W0 w) ?_ (fun _=>Ap W0 1) ?_ ?_
 · intro j v w w' hT h;match j,h with
   |0,h=>exact h
   |1,h=>exact h
   |2,h=>exact (by obtain ⟨A,n,c,e,h1,h2,h3⟩:=h;exact ⟨A,n,c,e,h1.below hT,h2,h3⟩)
   |3,h=>exact h
   |4,h=>exact h
   |5,h=>exact (by obtain ⟨A,n,c,e,h1,h2,h3⟩:=h;exact ⟨A,n,c,e,h1.below hT,h2,h3⟩)
   |6,h=>exact h
   |7,h=>exact h
   |j+8,h=>trivial
 · refine ⟨?_,?_,?_,?_,?_,?_,?_,?_,trivial⟩
   · intro l9 σ w a hin hout hl hc hp hG hF;refine Ad.none rfl ?_;have e2:a.tmps.getD 2 undef=.pointer (some ⟨w0.heap.size,0,none⟩):=hout 2 (Ae (by kernel_rfl));refine Does.val (.pointer (some ⟨w0.heap.size,0,none⟩)) (w':=w) ?_ ⟨Below.refl _ _,rfl,hG⟩;simp only[Array.getD_eq_getD_getElem?]at e2;go_simp
   · intro l9 σ w a hin hout hl hc hp hG hF;refine Ad.none rfl ?_;have e6:a.tmps.getD 6 undef=.pointer (some ⟨w0.heap.size,0,none⟩):=Am (hin 0 6) rfl (hp ⟨0,.data⟩ (by simp) rfl) (hF 0);have CC:=SOF.out w hG;obtain ⟨C0,C1,C2,D0,D1,D2⟩:=CC;refine Does.val (.slice A n c) (w':=w) ?_ ⟨Below.refl _ _,rfl,hG⟩;go_simp
   · intro l9 σ w a hin hout hl hc hp hG hF;refine Ad.none rfl ?_;have e7:a.tmps.getD 7 undef=.slice A n c:=Am (hin 1 7) rfl (hp ⟨1,.data⟩ (by simp) rfl) (hF 1);refine Does.call ?_ (HPA.out w hG) ?_
     · go_simp
     · rintro e w' ⟨A,n,c,rfl,hp,h1,h2,hb⟩;exact ⟨_,rfl,hb,⟨A,n,c,rfl,hp,h1,h2⟩,hG.next hb⟩
   · intro l9 σ w a hin hout hl hc hp hG hF;refine Ad.none rfl ?_;have e3:a.tmps.getD 3 undef=.pointer (some ⟨w0.heap.size+1,0,none⟩):=hout 3 (Ae (by kernel_rfl));refine Does.val (.pointer (some ⟨w0.heap.size+1,0,none⟩)) (w':=w) ?_ ⟨Below.refl _ _,rfl,hG⟩;simp only[Array.getD_eq_getD_getElem?]at e3;go_simp
   · intro l9 σ w a hin hout hl hc hp hG hF;refine Ad.none rfl ?_;have e9:a.tmps.getD 9 undef=.pointer (some ⟨w0.heap.size+1,0,none⟩):=Am (hin 3 9) rfl (hp ⟨3,.data⟩ (by simp) rfl) (hF 3);have CC:=SOF.out w hG;obtain ⟨C0,C1,C2,D0,D1,D2⟩:=CC;refine Does.val (.slice A2 n2 c2) (w':=w) ?_ ⟨Below.refl _ _,rfl,hG⟩;go_simp
   · intro l9 σ w a hin hout hl hc hp hG hF;refine Ad.none rfl ?_;have e10:a.tmps.getD 10 undef=.slice A2 n2 c2:=Am (hin 4 10) rfl (hp ⟨4,.data⟩ (by simp) rfl) (hF 4);refine Does.call ?_ (HPB.out w hG) ?_
     · go_simp
     · rintro e w' ⟨A,n,c,rfl,hp,h1,h2,hb⟩;exact ⟨_,rfl,hb,⟨A,n,c,rfl,hp,h1,h2⟩,hG.next hb⟩
   · intro l9 σ w a hin hout hl hc hp hG hF;refine Ad.none rfl ?_;have e8:=hin 2 8 rfl (hp ⟨2,.data⟩ (by simp) rfl);obtain ⟨Aa,na,ca,ev2,p2,h21,h22⟩:=hF 2 (hp ⟨2,.data⟩ (by simp) rfl);rw[ev2]at e8;have e11:=hin 5 11 rfl (hp ⟨5,.data⟩ (by simp) rfl);obtain ⟨Ab,nb,cb,ev5,p5,h51,h52⟩:=hF 5 (hp ⟨5,.data⟩ (by simp) rfl);rw[ev5]at e11;refine Does.call ?_ (IK Aa na ca Ab nb cb (norm L) (norm M) kk w p2 p5 (by omega) (by omega) hkk) ?_
     · go_simp
     · rintro e w' ⟨rfl,hb⟩;exact ⟨_,rfl,hb,rfl,hG.next hb⟩
   · intro l9 σ w a hin hout hl hc hp hG hF;refine Ad.none rfl ?_;have e12:a.tmps.getD 12 undef=.int .i64 (cmpL (norm L) (norm M)):=Am (hin 6 12) rfl (hp ⟨6,.data⟩ (by simp) rfl) (hF 6);refine Does.val (.int .i64 (cmpL (norm L) (norm M))) (w':=w) ?_ ⟨Below.refl _ _,rfl,hG⟩;simp only[Array.getD_eq_getD_getElem?]at e12;go_simp
 · intro l9 σ W9 hall hG hF;rw[show mid _ σ l9 _=(Act.put (Act.put (Act.put (Act.put (Act.put (Act.put (Act.put (Act.put _ (some 6) (σ 0)) (some 7) (σ 1)) (some 8) (σ 2)) (some 9) (σ 3)) (some 10) (σ 4)) (some 11) (σ 5)) (some 12) (σ 6)) (some 5) (σ 7)) from (AU hall).trans rfl];generalize σ 0=tt0;generalize σ 1=tt1;generalize σ 2=tt2;generalize σ 3=tt3;generalize σ 4=tt4;generalize σ 5=tt5;generalize σ 6=tt6
   rw[show σ 7=.int .i64 (cmpL (norm L) (norm M)) from hF 7 (by decide)];simp only[Act.put,List.setIfInBounds_toArray,List.set_cons_zero,List.set_cons_succ];have TG:=hG;clear hF hG hall;clear σ;have C:=SOF.out W9 TG;obtain ⟨C0,C1,C2,D0,D1,D2⟩:=C
   have hcz:=(show Calls Tryz.prog 72 #[.agg #[.bool s,.slice B m d],.agg #[.bool s2,.slice B2 m2 d2]] W9 (fun e w'=>e=.returned (.int .i64 (AP K KM))/\Below W9.heap.size W9 w') from MK _ _ K KM k W9 (HKA.out.below TG) (HKB.out.below TG) (by omega));have HT:=Ac (T0.out.next TG);have HD:=Ac (show Hl L M K KM=IJ [cmpL (norm L) (norm M),AP K KM] by rw[Pu];rfl);generalize cmpL (norm L) (norm M)=z1 at *;generalize AP K KM=z2 at *;clear TG SOF HKA HKB HPA HPB;go_wp2_with fail
   refine hcz.mono ?_;rintro e w2 ⟨rfl,b2⟩;have HT2:=Ac (HT.out.next b2);have y1:=Af w2 (.cells #[.int .i64 z1,.int .i64 z2] 3);have ho:=S3 (some ⟨w2.heap.size,0,none⟩) 2 2 [z1,z2] _ (GW.two (AK.new 3 w2 #[.int .i64 z1,.int .i64 z2])) (by omega);have HT3:=Ac (HT2.out.next y1);clear hcz C0 C1 C2 D0 D1 D2 y1;go_wp2_with fail;refine ho.mono ?_;rintro e w3 ⟨rfl,rfl⟩;go_wp2_with fail;go_ret
   exact ⟨by rw[HD.out];rfl,HT3.out⟩
theorem Qw (v u:Value) (L M:List (Int×Int)) (K KM:Int) (k:Nat) (w0:World) (hv:D9 w0 v L K k) (hu:D9 w0 u M KM k) (hl:L.length<=1099511) (hm:M.length<=1099511) (hk:k<=1099511627) :
  Calls Tryz.prog 70 #[v,u] w0 (Ve (Hl L M K KM==0) w0):=by
 have hv0:=hv;have hu0:=hu;obtain ⟨A,n,c,s,B,m,d,rfl,-⟩:=hv;obtain ⟨A2,n2,c2,s2,B2,m2,d2,rfl,-⟩:=hu;obtain ⟨z0,z1,z2,-⟩:=Bi 40 40 w0 #[.slice A n c,.bool s,.slice B m d] #[.slice A2 n2 c2,.bool s2,.slice B2 m2 d2];have hc:=Kg _ _ L M K KM k _ (hv0.below z2) (hu0.below z2) hl hm hk;have HZ:=Ac z2;clear hv0 hu0 z0 z1 z2;generalize Hl L M K KM=z at *;go_enter Tryz.func70,Tryz.ntmps70;go_wp2_with fail;refine hc.mono ?_;rintro e w1 ⟨rfl,b1⟩;go_wp2_with fail;go_ret
 exact ⟨rfl,HZ.out.next b1⟩
end
section
open Go.RowKit
open Tm
theorem Vg (A:Option Addr) (c:Nat) (x y:Int) (w:World) (hx:GW w A 2 [x,y]):Calls Tryz.prog 78 #[.slice A 2 c] w (fun e w'=>e=.returned (.int .i64 (E4 x y))/\Below w.heap.size w w'):=by
 obtain ⟨b,o,x',rfl,hlt,h0,c0⟩:=hx.at_ (i:=0) (by decide);obtain ⟨b',o',y',e1,hlt',h1,c1⟩:=hx.at_ (i:=1) (by decide);injection e1 with e1
 injection e1 with e2 e3
 subst e2 e3;injection h0 with h0
 subst h0;injection h1 with h1
 subst h1;rw[Nat.add_zero]at c0;go_enter Tryz.func78,Tryz.ntmps78;go_wp2_with fail;go_loopw [8] (fun i wr=>∃q:Nat,q<=2/\i=.int .i64 q/\(0<q->x=0)/\(1<q->y=0)/\wr=w) (fun i _=>2-(intOf i).toNat)
 case atStart=>exact ⟨0,by decide,rfl,by omega,by omega,rfl⟩
 case round=>
  obtain ⟨q,hq,rfl,hx0,hy0,rfl⟩:=hrel;match q,hq with
  |0,_=>
   clear hx0 hy0;by_cases h:x=0
   · have HH:=Ac h;have hb:(x != 0)=false:=(by simp[h]);clear h;go_wp2_with fail;go_roundw
     case rel=>exact ⟨1,by decide,by go_num,fun _=>HH.out,by omega,by trivial⟩
     case measure=>simp[intOf]<;>omega
   · have hb:(x != 0)=true:=(by simp[h]);have e1:E4 x y=x:=(by unfold E4;rw[if_pos h]);have HE:=Ac e1;clear e1 h;go_wp2_with fail;go_ret
     exact ⟨by rw[HE.out]<;>rfl,Below.refl _ _⟩
  |1,_=>
   have HX:=Ac (hx0 (by decide));clear hx0 hy0;by_cases h:y=0
   · have HH:=Ac h;have hb:(y != 0)=false:=(by simp[h]);clear h;go_wp2_with fail;go_roundw
     case rel=>exact ⟨2,by decide,by go_num,fun _=>HX.out,fun _=>HH.out,by trivial⟩
     case measure=>simp[intOf]<;>omega
   · have hb:(y != 0)=true:=(by simp[h]);have e1:E4 x y=y:=(by unfold E4;rw[if_neg (by rw[HX.out];simp)]);have HE:=Ac e1;clear e1 h;go_wp2_with fail;go_ret
     exact ⟨by rw[HE.out]<;>rfl,Below.refl _ _⟩
  |2,_=>
   have e1:E4 x y=0:=(by unfold E4;rw[if_neg (by rw[hx0 (by decide)];simp),hy0 (by decide)]);have HE:=Ac e1;clear e1 hx0 hy0;go_wp2_with fail;go_ret
   exact ⟨by rw[HE.out]<;>rfl,Below.refl _ _⟩
def O3 (L M:List (Int×Int)) (K KM:Int) (f1 f2:Bool):Int:=E4 (Hl L M K KM) (Fe f1-Fe f2)
theorem O4 (v u:Value) (L M:List (Int×Int)) (K KM:Int) (f1 f2:Bool) (k:Nat) (w0:World) (hv:Qr w0 v L K f1 k) (hu:Qr w0 u M KM f2 k) (hl:L.length<=1099511) (hm:M.length<=1099511) (hk:k<=1099511627) :
   Calls Tryz.prog 24 #[v,u] w0 (fun e w'=>e=.returned (.int .i64 (O3 L M K KM f1 f2))/\Below w0.heap.size w0 w'):=by
 have hv0:=hv;have hu0:=hu;obtain ⟨A,n,c,s,B,m,d,rfl,ht⟩:=hv;obtain ⟨A2,n2,c2,s2,B2,m2,d2,rfl,hu1⟩:=hu;obtain ⟨z0,z1,z2,-⟩:=Bi 42 42 w0 #[.slice A n c,.bool s,.slice B m d,.bool f1] #[.slice A2 n2 c2,.bool s2,.slice B2 m2 d2,.bool f2];unfold O3;have hkw:IntKind.i64.wrap (Fe f1-Fe f2)=Fe f1-Fe f2:=by cases f1<;>cases f2<;>rfl
 have hcm:=fun W (a:D9 W (.agg #[.slice A n c,.bool s,.slice B m d]) L K k) (b:D9 W (.agg #[.slice A2 n2 c2,.bool s2,.slice B2 m2 d2]) M KM k)=>Kg _ _ L M K KM k W a b hl hm hk
 have hk1:=fun W (a:Qr W (.agg #[.slice A n c,.bool s,.slice B m d,.bool f1]) L K f1 k)=>Lv _ L K f1 k W a
 have hk2:=fun W (a:Qr W (.agg #[.slice A2 n2 c2,.bool s2,.slice B2 m2 d2,.bool f2]) M KM f2 k)=>Lv _ M KM f2 k W a
 generalize Hl L M K KM=cz at hcm ⊢;generalize Fe f1=k1 at hkw hk1 ⊢;generalize Fe f2=k2 at hkw hk2 ⊢;have HCM0:=Ac hcm;have HK10:=Ac hk1;have HK20:=Ac hk2;clear hcm hk1 hk2;go_enter Tryz.func24,Tryz.ntmps24;go_upto_region 1 with fail;generalize hW:((w0.alloc (.cells #[.slice A n c,.bool s,.slice B m d,.bool f1] 42)).alloc (.cells #[.slice A2 n2 c2,.bool s2,.slice B2 m2 d2,.bool f2] 42))=W0 at *;clear hW;have HX:=Ac z0;have HY:=Ac z1;have HT8:=Ac z2
 have HCM:=Ac (fun W (h:Below W0.heap.size W0 W)=>HCM0.out W ((ht.below z2).below h) ((hu1.below z2).below h));have HK1:=Ac (fun W (h:Below W0.heap.size W0 W)=>HK10.out W ((hv0.below z2).below h));have HK2:=Ac (fun W (h:Below W0.heap.size W0 W)=>HK20.out W ((hu0.below z2).below h))
 have SOF:=Ac (show ∀W,Below W0.heap.size W0 W->(W.cell? ⟨w0.heap.size,0,none⟩=some (.slice A n c)/\W.cell? ⟨w0.heap.size,1,none⟩=some (.bool s)/\W.cell? ⟨w0.heap.size,2,none⟩=some (.slice B m d)/\W.cell? ⟨w0.heap.size,3,none⟩=some (.bool f1)/\W.cell? ⟨w0.heap.size+1,0,none⟩=some (.slice A2 n2 c2)/\W.cell? ⟨w0.heap.size+1,1,none⟩=some (.bool s2)/\W.cell? ⟨w0.heap.size+1,2,none⟩=some (.slice B2 m2 d2)/\W.cell? ⟨w0.heap.size+1,3,none⟩=some (.bool f2)) from fun W h=>⟨(HX.out.next h).r0,(HX.out.next h).r1,(HX.out.next h).r2,(HX.out.next h).r3,(HY.out.next h).r0,(HY.out.next h).r1,(HY.out.next h).r2,(HY.out.next h).r3⟩)
 clear z0 z1 z2 ht hu1 hv0 hu0
 refine AO (by kernel_rfl) (by kernel_rfl) (by kernel_rfl) (fun w w'=>Below w.heap.size w w') (fun j v w=>match j with|0=>v=.pointer (some ⟨w0.heap.size,0,none⟩)|1=>v=.agg #[.slice A n c,.bool s,.slice B m d]|2=>v=.pointer (some ⟨w0.heap.size+1,0,none⟩)|3=>v=.agg #[.slice A2 n2 c2,.bool s2,.slice B2 m2 d2]|4=>v=.int .i64 cz|5=>v=.agg #[.slice A n c,.bool s,.slice B m d,.bool f1]|6=>v=.int .i64 k1|7=>v=.agg #[.slice A2 n2 c2,.bool s2,.slice B2 m2 d2,.bool f2]|8=>v=.int .i64 k2|9=>v=.int .i64 (k1-k2)|10=>∃g,v=.slice (some ⟨g,0,none⟩) 2 2/\AK 3 w g #[.int .i64 cz,.int .i64 (k1-k2)]|11=>v=.int .i64 (E4 cz (k1-k2))|12=>v=.int .i64 (E4 cz (k1-k2))|_=>True) (fun _ _ w=>Below W0.heap.size W0 w) ?_ (fun _=>Ap W0 1) ?_ ?_
 · intro j v w w' hT h;match j,h with
   |0,h=>exact h
   |1,h=>exact h
   |2,h=>exact h
   |3,h=>exact h
   |4,h=>exact h
   |5,h=>exact h
   |6,h=>exact h
   |7,h=>exact h
   |8,h=>exact h
   |9,h=>exact h
   |10,h=>exact (by obtain ⟨g,e,h1⟩:=h;exact ⟨g,e,h1.next hT⟩)
   |11,h=>exact h
   |12,h=>exact h
   |j+13,h=>trivial
 · refine ⟨?_,?_,?_,?_,?_,?_,?_,?_,?_,?_,?_,?_,?_,trivial⟩
   · intro l9 σ w a hin hout hl hc hp hG hF;refine Ad.none rfl ?_;have e2:a.tmps.getD 2 undef=.pointer (some ⟨w0.heap.size,0,none⟩):=hout 2 (Ae (by kernel_rfl));refine Does.val (.pointer (some ⟨w0.heap.size,0,none⟩)) (w':=w) ?_ ⟨Below.refl _ _,rfl,hG⟩;simp only[Array.getD_eq_getD_getElem?]at e2;go_simp
   · intro l9 σ w a hin hout hl hc hp hG hF;refine Ad.none rfl ?_;have e5:a.tmps.getD 5 undef=.pointer (some ⟨w0.heap.size,0,none⟩):=Am (hin 0 5) rfl (hp ⟨0,.data⟩ (by simp) rfl) (hF 0);have CC:=SOF.out w hG;obtain ⟨C0,C1,C2,C3,D0,D1,D2,D3⟩:=CC;refine Does.val (.agg #[.slice A n c,.bool s,.slice B m d]) (w':=w) ?_ ⟨Below.refl _ _,rfl,hG⟩;go_simp
   · intro l9 σ w a hin hout hl hc hp hG hF;refine Ad.none rfl ?_;have e3:a.tmps.getD 3 undef=.pointer (some ⟨w0.heap.size+1,0,none⟩):=hout 3 (Ae (by kernel_rfl));refine Does.val (.pointer (some ⟨w0.heap.size+1,0,none⟩)) (w':=w) ?_ ⟨Below.refl _ _,rfl,hG⟩;simp only[Array.getD_eq_getD_getElem?]at e3;go_simp
   · intro l9 σ w a hin hout hl hc hp hG hF;refine Ad.none rfl ?_;have e7:a.tmps.getD 7 undef=.pointer (some ⟨w0.heap.size+1,0,none⟩):=Am (hin 2 7) rfl (hp ⟨2,.data⟩ (by simp) rfl) (hF 2);have CC:=SOF.out w hG;obtain ⟨C0,C1,C2,C3,D0,D1,D2,D3⟩:=CC;refine Does.val (.agg #[.slice A2 n2 c2,.bool s2,.slice B2 m2 d2]) (w':=w) ?_ ⟨Below.refl _ _,rfl,hG⟩;go_simp
   · intro l9 σ w a hin hout hl hc hp hG hF;refine Ad.none rfl ?_;have e6:a.tmps.getD 6 undef=.agg #[.slice A n c,.bool s,.slice B m d]:=Am (hin 1 6) rfl (hp ⟨1,.data⟩ (by simp) rfl) (hF 1);have e8:a.tmps.getD 8 undef=.agg #[.slice A2 n2 c2,.bool s2,.slice B2 m2 d2]:=Am (hin 3 8) rfl (hp ⟨3,.data⟩ (by simp) rfl) (hF 3);refine Does.call ?_ (HCM.out w hG) ?_
     · go_simp
     · rintro e w' ⟨rfl,hb⟩;exact ⟨_,rfl,hb,rfl,hG.next hb⟩
   · intro l9 σ w a hin hout hl hc hp hG hF;refine Ad.none rfl ?_;have e2:a.tmps.getD 2 undef=.pointer (some ⟨w0.heap.size,0,none⟩):=hout 2 (Ae (by kernel_rfl));have CC:=SOF.out w hG;obtain ⟨C0,C1,C2,C3,D0,D1,D2,D3⟩:=CC;refine Does.val (.agg #[.slice A n c,.bool s,.slice B m d,.bool f1]) (w':=w) ?_ ⟨Below.refl _ _,rfl,hG⟩;go_simp
   · intro l9 σ w a hin hout hl hc hp hG hF;refine Ad.none rfl ?_;have e10:a.tmps.getD 10 undef=.agg #[.slice A n c,.bool s,.slice B m d,.bool f1]:=Am (hin 5 10) rfl (hp ⟨5,.data⟩ (by simp) rfl) (hF 5);refine Does.call ?_ (HK1.out w hG) ?_
     · go_simp
     · rintro e w' ⟨rfl,hb⟩;exact ⟨_,rfl,hb,rfl,hG.next hb⟩
   · intro l9 σ w a hin hout hl hc hp hG hF;refine Ad.none rfl ?_;have e3:a.tmps.getD 3 undef=.pointer (some ⟨w0.heap.size+1,0,none⟩):=hout 3 (Ae (by kernel_rfl));have CC:=SOF.out w hG;obtain ⟨C0,C1,C2,C3,D0,D1,D2,D3⟩:=CC;refine Does.val (.agg #[.slice A2 n2 c2,.bool s2,.slice B2 m2 d2,.bool f2]) (w':=w) ?_ ⟨Below.refl _ _,rfl,hG⟩;go_simp
   · intro l9 σ w a hin hout hl hc hp hG hF;refine Ad.none rfl ?_;have e12:a.tmps.getD 12 undef=.agg #[.slice A2 n2 c2,.bool s2,.slice B2 m2 d2,.bool f2]:=Am (hin 7 12) rfl (hp ⟨7,.data⟩ (by simp) rfl) (hF 7);refine Does.call ?_ (HK2.out w hG) ?_
     · go_simp
     · rintro e w' ⟨rfl,hb⟩;exact ⟨_,rfl,hb,rfl,hG.next hb⟩
   · intro l9 σ w a hin hout hl hc hp hG hF;refine Ad.none rfl ?_;have e11:a.tmps.getD 11 undef=.int .i64 k1:=Am (hin 6 11) rfl (hp ⟨6,.data⟩ (by simp) rfl) (hF 6);have e13:a.tmps.getD 13 undef=.int .i64 k2:=Am (hin 8 13) rfl (hp ⟨8,.data⟩ (by simp) rfl) (hF 8);refine Does.val (.int .i64 (k1-k2)) (w':=w) ?_ ⟨Below.refl _ _,rfl,hG⟩;simp only[Array.getD_eq_getD_getElem?]at e11 e13;go_simp
   · intro l9 σ w a hin hout hl hc hp hG hF;refine Ad.none rfl ?_;have e9:a.tmps.getD 9 undef=.int .i64 cz:=Am (hin 4 9) rfl (hp ⟨4,.data⟩ (by simp) rfl) (hF 4);have e14:a.tmps.getD 14 undef=.int .i64 (k1-k2):=Am (hin 9 14) rfl (hp ⟨9,.data⟩ (by simp) rfl) (hF 9);refine Does.val (.slice (some ⟨w.heap.size,0,none⟩) 2 2) (w':=w.alloc (.cells #[.int .i64 cz,.int .i64 (k1-k2)] 3)) ?_ ⟨Af w _,⟨w.heap.size,rfl,AK.new _ _ _⟩,hG.next (Af w _)⟩
     simp only[Array.getD_eq_getD_getElem?]at e9 e14;go_simp
   · intro l9 σ w a hin hout hl hc hp hG hF;refine Ad.none rfl ?_;have e15:=hin 10 15 rfl (hp ⟨10,.data⟩ (by simp) rfl);obtain ⟨g10,ev10,x10⟩:=hF 10 (hp ⟨10,.data⟩ (by simp) rfl);rw[ev10]at e15;refine Does.call ?_ (Vg _ 2 cz (k1-k2) w (GW.two x10)) ?_
     · go_simp
     · rintro e w' ⟨rfl,hb⟩;exact ⟨_,rfl,hb,rfl,hG.next hb⟩
   · intro l9 σ w a hin hout hl hc hp hG hF;refine Ad.none rfl ?_;have e16:a.tmps.getD 16 undef=.int .i64 (E4 cz (k1-k2)):=Am (hin 11 16) rfl (hp ⟨11,.data⟩ (by simp) rfl) (hF 11);refine Does.val (.int .i64 (E4 cz (k1-k2))) (w':=w) ?_ ⟨Below.refl _ _,rfl,hG⟩;simp only[Array.getD_eq_getD_getElem?]at e16;go_simp
 · intro l9 σ W9 hall hG hF;rw[show mid _ σ l9 _=(Act.put (Act.put (Act.put (Act.put (Act.put (Act.put (Act.put (Act.put (Act.put (Act.put (Act.put (Act.put (Act.put _ (some 5) (σ 0)) (some 6) (σ 1)) (some 7) (σ 2)) (some 8) (σ 3)) (some 9) (σ 4)) (some 10) (σ 5)) (some 11) (σ 6)) (some 12) (σ 7)) (some 13) (σ 8)) (some 14) (σ 9)) (some 15) (σ 10)) (some 16) (σ 11)) (some 4) (σ 12)) from (AU hall).trans rfl];generalize σ 0=tt0;generalize σ 1=tt1;generalize σ 2=tt2
   generalize σ 3=tt3;generalize σ 4=tt4;generalize σ 5=tt5;generalize σ 6=tt6;generalize σ 7=tt7;generalize σ 8=tt8;generalize σ 9=tt9;generalize σ 10=tt10;generalize σ 11=tt11;rw[show σ 12=.int .i64 (E4 cz (k1-k2)) from hF 12 (by decide)];simp only[Act.put,List.setIfInBounds_toArray,List.set_cons_zero,List.set_cons_succ];have TG:=hG;clear hF hG hall;clear σ;go_wp2_with fail;go_ret
   exact ⟨rfl,HT8.out.next TG⟩
end
end Go.Proofs.YtmedjkhmadfjlaaGreat
