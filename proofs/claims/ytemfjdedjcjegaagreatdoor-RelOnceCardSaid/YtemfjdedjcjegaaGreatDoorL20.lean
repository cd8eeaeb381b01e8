/- Texts of one seat, put together: TCmp RelCmp. -/
import Derived.Test.YtemfjdedjcjegaaGreatDoorL15
import Derived.Test.YtemfjdedjcjegaaGreatDoorL08
import Derived.Test.YtemfjdedjcjegaaGreatDoorL19
import Derived.Test.YtemfjdedjcjegaaGreatDoorL17
import Derived.Test.YtemfjdedjcjegaaGreatDoorL16
set_option linter.unusedVariables false
set_option linter.unusedSimpArgs false
set_option maxRecDepth 100000
set_option maxHeartbeats 16000000
namespace Go.Proofs.YtemfjdedjcjegaaGreatDoor
section
open Go.RowKit
open Tm
def Hj:List Int->Int
 |[]=>0
 |x::xs=>if x≠0 then x else Hj xs
theorem QN {x:Int} {xs:List Int} (h:x=0):Hj (x::xs)=Hj xs:=by rw[Hj,if_neg (by simp[h])]
theorem Tj {x:Int} {xs:List Int} (h:x≠0):Hj (x::xs)=x:=by rw[Hj,if_pos h]
theorem Oe (x y:Int):Hj [x,y]=EW x y:=by
 unfold Hj Hj Hj EW;by_cases h:x=0
 · by_cases h2:y=0
   · simp[h,h2]
   · simp[h,h2]
 · simp[h]
theorem EX.two {w:World} {g:Nat} {x y:Int} (h:Aw 3 w g #[.int .i64 x,.int .i64 y]):EX w (some ⟨g,0,Option.none⟩) 2 [x,y]:=
 ⟨rfl,fun _=>⟨g,0,rfl,fun j u hu=>by rw[Nat.zero_add];exact h.cell j u (by simpa[ints] using hu)⟩⟩
theorem QO (A:Option Addr) (n c:Nat) (xs:List Int) (w:World) (hx:EX w A n xs) (hn:n<=9223372036854775807):Calls Tryz.prog 35 #[.slice A n c] w (fun e w'=>e=.returned (.int .i64 (Hj xs))/\w'=w):=by
 have HL:=Ad hx.1;go_enter Tryz.func35,Tryz.ntmps35;go_wp2_with fail;have HS:=Ad (show Hj (xs.drop 0)=Hj xs from rfl);go_loop [8] (fun i=>∃q:Nat,q<=n/\i=.int .i64 q/\Hid (Hj (xs.drop q)=Hj xs)) (fun i=>n-(intOf i).toNat)
 case atStart=>exact ⟨0,Nat.zero_le _,rfl,HS⟩
 case round=>
  obtain ⟨q,hq,rfl,HR⟩:=hrel;by_cases hqn:q<n
  · obtain ⟨bb,o,x,rfl,hlt,hxq,c0⟩:=hx.at_ hqn;have HD:=Ad (DJ hxq);clear hxq;by_cases h0:x=0
    · have hb:(x != 0)=false:=(by simp[h0]);have HE:=Ad (show Hj (xs.drop (q+1))=Hj xs by rw[<-HR.out,HD.out,QN h0]);clear h0;go_wp2_with fail;go_round
      case rel=>exact ⟨q+1,by omega,by go_num,HE⟩
      case measure=>simp[intOf]<;>omega
    · have hb:(x != 0)=true:=(by simp[h0]);have HE:=Ad (show Hj xs=x by rw[<-HR.out,HD.out,Tj h0]);clear h0;go_wp2_with fail;go_ret
      exact ⟨by rw[HE.out];rfl,rfl⟩
  · have HE:=Ad (show Hj xs=0 by rw[<-HR.out,List.drop_of_length_le (by rw[HL.out];omega)];rfl);go_wp2_with fail;go_ret
    exact ⟨by rw[HE.out];rfl,rfl⟩
theorem QP (x y:PV) (k:Nat) (w0:World) (hx:BF w0 x.num x.Z k) (hy:BF w0 y.num y.Z k) (hk:k<=1099511627776):Calls Tryz.prog 70 #[x.agg,y.agg] w0 (fun e w'=>e=.returned (.int .i64 (EW (AK x.v y.v) (AK x.Z y.Z)))/\Below w0.heap.size w0 w'):=by
 obtain ⟨xv,xs,xB,xm,xd,xZ⟩:=x;obtain ⟨yv,ys,yB,ym,yd,yZ⟩:=y;obtain ⟨z0,z1,z2,-⟩:=Bh 59 59 w0 #[.int .i64 xv,.bool xs,.slice xB xm xd] #[.int .i64 yv,.bool ys,.slice yB ym yd];show Calls _ _ #[.agg #[.int .i64 xv,.bool xs,.slice xB xm xd],.agg #[.int .i64 yv,.bool ys,.slice yB ym yd]] _ _;dsimp only
 have hx:BF w0 (.agg #[.bool xs,.slice xB xm xd]) xZ k:=hx;have hy:BF w0 (.agg #[.bool ys,.slice yB ym yd]) yZ k:=hy;go_enter Tryz.func70,Tryz.ntmps70;go_wp2_with fail;generalize hW0:((w0.alloc (.cells #[.int .i64 xv,.bool xs,.slice xB xm xd] 59)).alloc (.cells #[.int .i64 yv,.bool ys,.slice yB ym yd] 59))=W0 at *;clear hW0;have HX:=Ad (hx.below z2);have HY:=Ad (hy.below z2);have T0:=Ad z2
 have SOF:=Ad (show ∀W,Below W0.heap.size W0 W->(W.cell? ⟨w0.heap.size,0,none⟩=some (.int .i64 xv)/\W.cell? ⟨w0.heap.size,1,none⟩=some (.bool xs)/\W.cell? ⟨w0.heap.size,2,none⟩=some (.slice xB xm xd)/\W.cell? ⟨w0.heap.size+1,0,none⟩=some (.int .i64 yv)/\W.cell? ⟨w0.heap.size+1,1,none⟩=some (.bool ys)/\W.cell? ⟨w0.heap.size+1,2,none⟩=some (.slice yB ym yd)) from fun W h=>⟨(z0.next h).c0,(z0.next h).c1,(z0.next h).c2,(z1.next h).c0,(z1.next h).c1,(z1.next h).c2⟩)
 clear z0 z1 z2 hx hy
 refine BC (by kernel_rfl) (by kernel_rfl) (by kernel_rfl) (fun w w'=>Below w.heap.size w w') (fun j v w=>match j with|0=>v=.pointer (some ⟨w0.heap.size,0,none⟩)|1=>v=.int .i64 xv|2=>v=.pointer (some ⟨w0.heap.size+1,0,none⟩)|3=>v=.int .i64 yv|4=>v=.int .i64 (AK xv yv)|5=>v=.pointer (some ⟨w0.heap.size,1,none⟩)|6=>v=.agg #[.bool xs,.slice xB xm xd]|7=>v=.pointer (some ⟨w0.heap.size+1,1,none⟩)|8=>v=.agg #[.bool ys,.slice yB ym yd]|9=>v=.int .i64 (AK xZ yZ)|10=>∃g,v=.slice (some ⟨g,0,none⟩) 2 2/\Aw 3 w g #[.int .i64 (AK xv yv),.int .i64 (AK xZ yZ)]|11=>v=.int .i64 (Hj [AK xv yv,AK xZ yZ])|12=>v=.int .i64 (Hj [AK xv yv,AK xZ yZ])|_=>True) (fun _ _ w=>Below W0.heap.size W0 w) ?_ (fun _=>Ak W0 1) ?_ ?_
 · intro j v w w' hT h;match j,h with
   |0,h=>exact h
   |1,h=>exact h
   |2,h=>exact h
   |3,h=>exact h
   |4,h=>exact h
   |5,h=>exact h
   |6,h=>exact h
   |7,h=>exact h
   |8,h=>exact h
   |9,h=>exact h
   |10,h=>exact (by obtain ⟨g,e,h1⟩:=h;exact ⟨g,e,h1.next hT⟩)
   |11,h=>exact h
   |12,h=>exact h
   |j+13,h=>trivial
 · refine ⟨?_,?_,?_,?_,?_,?_,?_,?_,?_,?_,?_,?_,?_,trivial⟩
   · intro listed σ w a hin hout hl hc hp hG hF;refine Ac.none rfl ?_;have e2:a.tmps.getD 2 undef=.pointer (some ⟨w0.heap.size,0,none⟩):=hout 2 (Af (by kernel_rfl));refine Does.val (.pointer (some ⟨w0.heap.size,0,none⟩)) (w':=w) ?_ ⟨Below.refl _ _,rfl,hG⟩;simp only[Array.getD_eq_getD_getElem?]at e2;go_simp
   · intro listed σ w a hin hout hl hc hp hG hF;refine Ac.none rfl ?_;have e5:a.tmps.getD 5 undef=.pointer (some ⟨w0.heap.size,0,none⟩):=(hin 0 5 rfl (hp ⟨0,.data⟩ (by simp) rfl)).trans (hF 0 (hp ⟨0,.data⟩ (by simp) rfl));have CC:=SOF.out w hG;obtain ⟨C0,C1,C2,D0,D1,D2⟩:=CC;refine Does.val (.int .i64 xv) (w':=w) ?_ ⟨Below.refl _ _,rfl,hG⟩;go_simp
   · intro listed σ w a hin hout hl hc hp hG hF;refine Ac.none rfl ?_;have e3:a.tmps.getD 3 undef=.pointer (some ⟨w0.heap.size+1,0,none⟩):=hout 3 (Af (by kernel_rfl));refine Does.val (.pointer (some ⟨w0.heap.size+1,0,none⟩)) (w':=w) ?_ ⟨Below.refl _ _,rfl,hG⟩;simp only[Array.getD_eq_getD_getElem?]at e3;go_simp
   · intro listed σ w a hin hout hl hc hp hG hF;refine Ac.none rfl ?_;have e7:a.tmps.getD 7 undef=.pointer (some ⟨w0.heap.size+1,0,none⟩):=(hin 2 7 rfl (hp ⟨2,.data⟩ (by simp) rfl)).trans (hF 2 (hp ⟨2,.data⟩ (by simp) rfl));have CC:=SOF.out w hG;obtain ⟨C0,C1,C2,D0,D1,D2⟩:=CC;refine Does.val (.int .i64 yv) (w':=w) ?_ ⟨Below.refl _ _,rfl,hG⟩;go_simp
   · intro listed σ w a hin hout hl hc hp hG hF;refine Ac.none rfl ?_;have e6:a.tmps.getD 6 undef=.int .i64 xv:=(hin 1 6 rfl (hp ⟨1,.data⟩ (by simp) rfl)).trans (hF 1 (hp ⟨1,.data⟩ (by simp) rfl));have e8:a.tmps.getD 8 undef=.int .i64 yv:=(hin 3 8 rfl (hp ⟨3,.data⟩ (by simp) rfl)).trans (hF 3 (hp ⟨3,.data⟩ (by simp) rfl));refine Does.call ?_ (GT xv yv w) ?_
     · go_simp
     · rintro e w' ⟨rfl,rfl⟩;exact ⟨_,rfl,Below.refl _ _,rfl,hG⟩
   · intro listed σ w a hin hout hl hc hp hG hF;refine Ac.none rfl ?_;have e2:a.tmps.getD 2 undef=.pointer (some ⟨w0.heap.size,0,none⟩):=hout 2 (Af (by kernel_rfl));refine Does.val (.pointer (some ⟨w0.heap.size,1,none⟩)) (w':=w) ?_ ⟨Below.refl _ _,rfl,hG⟩;simp only[Array.getD_eq_getD_getElem?]at e2;go_simp
   · intro listed σ w a hin hout hl hc hp hG hF;refine Ac.none rfl ?_;have e10:a.tmps.getD 10 undef=.pointer (some ⟨w0.heap.size,1,none⟩):=(hin 5 10 rfl (hp ⟨5,.data⟩ (by simp) rfl)).trans (hF 5 (hp ⟨5,.data⟩ (by simp) rfl));have CC:=SOF.out w hG;obtain ⟨C0,C1,C2,D0,D1,D2⟩:=CC;refine Does.val (.agg #[.bool xs,.slice xB xm xd]) (w':=w) ?_ ⟨Below.refl _ _,rfl,hG⟩;go_simp
   · intro listed σ w a hin hout hl hc hp hG hF;refine Ac.none rfl ?_;have e3:a.tmps.getD 3 undef=.pointer (some ⟨w0.heap.size+1,0,none⟩):=hout 3 (Af (by kernel_rfl));refine Does.val (.pointer (some ⟨w0.heap.size+1,1,none⟩)) (w':=w) ?_ ⟨Below.refl _ _,rfl,hG⟩;simp only[Array.getD_eq_getD_getElem?]at e3;go_simp
   · intro listed σ w a hin hout hl hc hp hG hF;refine Ac.none rfl ?_;have e12:a.tmps.getD 12 undef=.pointer (some ⟨w0.heap.size+1,1,none⟩):=(hin 7 12 rfl (hp ⟨7,.data⟩ (by simp) rfl)).trans (hF 7 (hp ⟨7,.data⟩ (by simp) rfl));have CC:=SOF.out w hG;obtain ⟨C0,C1,C2,D0,D1,D2⟩:=CC;refine Does.val (.agg #[.bool ys,.slice yB ym yd]) (w':=w) ?_ ⟨Below.refl _ _,rfl,hG⟩;go_simp
   · intro listed σ w a hin hout hl hc hp hG hF;refine Ac.none rfl ?_;have e11:a.tmps.getD 11 undef=.agg #[.bool xs,.slice xB xm xd]:=(hin 6 11 rfl (hp ⟨6,.data⟩ (by simp) rfl)).trans (hF 6 (hp ⟨6,.data⟩ (by simp) rfl));have e13:a.tmps.getD 13 undef=.agg #[.bool ys,.slice yB ym yd]:=(hin 8 13 rfl (hp ⟨8,.data⟩ (by simp) rfl)).trans (hF 8 (hp ⟨8,.data⟩ (by simp) rfl))
     refine Does.call ?_ ((show Calls Tryz.prog 65 #[.agg #[.bool xs,.slice xB xm xd],.agg #[.bool ys,.slice yB ym yd]] w (Fh xZ yZ w) from L1 _ _ xZ yZ k w (HX.out.below hG) (HY.out.below hG) (by omega))) ?_
     · go_simp
     · rintro e w' ⟨rfl,hb⟩;exact ⟨_,rfl,hb,rfl,hG.next hb⟩
   · intro listed σ w a hin hout hl hc hp hG hF;refine Ac.none rfl ?_;have e9:a.tmps.getD 9 undef=.int .i64 (AK xv yv):=(hin 4 9 rfl (hp ⟨4,.data⟩ (by simp) rfl)).trans (hF 4 (hp ⟨4,.data⟩ (by simp) rfl));have e14:a.tmps.getD 14 undef=.int .i64 (AK xZ yZ):=(hin 9 14 rfl (hp ⟨9,.data⟩ (by simp) rfl)).trans (hF 9 (hp ⟨9,.data⟩ (by simp) rfl))
     refine Does.val (.slice (some ⟨w.heap.size,0,none⟩) 2 2) (w':=w.alloc (.cells #[.int .i64 (AK xv yv),.int .i64 (AK xZ yZ)] 3)) ?_ ⟨Ae w _,⟨w.heap.size,rfl,Aw.new _ _ _⟩,hG.next (Ae w _)⟩;simp only[Array.getD_eq_getD_getElem?]at e9 e14;go_simp
   · intro listed σ w a hin hout hl hc hp hG hF;refine Ac.none rfl ?_;have e15:=hin 10 15 rfl (hp ⟨10,.data⟩ (by simp) rfl);obtain ⟨g10,ev10,x10⟩:=hF 10 (hp ⟨10,.data⟩ (by simp) rfl);rw[ev10]at e15;refine Does.call ?_ (QO (some ⟨g10,0,none⟩) 2 2 [AK xv yv,AK xZ yZ] w (EX.two x10) (by omega)) ?_
     · go_simp
     · rintro e w' ⟨rfl,rfl⟩;exact ⟨_,rfl,Below.refl _ _,rfl,hG⟩
   · intro listed σ w a hin hout hl hc hp hG hF;refine Ac.none rfl ?_;have e16:a.tmps.getD 16 undef=.int .i64 (Hj [AK xv yv,AK xZ yZ]):=(hin 11 16 rfl (hp ⟨11,.data⟩ (by simp) rfl)).trans (hF 11 (hp ⟨11,.data⟩ (by simp) rfl));refine Does.val (.int .i64 (Hj [AK xv yv,AK xZ yZ])) (w':=w) ?_ ⟨Below.refl _ _,rfl,hG⟩;simp only[Array.getD_eq_getD_getElem?]at e16;go_simp
 · intro listed σ W9 hall hG hF;rw[show mid _ σ listed _=(Act.put (Act.put (Act.put (Act.put (Act.put (Act.put (Act.put (Act.put (Act.put (Act.put (Act.put (Act.put (Act.put _ (some 5) (σ 0)) (some 6) (σ 1)) (some 7) (σ 2)) (some 8) (σ 3)) (some 9) (σ 4)) (some 10) (σ 5)) (some 11) (σ 6)) (some 12) (σ 7)) (some 13) (σ 8)) (some 14) (σ 9)) (some 15) (σ 10)) (some 16) (σ 11)) (some 4) (σ 12)) from (BP hall).trans rfl];generalize σ 0=tt0;generalize σ 1=tt1;generalize σ 2=tt2
   generalize σ 3=tt3;generalize σ 4=tt4;generalize σ 5=tt5;generalize σ 6=tt6;generalize σ 7=tt7;generalize σ 8=tt8;generalize σ 9=tt9;generalize σ 10=tt10;generalize σ 11=tt11;rw[show σ 12=.int .i64 (Hj [AK xv yv,AK xZ yZ]) from hF 12 (by decide)];simp only[Act.put,List.setIfInBounds_toArray,List.set_cons_zero,List.set_cons_succ];have TG:=hG;clear hF hG hall;clear σ;have HT:=Ad (T0.out.next TG);clear TG SOF HX HY;rw[Oe];generalize hr:EW (AK xv yv) (AK xZ yZ)=r at *
   have HRR:=Ad hr;clear hr;go_wp2_with fail;go_ret
   exact ⟨by rw[HRR.out];rfl,HT.out⟩
theorem Md:∀args w,(callFunc 70 args).run Tryz.prog w=.ok (.enter 70 args) w:=enters_of Tryz.func70 (by kernel_rfl) rfl
theorem RZ {L M:List (Int×Int)} {q:Nat} {u c v d:Int} (h:L[q]?=some (u,c)) (h':M[q]?=some (v,d)):cmpL (L.drop q) (M.drop q)=if EW (AK u v) (AK c d)≠0 then EW (AK u v) (AK c d) else cmpL (L.drop (q+1)) (M.drop (q+1)):=by
 rw[DJ h,DJ h',cmpL];unfold EW;by_cases h1:AK u v=0
 · simp[h1]
 · simp[h1]
theorem Hk (A:Option Addr) (n c:Nat) (B:Option Addr) (m d:Nat) (L M:List (Int×Int)) (k:Nat) (w0:World) (hx:EP w0 A n L k) (hy:EP w0 B m M k) (hn:n<=9223372036854775807) (hm:m<=9223372036854775807) (hk:k<=1099511627776) :
  Calls Tryz.prog 68 #[.slice A n c,.slice B m d,.func (.func 70) #[] #[]] w0 (fun e w'=>e=.returned (.int .i64 (cmpL L M))/\Below w0.heap.size w0 w'):=by
 have HL:=Ad hx.len;have HM:=Ad hy.len;have HX:=Ad hx;have HY:=Ad hy;have eg:=Md;clear hx hy;go_enter Tryz.func68,Tryz.ntmps68;go_wp2_with fail;have HB0:=Ad (Below.refl w0.heap.size w0);go_loopw [13] (fun i wr=>∃q:Nat,q<=n/\i=.int .i64 q/\q<=m/\Hid (cmpL (L.drop q) (M.drop q)=cmpL L M)/\Hid (Below w0.heap.size w0 wr)) (fun i _=>n-(intOf i).toNat)
 case atStart=>exact ⟨0,Nat.zero_le _,rfl,Nat.zero_le _,Lib.hid rfl,HB0⟩
 case round=>
  obtain ⟨q,hq,rfl,hqm,HR,HB⟩:=hrel;by_cases hqn:q<n
  · obtain ⟨bb,o,p,rfl,hlt,hLp,c0,c1,c2,hz⟩:=(HX.out.below HB.out).at_ hqn;have y1:=Ae wr (.cells #[.int .i64 p.v,.bool p.s,.slice p.B p.m p.d] 59);by_cases hqm':q<m
    · obtain ⟨bc,o',r,rfl,hlt',hMp,d0,d1,d2,hz'⟩:=(HY.out.below HB.out).at_ hqm';have HG:=Ad (RZ hLp hMp);have y2:=Ae (wr.alloc (.cells #[.int .i64 p.v,.bool p.s,.slice p.B p.m p.d] 59)) (.cells #[.int .i64 r.v,.bool r.s,.slice r.B r.m r.d] 59);have hcl:=QP p r k _ ((hz.below y1).below y2) ((hz'.below y1).below y2) hk;have HB2:=Ad ((HB.out.next y1).next y2);unfold PV.agg at hcl;by_cases h0:EW (AK p.v r.v) (AK p.Z r.Z)=0
      · have HE:=Ad (show cmpL (L.drop (q+1)) (M.drop (q+1))=cmpL L M by rw[<-HR.out,HG.out,if_neg (by simp[h0])]);rw[h0]at hcl;clear h0 hLp hMp hz hz' y1 y2 HG;go_wp2_with fail;refine hcl.mono ?_;rintro e w2 ⟨rfl,b2⟩;have HB3:=Ad (HB2.out.next b2);go_wp2_with fail;go_roundw
        case rel=>exact ⟨q+1,by omega,by go_num,by omega,HE,HB3⟩
        case measure=>simp[intOf]<;>omega
      · have HE:=Ad (show cmpL L M=EW (AK p.v r.v) (AK p.Z r.Z) by rw[<-HR.out,HG.out,if_pos h0]);generalize EW (AK p.v r.v) (AK p.Z r.Z)=z at *;have hb:(z != 0)=true:=(by simp[h0]);clear h0 hLp hMp hz hz' y1 y2 HG;go_wp2_with fail;refine hcl.mono ?_;rintro e w2 ⟨rfl,b2⟩;go_wp2_with fail;go_ret
        exact ⟨by rw[HE.out];rfl,HB2.out.next b2⟩
    · have HE:=Ad (show cmpL L M=1 by rw[<-HR.out,DJ hLp,List.drop_of_length_le (show M.length<=q by rw[HM.out];omega)];rfl);have HB2:=Ad (HB.out.next y1);clear hLp hz y1;go_wp2_with fail;go_ret
      exact ⟨by rw[HE.out];rfl,HB2.out⟩
  · obtain rfl:q=n:=(by omega);by_cases hqm':q<m
    · have HE:=Ad (show cmpL L M=-1 by
        rw[<-HR.out,List.drop_of_length_le (show L.length<=q by rw[HL.out];exact Nat.le_refl _)];obtain ⟨x,hx⟩:∃x,M[q]?=some x:=⟨M[q]'(by rw[HM.out];exact hqm'),List.getElem?_eq_getElem _⟩;rw[DJ hx];rfl)
      go_wp2_with fail;go_ret
      exact ⟨by rw[HE.out];rfl,HB.out⟩
    · have HE:=Ad (show cmpL L M=0 by rw[<-HR.out,List.drop_of_length_le (show L.length<=q by rw[HL.out];exact Nat.le_refl _),List.drop_of_length_le (show M.length<=q by rw[HM.out];omega)];rfl);go_wp2_with fail;go_ret
      exact ⟨by rw[HE.out];rfl,HB.out⟩
theorem IK (v u:Value) (L M:List (Int×Int)) (K KM:Int) (k:Nat) (w0:World) (hv:Dw w0 v L K k) (hu:Dw w0 u M KM k) (hl:L.length<=1099511) (hm:M.length<=1099511) (hk:k<=1099511627) :
   Calls Tryz.prog 36 #[v,u] w0 (fun e w'=>e=.returned (.int .i64 (I2 L M K KM))/\Below w0.heap.size w0 w'):=by
 obtain ⟨A,n,c,s,B,m,d,rfl,hp,hc1,hc2,hK⟩:=hv;obtain ⟨A2,n2,c2,s2,B2,m2,d2,rfl,hp2,hd1,hd2,hK2⟩:=hu;have hn:=hp.len;have hn2:=hp2.len;have HN1:=Ad (AR L);have HN2:=Ad (AR M);rw[hn]at hl;rw[hn2]at hm;obtain ⟨z0,z1,z2,-⟩:=Bh 33 33 w0 #[.slice A n c,.bool s,.slice B m d] #[.slice A2 n2 c2,.bool s2,.slice B2 m2 d2];go_enter Tryz.func36,Tryz.ntmps36;go_wp2_with fail
 generalize hW0:((w0.alloc (.cells #[.slice A n c,.bool s,.slice B m d] 33)).alloc (.cells #[.slice A2 n2 c2,.bool s2,.slice B2 m2 d2] 33))=W0 at *;clear hW0;obtain ⟨kk,hkk0⟩:∃kk,kk=k+n+n2:=⟨_,rfl⟩;have hkk:kk<=1099511627776:=by omega
 have HPA:=Ad (fun W (h:Below W0.heap.size W0 W)=>(CL A n c L k W (hp.below (z2.next h)) hc1 hc2 (by omega) hk).mono (fun e w' (q:DL _ _ _ _ _)=>show DL L kk W e w' from by obtain ⟨A',n',c',e1,e2,e3⟩:=q;exact ⟨A',n',c',e1,e2.mono (by omega),e3⟩))
 have HPB:=Ad (fun W (h:Below W0.heap.size W0 W)=>(CL A2 n2 c2 M k W (hp2.below (z2.next h)) hd1 hd2 (by omega) hk).mono (fun e w' (q:DL _ _ _ _ _)=>show DL M kk W e w' from by obtain ⟨A',n',c',e1,e2,e3⟩:=q;exact ⟨A',n',c',e1,e2.mono (by omega),e3⟩));unfold DL at HPA HPB;have HKA:=Ad (hK.below z2);have HKB:=Ad (hK2.below z2);have T0:=Ad z2;have Z0:=Ad z0;have Z1:=Ad z1
 have SOF:=Ad (show ∀W,Below W0.heap.size W0 W->(W.cell? ⟨w0.heap.size,0,none⟩=some (.slice A n c)/\W.cell? ⟨w0.heap.size,1,none⟩=some (.bool s)/\W.cell? ⟨w0.heap.size,2,none⟩=some (.slice B m d)/\W.cell? ⟨w0.heap.size+1,0,none⟩=some (.slice A2 n2 c2)/\W.cell? ⟨w0.heap.size+1,1,none⟩=some (.bool s2)/\W.cell? ⟨w0.heap.size+1,2,none⟩=some (.slice B2 m2 d2)) from fun W h=>⟨(z0.next h).c0,(z0.next h).c1,(z0.next h).c2,(z1.next h).c0,(z1.next h).c1,(z1.next h).c2⟩)
 have HH:=Ad hkk0;clear z0 z1 z2 hp hp2 hK hK2 hkk0 hn hn2
 refine BC (by kernel_rfl) (by kernel_rfl) (by kernel_rfl) (fun w w'=>Below w.heap.size w w') (fun j v w=>match j with|0=>v=.pointer (some ⟨w0.heap.size,0,none⟩)|1=>v=.slice A n c|2=>∃A n c,v=.slice A n c/\EP w A n (norm L) kk/\n<=c/\c<=9223372036854775807|3=>v=.pointer (some ⟨w0.heap.size+1,0,none⟩)|4=>v=.slice A2 n2 c2|5=>∃A n c,v=.slice A n c/\EP w A n (norm M) kk/\n<=c/\c<=9223372036854775807|6=>v=.int .i64 (cmpL (norm L) (norm M))|7=>v=.int .i64 (cmpL (norm L) (norm M))|_=>True) (fun _ _ w=>Below W0.heap.size W0 w) ?_ (fun _=>Ak W0 1) ?_ ?_
 · intro j v w w' hT h;match j,h with
   |0,h=>exact h
   |1,h=>exact h
   |2,h=>exact (by obtain ⟨A,n,c,e,h1,h2,h3⟩:=h;exact ⟨A,n,c,e,h1.below hT,h2,h3⟩)
   |3,h=>exact h
   |4,h=>exact h
   |5,h=>exact (by obtain ⟨A,n,c,e,h1,h2,h3⟩:=h;exact ⟨A,n,c,e,h1.below hT,h2,h3⟩)
   |6,h=>exact h
   |7,h=>exact h
   |j+8,h=>trivial
 · refine ⟨?_,?_,?_,?_,?_,?_,?_,?_,trivial⟩
   · intro listed σ w a hin hout hl hc hp hG hF;refine Ac.none rfl ?_;have e2:a.tmps.getD 2 undef=.pointer (some ⟨w0.heap.size,0,none⟩):=hout 2 (Af (by kernel_rfl));refine Does.val (.pointer (some ⟨w0.heap.size,0,none⟩)) (w':=w) ?_ ⟨Below.refl _ _,rfl,hG⟩;simp only[Array.getD_eq_getD_getElem?]at e2;go_simp
   · intro listed σ w a hin hout hl hc hp hG hF;refine Ac.none rfl ?_;have e6:a.tmps.getD 6 undef=.pointer (some ⟨w0.heap.size,0,none⟩):=(hin 0 6 rfl (hp ⟨0,.data⟩ (by simp) rfl)).trans (hF 0 (hp ⟨0,.data⟩ (by simp) rfl));have CC:=SOF.out w hG;obtain ⟨C0,C1,C2,D0,D1,D2⟩:=CC;refine Does.val (.slice A n c) (w':=w) ?_ ⟨Below.refl _ _,rfl,hG⟩;go_simp
   · intro listed σ w a hin hout hl hc hp hG hF;refine Ac.none rfl ?_;have e7:a.tmps.getD 7 undef=.slice A n c:=(hin 1 7 rfl (hp ⟨1,.data⟩ (by simp) rfl)).trans (hF 1 (hp ⟨1,.data⟩ (by simp) rfl));refine Does.call ?_ (HPA.out w hG) ?_
     · go_simp
     · rintro e w' ⟨A,n,c,rfl,hp,h1,h2,hb⟩;exact ⟨_,rfl,hb,⟨A,n,c,rfl,hp,h1,h2⟩,hG.next hb⟩
   · intro listed σ w a hin hout hl hc hp hG hF;refine Ac.none rfl ?_;have e3:a.tmps.getD 3 undef=.pointer (some ⟨w0.heap.size+1,0,none⟩):=hout 3 (Af (by kernel_rfl));refine Does.val (.pointer (some ⟨w0.heap.size+1,0,none⟩)) (w':=w) ?_ ⟨Below.refl _ _,rfl,hG⟩;simp only[Array.getD_eq_getD_getElem?]at e3;go_simp
   · intro listed σ w a hin hout hl hc hp hG hF;refine Ac.none rfl ?_;have e9:a.tmps.getD 9 undef=.pointer (some ⟨w0.heap.size+1,0,none⟩):=(hin 3 9 rfl (hp ⟨3,.data⟩ (by simp) rfl)).trans (hF 3 (hp ⟨3,.data⟩ (by simp) rfl));have CC:=SOF.out w hG;obtain ⟨C0,C1,C2,D0,D1,D2⟩:=CC;refine Does.val (.slice A2 n2 c2) (w':=w) ?_ ⟨Below.refl _ _,rfl,hG⟩;go_simp
   · intro listed σ w a hin hout hl hc hp hG hF;refine Ac.none rfl ?_;have e10:a.tmps.getD 10 undef=.slice A2 n2 c2:=(hin 4 10 rfl (hp ⟨4,.data⟩ (by simp) rfl)).trans (hF 4 (hp ⟨4,.data⟩ (by simp) rfl));refine Does.call ?_ (HPB.out w hG) ?_
     · go_simp
     · rintro e w' ⟨A,n,c,rfl,hp,h1,h2,hb⟩;exact ⟨_,rfl,hb,⟨A,n,c,rfl,hp,h1,h2⟩,hG.next hb⟩
   · intro listed σ w a hin hout hl hc hp hG hF;refine Ac.none rfl ?_;have e8:=hin 2 8 rfl (hp ⟨2,.data⟩ (by simp) rfl);obtain ⟨Aa,na,ca,ev2,p2,h21,h22⟩:=hF 2 (hp ⟨2,.data⟩ (by simp) rfl);rw[ev2]at e8;have e11:=hin 5 11 rfl (hp ⟨5,.data⟩ (by simp) rfl);obtain ⟨Ab,nb,cb,ev5,p5,h51,h52⟩:=hF 5 (hp ⟨5,.data⟩ (by simp) rfl);rw[ev5]at e11;refine Does.call ?_ (Hk Aa na ca Ab nb cb (norm L) (norm M) kk w p2 p5 (by omega) (by omega) hkk) ?_
     · go_simp
     · rintro e w' ⟨rfl,hb⟩;exact ⟨_,rfl,hb,rfl,hG.next hb⟩
   · intro listed σ w a hin hout hl hc hp hG hF;refine Ac.none rfl ?_;have e12:a.tmps.getD 12 undef=.int .i64 (cmpL (norm L) (norm M)):=(hin 6 12 rfl (hp ⟨6,.data⟩ (by simp) rfl)).trans (hF 6 (hp ⟨6,.data⟩ (by simp) rfl));refine Does.val (.int .i64 (cmpL (norm L) (norm M))) (w':=w) ?_ ⟨Below.refl _ _,rfl,hG⟩;simp only[Array.getD_eq_getD_getElem?]at e12;go_simp
 · intro listed σ W9 hall hG hF;rw[show mid _ σ listed _=(Act.put (Act.put (Act.put (Act.put (Act.put (Act.put (Act.put (Act.put _ (some 6) (σ 0)) (some 7) (σ 1)) (some 8) (σ 2)) (some 9) (σ 3)) (some 10) (σ 4)) (some 11) (σ 5)) (some 12) (σ 6)) (some 5) (σ 7)) from (BP hall).trans rfl];generalize σ 0=tt0;generalize σ 1=tt1;generalize σ 2=tt2;generalize σ 3=tt3;generalize σ 4=tt4;generalize σ 5=tt5;generalize σ 6=tt6
   rw[show σ 7=.int .i64 (cmpL (norm L) (norm M)) from hF 7 (by decide)];simp only[Act.put,List.setIfInBounds_toArray,List.set_cons_zero,List.set_cons_succ];have TG:=hG;clear hF hG hall;clear σ;have C:=SOF.out W9 TG;obtain ⟨C0,C1,C2,D0,D1,D2⟩:=C
   have hcz:=(show Calls Tryz.prog 65 #[.agg #[.bool s,.slice B m d],.agg #[.bool s2,.slice B2 m2 d2]] W9 (fun e w'=>e=.returned (.int .i64 (AK K KM))/\Below W9.heap.size W9 w') from L1 _ _ K KM k W9 (HKA.out.below TG) (HKB.out.below TG) (by omega));have HT:=Ad (T0.out.next TG);have HD:=Ad (show I2 L M K KM=Hj [cmpL (norm L) (norm M),AK K KM] by rw[Oe];rfl);generalize cmpL (norm L) (norm M)=z1 at *;generalize AK K KM=z2 at *;clear TG SOF HKA HKB HPA HPB;go_wp2_with fail
   refine hcz.mono ?_;rintro e w2 ⟨rfl,b2⟩;have HT2:=Ad (HT.out.next b2);have y1:=Ae w2 (.cells #[.int .i64 z1,.int .i64 z2] 3);have ho:=QO (some ⟨w2.heap.size,0,none⟩) 2 2 [z1,z2] _ (EX.two (Aw.new 3 w2 #[.int .i64 z1,.int .i64 z2])) (by omega);have HT3:=Ad (HT2.out.next y1);clear hcz C0 C1 C2 D0 D1 D2 y1;go_wp2_with fail;refine ho.mono ?_;rintro e w3 ⟨rfl,rfl⟩;go_wp2_with fail;go_ret
   exact ⟨by rw[HD.out];rfl,HT3.out⟩
theorem Pf (v u:Value) (L M:List (Int×Int)) (K KM:Int) (k:Nat) (w0:World) (hv:Dw w0 v L K k) (hu:Dw w0 u M KM k) (hl:L.length<=1099511) (hm:M.length<=1099511) (hk:k<=1099511627) :
  Calls Tryz.prog 63 #[v,u] w0 (Ti (I2 L M K KM==0) w0):=by
 have hv0:=hv;have hu0:=hu;obtain ⟨A,n,c,s,B,m,d,rfl,-⟩:=hv;obtain ⟨A2,n2,c2,s2,B2,m2,d2,rfl,-⟩:=hu;obtain ⟨z0,z1,z2,-⟩:=Bh 33 33 w0 #[.slice A n c,.bool s,.slice B m d] #[.slice A2 n2 c2,.bool s2,.slice B2 m2 d2];have hc:=IK _ _ L M K KM k _ (hv0.below z2) (hu0.below z2) hl hm hk;have HZ:=Ad z2;clear hv0 hu0 z0 z1 z2;generalize I2 L M K KM=z at *;go_enter Tryz.func63,Tryz.ntmps63;go_wp2_with fail;refine hc.mono ?_;rintro e w1 ⟨rfl,b1⟩;go_wp2_with fail;go_ret
 exact ⟨rfl,HZ.out.next b1⟩
end
section
open Go.RowKit
open Tm
theorem Tk (A:Option Addr) (c:Nat) (x y:Int) (w:World) (hx:EX w A 2 [x,y]):Calls Tryz.prog 35 #[.slice A 2 c] w (fun e w'=>e=.returned (.int .i64 (EW x y))/\Below w.heap.size w w'):=by
 obtain ⟨b,o,x',rfl,hlt,h0,c0⟩:=hx.at_ (i:=0) (by decide);obtain ⟨b',o',y',e1,hlt',h1,c1⟩:=hx.at_ (i:=1) (by decide);injection e1 with e1
 injection e1 with e2 e3
 subst e2 e3;injection h0 with h0
 subst h0;injection h1 with h1
 subst h1;rw[Nat.add_zero]at c0;go_enter Tryz.func35,Tryz.ntmps35;go_wp2_with fail;go_loopw [8] (fun i wr=>∃q:Nat,q<=2/\i=.int .i64 q/\(0<q->x=0)/\(1<q->y=0)/\wr=w) (fun i _=>2-(intOf i).toNat)
 case atStart=>exact ⟨0,by decide,rfl,by omega,by omega,rfl⟩
 case round=>
  obtain ⟨q,hq,rfl,hx0,hy0,rfl⟩:=hrel;match q,hq with
  |0,_=>
   clear hx0 hy0;by_cases h:x=0
   · have HH:=Ad h;have hb:(x != 0)=false:=(by simp[h]);clear h;go_wp2_with fail;go_roundw
     case rel=>exact ⟨1,by decide,by go_num,fun _=>HH.out,by omega,by trivial⟩
     case measure=>simp[intOf]<;>omega
   · have hb:(x != 0)=true:=(by simp[h]);have e1:EW x y=x:=(by unfold EW;rw[if_pos h]);have HE:=Ad e1;clear e1 h;go_wp2_with fail;go_ret
     exact ⟨by rw[HE.out]<;>rfl,Below.refl _ _⟩
  |1,_=>
   have HX:=Ad (hx0 (by decide));clear hx0 hy0;by_cases h:y=0
   · have HH:=Ad h;have hb:(y != 0)=false:=(by simp[h]);clear h;go_wp2_with fail;go_roundw
     case rel=>exact ⟨2,by decide,by go_num,fun _=>HX.out,fun _=>HH.out,by trivial⟩
     case measure=>simp[intOf]<;>omega
   · have hb:(y != 0)=true:=(by simp[h]);have e1:EW x y=y:=(by unfold EW;rw[if_neg (by rw[HX.out];simp)]);have HE:=Ad e1;clear e1 h;go_wp2_with fail;go_ret
     exact ⟨by rw[HE.out]<;>rfl,Below.refl _ _⟩
  |2,_=>
   have e1:EW x y=0:=(by unfold EW;rw[if_neg (by rw[hx0 (by decide)];simp),hy0 (by decide)]);have HE:=Ad e1;clear e1 hx0 hy0;go_wp2_with fail;go_ret
   exact ⟨by rw[HE.out]<;>rfl,Below.refl _ _⟩
def Pg (L M:List (Int×Int)) (K KM:Int) (f1 f2:Bool):Int:=EW (I2 L M K KM) (Ez f1-Ez f2)
theorem FU (v u:Value) (L M:List (Int×Int)) (K KM:Int) (f1 f2:Bool) (k:Nat) (w0:World) (hv:JW w0 v L K f1 k) (hu:JW w0 u M KM f2 k) (hl:L.length<=1099511) (hm:M.length<=1099511) (hk:k<=1099511627) :
   Calls Tryz.prog 12 #[v,u] w0 (fun e w'=>e=.returned (.int .i64 (Pg L M K KM f1 f2))/\Below w0.heap.size w0 w'):=by
 have hv0:=hv;have hu0:=hu;obtain ⟨A,n,c,s,B,m,d,rfl,ht⟩:=hv;obtain ⟨A2,n2,c2,s2,B2,m2,d2,rfl,hu1⟩:=hu;obtain ⟨z0,z1,z2,-⟩:=Bh 35 35 w0 #[.slice A n c,.bool s,.slice B m d,.bool f1] #[.slice A2 n2 c2,.bool s2,.slice B2 m2 d2,.bool f2];unfold Pg;have hkw:IntKind.i64.wrap (Ez f1-Ez f2)=Ez f1-Ez f2:=by cases f1<;>cases f2<;>rfl
 have hcm:=fun W (a:Dw W (.agg #[.slice A n c,.bool s,.slice B m d]) L K k) (b:Dw W (.agg #[.slice A2 n2 c2,.bool s2,.slice B2 m2 d2]) M KM k)=>IK _ _ L M K KM k W a b hl hm hk
 have hk1:=fun W (a:JW W (.agg #[.slice A n c,.bool s,.slice B m d,.bool f1]) L K f1 k)=>JX _ L K f1 k W a
 have hk2:=fun W (a:JW W (.agg #[.slice A2 n2 c2,.bool s2,.slice B2 m2 d2,.bool f2]) M KM f2 k)=>JX _ M KM f2 k W a
 generalize I2 L M K KM=cz at hcm ⊢;generalize Ez f1=k1 at hkw hk1 ⊢;generalize Ez f2=k2 at hkw hk2 ⊢;have HCM0:=Ad hcm;have HK10:=Ad hk1;have HK20:=Ad hk2;clear hcm hk1 hk2;go_enter Tryz.func12,Tryz.ntmps12;go_upto_region 1 with fail;generalize hW:((w0.alloc (.cells #[.slice A n c,.bool s,.slice B m d,.bool f1] 35)).alloc (.cells #[.slice A2 n2 c2,.bool s2,.slice B2 m2 d2,.bool f2] 35))=W0 at *;clear hW;have HX:=Ad z0;have HY:=Ad z1;have HT8:=Ad z2
 have HCM:=Ad (fun W (h:Below W0.heap.size W0 W)=>HCM0.out W ((ht.below z2).below h) ((hu1.below z2).below h));have HK1:=Ad (fun W (h:Below W0.heap.size W0 W)=>HK10.out W ((hv0.below z2).below h));have HK2:=Ad (fun W (h:Below W0.heap.size W0 W)=>HK20.out W ((hu0.below z2).below h))
 have SOF:=Ad (show ∀W,Below W0.heap.size W0 W->(W.cell? ⟨w0.heap.size,0,none⟩=some (.slice A n c)/\W.cell? ⟨w0.heap.size,1,none⟩=some (.bool s)/\W.cell? ⟨w0.heap.size,2,none⟩=some (.slice B m d)/\W.cell? ⟨w0.heap.size,3,none⟩=some (.bool f1)/\W.cell? ⟨w0.heap.size+1,0,none⟩=some (.slice A2 n2 c2)/\W.cell? ⟨w0.heap.size+1,1,none⟩=some (.bool s2)/\W.cell? ⟨w0.heap.size+1,2,none⟩=some (.slice B2 m2 d2)/\W.cell? ⟨w0.heap.size+1,3,none⟩=some (.bool f2)) from fun W h=>⟨(HX.out.next h).r0,(HX.out.next h).r1,(HX.out.next h).r2,(HX.out.next h).r3,(HY.out.next h).r0,(HY.out.next h).r1,(HY.out.next h).r2,(HY.out.next h).r3⟩)
 clear z0 z1 z2 ht hu1 hv0 hu0
 refine BC (by kernel_rfl) (by kernel_rfl) (by kernel_rfl) (fun w w'=>Below w.heap.size w w') (fun j v w=>match j with|0=>v=.pointer (some ⟨w0.heap.size,0,none⟩)|1=>v=.agg #[.slice A n c,.bool s,.slice B m d]|2=>v=.pointer (some ⟨w0.heap.size+1,0,none⟩)|3=>v=.agg #[.slice A2 n2 c2,.bool s2,.slice B2 m2 d2]|4=>v=.int .i64 cz|5=>v=.agg #[.slice A n c,.bool s,.slice B m d,.bool f1]|6=>v=.int .i64 k1|7=>v=.agg #[.slice A2 n2 c2,.bool s2,.slice B2 m2 d2,.bool f2]|8=>v=.int .i64 k2|9=>v=.int .i64 (k1-k2)|10=>∃g,v=.slice (some ⟨g,0,none⟩) 2 2/\Aw 3 w g #[.int .i64 cz,.int .i64 (k1-k2)]|11=>v=.int .i64 (EW cz (k1-k2))|12=>v=.int .i64 (EW cz (k1-k2))|_=>True) (fun _ _ w=>Below W0.heap.size W0 w) ?_ (fun _=>Ak W0 1) ?_ ?_
 · intro j v w w' hT h;match j,h with
   |0,h=>exact h
   |1,h=>exact h
   |2,h=>exact h
   |3,h=>exact h
   |4,h=>exact h
   |5,h=>exact h
   |6,h=>exact h
   |7,h=>exact h
   |8,h=>exact h
   |9,h=>exact h
   |10,h=>exact (by obtain ⟨g,e,h1⟩:=h;exact ⟨g,e,h1.next hT⟩)
   |11,h=>exact h
   |12,h=>exact h
   |j+13,h=>trivial
 · refine ⟨?_,?_,?_,?_,?_,?_,?_,?_,?_,?_,?_,?_,?_,trivial⟩
   · intro listed σ w a hin hout hl hc hp hG hF;refine Ac.none rfl ?_;have e2:a.tmps.getD 2 undef=.pointer (some ⟨w0.heap.size,0,none⟩):=hout 2 (Af (by kernel_rfl));refine Does.val (.pointer (some ⟨w0.heap.size,0,none⟩)) (w':=w) ?_ ⟨Below.refl _ _,rfl,hG⟩;simp only[Array.getD_eq_getD_getElem?]at e2;go_simp
   · intro listed σ w a hin hout hl hc hp hG hF;refine Ac.none rfl ?_;have e5:a.tmps.getD 5 undef=.pointer (some ⟨w0.heap.size,0,none⟩):=(hin 0 5 rfl (hp ⟨0,.data⟩ (by simp) rfl)).trans (hF 0 (hp ⟨0,.data⟩ (by simp) rfl));have CC:=SOF.out w hG;obtain ⟨C0,C1,C2,C3,D0,D1,D2,D3⟩:=CC;refine Does.val (.agg #[.slice A n c,.bool s,.slice B m d]) (w':=w) ?_ ⟨Below.refl _ _,rfl,hG⟩;go_simp
   · intro listed σ w a hin hout hl hc hp hG hF;refine Ac.none rfl ?_;have e3:a.tmps.getD 3 undef=.pointer (some ⟨w0.heap.size+1,0,none⟩):=hout 3 (Af (by kernel_rfl));refine Does.val (.pointer (some ⟨w0.heap.size+1,0,none⟩)) (w':=w) ?_ ⟨Below.refl _ _,rfl,hG⟩;simp only[Array.getD_eq_getD_getElem?]at e3;go_simp
   · intro listed σ w a hin hout hl hc hp hG hF;refine Ac.none rfl ?_;have e7:a.tmps.getD 7 undef=.pointer (some ⟨w0.heap.size+1,0,none⟩):=(hin 2 7 rfl (hp ⟨2,.data⟩ (by simp) rfl)).trans (hF 2 (hp ⟨2,.data⟩ (by simp) rfl));have CC:=SOF.out w hG;obtain ⟨C0,C1,C2,C3,D0,D1,D2,D3⟩:=CC;refine Does.val (.agg #[.slice A2 n2 c2,.bool s2,.slice B2 m2 d2]) (w':=w) ?_ ⟨Below.refl _ _,rfl,hG⟩;go_simp
   · intro listed σ w a hin hout hl hc hp hG hF;refine Ac.none rfl ?_;have e6:a.tmps.getD 6 undef=.agg #[.slice A n c,.bool s,.slice B m d]:=(hin 1 6 rfl (hp ⟨1,.data⟩ (by simp) rfl)).trans (hF 1 (hp ⟨1,.data⟩ (by simp) rfl));have e8:a.tmps.getD 8 undef=.agg #[.slice A2 n2 c2,.bool s2,.slice B2 m2 d2]:=(hin 3 8 rfl (hp ⟨3,.data⟩ (by simp) rfl)).trans (hF 3 (hp ⟨3,.data⟩ (by simp) rfl));refine Does.call ?_ (HCM.out w hG) ?_
     · go_simp
     · rintro e w' ⟨rfl,hb⟩;exact ⟨_,rfl,hb,rfl,hG.next hb⟩
   · intro listed σ w a hin hout hl hc hp hG hF;refine Ac.none rfl ?_;have e2:a.tmps.getD 2 undef=.pointer (some ⟨w0.heap.size,0,none⟩):=hout 2 (Af (by kernel_rfl));have CC:=SOF.out w hG;obtain ⟨C0,C1,C2,C3,D0,D1,D2,D3⟩:=CC;refine Does.val (.agg #[.slice A n c,.bool s,.slice B m d,.bool f1]) (w':=w) ?_ ⟨Below.refl _ _,rfl,hG⟩;go_simp
   · intro listed σ w a hin hout hl hc hp hG hF;refine Ac.none rfl ?_;have e10:a.tmps.getD 10 undef=.agg #[.slice A n c,.bool s,.slice B m d,.bool f1]:=(hin 5 10 rfl (hp ⟨5,.data⟩ (by simp) rfl)).trans (hF 5 (hp ⟨5,.data⟩ (by simp) rfl));refine Does.call ?_ (HK1.out w hG) ?_
     · go_simp
     · rintro e w' ⟨rfl,hb⟩;exact ⟨_,rfl,hb,rfl,hG.next hb⟩
   · intro listed σ w a hin hout hl hc hp hG hF;refine Ac.none rfl ?_;have e3:a.tmps.getD 3 undef=.pointer (some ⟨w0.heap.size+1,0,none⟩):=hout 3 (Af (by kernel_rfl));have CC:=SOF.out w hG;obtain ⟨C0,C1,C2,C3,D0,D1,D2,D3⟩:=CC;refine Does.val (.agg #[.slice A2 n2 c2,.bool s2,.slice B2 m2 d2,.bool f2]) (w':=w) ?_ ⟨Below.refl _ _,rfl,hG⟩;go_simp
   · intro listed σ w a hin hout hl hc hp hG hF;refine Ac.none rfl ?_;have e12:a.tmps.getD 12 undef=.agg #[.slice A2 n2 c2,.bool s2,.slice B2 m2 d2,.bool f2]:=(hin 7 12 rfl (hp ⟨7,.data⟩ (by simp) rfl)).trans (hF 7 (hp ⟨7,.data⟩ (by simp) rfl));refine Does.call ?_ (HK2.out w hG) ?_
     · go_simp
     · rintro e w' ⟨rfl,hb⟩;exact ⟨_,rfl,hb,rfl,hG.next hb⟩
   · intro listed σ w a hin hout hl hc hp hG hF;refine Ac.none rfl ?_;have e11:a.tmps.getD 11 undef=.int .i64 k1:=(hin 6 11 rfl (hp ⟨6,.data⟩ (by simp) rfl)).trans (hF 6 (hp ⟨6,.data⟩ (by simp) rfl));have e13:a.tmps.getD 13 undef=.int .i64 k2:=(hin 8 13 rfl (hp ⟨8,.data⟩ (by simp) rfl)).trans (hF 8 (hp ⟨8,.data⟩ (by simp) rfl));refine Does.val (.int .i64 (k1-k2)) (w':=w) ?_ ⟨Below.refl _ _,rfl,hG⟩;simp only[Array.getD_eq_getD_getElem?]at e11 e13;go_simp
   · intro listed σ w a hin hout hl hc hp hG hF;refine Ac.none rfl ?_;have e9:a.tmps.getD 9 undef=.int .i64 cz:=(hin 4 9 rfl (hp ⟨4,.data⟩ (by simp) rfl)).trans (hF 4 (hp ⟨4,.data⟩ (by simp) rfl));have e14:a.tmps.getD 14 undef=.int .i64 (k1-k2):=(hin 9 14 rfl (hp ⟨9,.data⟩ (by simp) rfl)).trans (hF 9 (hp ⟨9,.data⟩ (by simp) rfl))
     refine Does.val (.slice (some ⟨w.heap.size,0,none⟩) 2 2) (w':=w.alloc (.cells #[.int .i64 cz,.int .i64 (k1-k2)] 3)) ?_ ⟨Ae w _,⟨w.heap.size,rfl,Aw.new _ _ _⟩,hG.next (Ae w _)⟩;simp only[Array.getD_eq_getD_getElem?]at e9 e14;go_simp
   · intro listed σ w a hin hout hl hc hp hG hF;refine Ac.none rfl ?_;have e15:=hin 10 15 rfl (hp ⟨10,.data⟩ (by simp) rfl);obtain ⟨g10,ev10,x10⟩:=hF 10 (hp ⟨10,.data⟩ (by simp) rfl);rw[ev10]at e15;refine Does.call ?_ (Tk _ 2 cz (k1-k2) w (EX.two x10)) ?_
     · go_simp
     · rintro e w' ⟨rfl,hb⟩;exact ⟨_,rfl,hb,rfl,hG.next hb⟩
   · intro listed σ w a hin hout hl hc hp hG hF;refine Ac.none rfl ?_;have e16:a.tmps.getD 16 undef=.int .i64 (EW cz (k1-k2)):=(hin 11 16 rfl (hp ⟨11,.data⟩ (by simp) rfl)).trans (hF 11 (hp ⟨11,.data⟩ (by simp) rfl));refine Does.val (.int .i64 (EW cz (k1-k2))) (w':=w) ?_ ⟨Below.refl _ _,rfl,hG⟩;simp only[Array.getD_eq_getD_getElem?]at e16;go_simp
 · intro listed σ W9 hall hG hF;rw[show mid _ σ listed _=(Act.put (Act.put (Act.put (Act.put (Act.put (Act.put (Act.put (Act.put (Act.put (Act.put (Act.put (Act.put (Act.put _ (some 5) (σ 0)) (some 6) (σ 1)) (some 7) (σ 2)) (some 8) (σ 3)) (some 9) (σ 4)) (some 10) (σ 5)) (some 11) (σ 6)) (some 12) (σ 7)) (some 13) (σ 8)) (some 14) (σ 9)) (some 15) (σ 10)) (some 16) (σ 11)) (some 4) (σ 12)) from (BP hall).trans rfl];generalize σ 0=tt0;generalize σ 1=tt1;generalize σ 2=tt2
   generalize σ 3=tt3;generalize σ 4=tt4;generalize σ 5=tt5;generalize σ 6=tt6;generalize σ 7=tt7;generalize σ 8=tt8;generalize σ 9=tt9;generalize σ 10=tt10;generalize σ 11=tt11;rw[show σ 12=.int .i64 (EW cz (k1-k2)) from hF 12 (by decide)];simp only[Act.put,List.setIfInBounds_toArray,List.set_cons_zero,List.set_cons_succ];have TG:=hG;clear hF hG hall;clear σ;go_wp2_with fail;go_ret
   exact ⟨rfl,HT8.out.next TG⟩
theorem Me (v u:Value) (L M:List (Int×Int)) (K KM:Int) (f1 f2:Bool) (k:Nat) (w0:World) (hv:JW w0 v L K f1 k) (hu:JW w0 u M KM f2 k) (hl:L.length<=1099511) (hm:M.length<=1099511) (hk:k<=1099511627) :
  Calls Tryz.prog 19 #[v,u] w0 (fun e w'=>e=.returned (.bool (Pg L M K KM f1 f2==0))/\Below w0.heap.size w0 w'):=by
 have hv0:=hv;have hu0:=hu;obtain ⟨A,n,c,s,B,m,d,rfl,-⟩:=hv;obtain ⟨A2,n2,c2,s2,B2,m2,d2,rfl,-⟩:=hu;obtain ⟨z0,z1,z2,-⟩:=Bh 35 35 w0 #[.slice A n c,.bool s,.slice B m d,.bool f1] #[.slice A2 n2 c2,.bool s2,.slice B2 m2 d2,.bool f2];have hc:=FU _ _ L M K KM f1 f2 k _ (hv0.below z2) (hu0.below z2) hl hm hk;generalize Pg L M K KM f1 f2=cz at *;have x0:=z0.r0;have x1:=z0.r1;have x2:=z0.r2;have x3:=z0.r3;have y0:=z1.r0;have y1:=z1.r1;have y2:=z1.r2;have y3:=z1.r3
 go_enter Tryz.func19,Tryz.ntmps19;go_wp2_with fail;refine hc.mono ?_;rintro e w1 ⟨rfl,b1⟩;go_wp2_with fail;go_ret
 exact ⟨rfl,z2.next b1⟩
end
end Go.Proofs.YtemfjdedjcjegaaGreatDoor
