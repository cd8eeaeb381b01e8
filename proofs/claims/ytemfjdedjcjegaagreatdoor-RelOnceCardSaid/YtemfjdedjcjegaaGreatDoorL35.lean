/- Texts of one seat, put together: Tidying TidyR ThreeApps RContent RShrink. -/
import Derived.Test.YtemfjdedjcjegaaGreatDoorL16
import Derived.Test.YtemfjdedjcjegaaGreatDoorL34
import Derived.Test.YtemfjdedjcjegaaGreatDoorL25
import Derived.Test.YtemfjdedjcjegaaGreatDoorL28
import Derived.Test.YtemfjdedjcjegaaGreatDoorL15
import Derived.Test.YtemfjdedjcjegaaGreatDoorL18
import Derived.Test.YtemfjdedjcjegaaGreatDoorL19
import Derived.Test.YtemfjdedjcjegaaGreatDoorL09
import Derived.Test.YtemfjdedjcjegaaGreatDoorL22
set_option linter.unusedVariables false
set_option linter.unusedSimpArgs false
set_option maxRecDepth 100000
set_option maxHeartbeats 16000000
namespace Go.Proofs.YtemfjdedjcjegaaGreatDoor
section
open Go.RowKit
open Tm
def Uk:List R3:=[([(0,1)],0,false),([(0,-1)],0,false),([],5,false)]
def Ul:List R3:=[([(0,1)],-1,false),([(0,-1)],0,false)]
theorem Ro:G7 Uk (some [([(0,1)],0,true)]):=by
 refine ⟨by decide +kernel,[⟨[(0,1)],some 0,none⟩,⟨[(0,1)],none,some 0⟩],?_,?_,?_,?_,by simp⟩
 · rw[show BI Uk=[⟨[(0,1)],some 0,none⟩,⟨[(0,1)],none,some 0⟩] from by kernel_rfl]
 · unfold Cp;simp[cmpL,AK]
 · rw[show BN [⟨[(0,1)],some 0,none⟩,⟨[(0,1)],none,some 0⟩]=[⟨[(0,1)],some 0,some 0⟩] from by kernel_rfl];intro b hb;rw[List.mem_singleton]at hb;subst hb;simp[BH]
 · rw[show BN [⟨[(0,1)],some 0,none⟩,⟨[(0,1)],none,some 0⟩]=[⟨[(0,1)],some 0,some 0⟩] from by kernel_rfl];simp[E6,BH]
theorem Rp:G7 Ul none:=by
 refine .inr ⟨[⟨[(0,1)],some 1,none⟩,⟨[(0,1)],none,some 0⟩],?_,?_,⟨[(0,1)],some 1,some 0⟩,?_,?_⟩
 · rw[show BI Ul=[⟨[(0,1)],some 1,none⟩,⟨[(0,1)],none,some 0⟩] from by kernel_rfl]
 · unfold Cp;simp[cmpL,AK]
 · rw[show BN [⟨[(0,1)],some 1,none⟩,⟨[(0,1)],none,some 0⟩]=[⟨[(0,1)],some 1,some 0⟩] from by kernel_rfl];simp
 · simp[BH]
theorem FD {T:TypeId} {w:World} {g:Nat} {xs:List Int} {cs:Array Value} (h:Aw T w g cs) (hc:cs.toList=ints xs):EX w (some ⟨g,0,none⟩) xs.length xs:=⟨rfl,fun _=>⟨g,0,rfl,fun j u hu=>by rw[Nat.zero_add];exact h.cell j u (by rw[<-hc]at hu;simpa using hu)⟩⟩
theorem M2 (w0:World):Calls Tryz.prog 6 #[] w0 (Ef w0):=by
 go_enter Tryz.func6,Tryz.ntmps6;have HB:=Ad (Below.refl w0.heap.size w0);have y1:=Ae w0 (.cells #[.int .i64 1] 2);have ho1:=Bq 0 (some ⟨w0.heap.size,0,none⟩) 1 1 [1] _ (FD (Aw.new 2 w0 #[.int .i64 1]) rfl) (by decide) (by decide) (by decide) (by decide);go_wp2_with fail;refine ho1.mono ?_;rintro e wa1 ⟨va1,rfl,ra1,ba1⟩;have hl1:=Bj va1 (BU [1]) 0 2 wa1 ra1.in_ (by decide) (by decide);have hb1:Below w0.heap.size w0 wa1:=y1.trans (ba1.mono y1.size);clear ho1 y1 ba1 ra1
 go_wp2_with fail;refine hl1.mono ?_;rintro e wb1 ⟨vb1,rfl,⟨A1,n1,c1,s1,B1,m1,d1,rfl,rb1⟩,bb1⟩;have HY1:=Ad (hb1.next bb1);have HBn:=Ad (HB.out.next HY1.out);clear HB hl1 hb1 bb1;have HB:=HBn;clear HBn;have HR1:=Ad rb1;clear rb1 HY1;have y2:=Ae wb1 (.cells #[.int .i64 (-1)] 2);have ho2:=Bq 0 (some ⟨wb1.heap.size,0,none⟩) 1 1 [(-1)] _ (FD (Aw.new 2 wb1 #[.int .i64 (-1)]) rfl) (by decide) (by decide) (by decide) (by decide);go_wp2_with fail;refine ho2.mono ?_
 rintro e wa2 ⟨va2,rfl,ra2,ba2⟩;have hl2:=Bj va2 (BU [(-1)]) 0 2 wa2 ra2.in_ (by decide) (by decide);have hb2:Below wb1.heap.size wb1 wa2:=y2.trans (ba2.mono y2.size);clear ho2 y2 ba2 ra2;go_wp2_with fail;refine hl2.mono ?_;rintro e wb2 ⟨vb2,rfl,⟨A2,n2,c2,s2,B2,m2,d2,rfl,rb2⟩,bb2⟩;have HY2:=Ad (hb2.next bb2);have HBn:=Ad (HB.out.next HY2.out);clear HB hl2 hb2 bb2;have HB:=HBn;clear HBn;have HRx:=Ad (HR1.out.below HY2.out);clear HR1;have HR1:=HRx;clear HRx;have HR2:=Ad rb2
 clear rb2 HY2;have y3:=Below.refl wb2.heap.size wb2;have ho3:=Bq 5 none 0 0 [] wb2 (EX.none wb2) (by decide) (by decide) (by decide) (by decide);go_wp2_with fail;refine ho3.mono ?_;rintro e wa3 ⟨va3,rfl,ra3,ba3⟩;have hl3:=Bj va3 (BU []) 5 2 wa3 ra3.in_ (by decide) (by decide);have hb3:Below wb2.heap.size wb2 wa3:=y3.trans (ba3.mono y3.size);clear ho3 y3 ba3 ra3;go_wp2_with fail;refine hl3.mono ?_;rintro e wb3 ⟨vb3,rfl,⟨A3,n3,c3,s3,B3,m3,d3,rfl,rb3⟩,bb3⟩
 have HY3:=Ad (hb3.next bb3);have HBn:=Ad (HB.out.next HY3.out);clear HB hl3 hb3 bb3;have HB:=HBn;clear HBn;have HRx:=Ad (HR1.out.below HY3.out);clear HR1;have HR1:=HRx;clear HRx;have HRx:=Ad (HR2.out.below HY3.out);clear HR2;have HR2:=HRx;clear HRx;have HR3:=Ad rb3;clear rb3 HY3;have hxP:=Aw.new 35 wb3 #[.slice A1 n1 c1,.bool s1,.slice B1 m1 d1,.bool false,.slice A2 n2 c2,.bool s2,.slice B2 m2 d2,.bool false,.slice A3 n3 c3,.bool s3,.slice B3 m3 d3,.bool false]
 have hyP:=Ae wb3 (.cells #[.slice A1 n1 c1,.bool s1,.slice B1 m1 d1,.bool false,.slice A2 n2 c2,.bool s2,.slice B2 m2 d2,.bool false,.slice A3 n3 c3,.bool s3,.slice B3 m3 d3,.bool false] 35)
 have htP:=E9 (some ⟨wb3.heap.size,0,none⟩) 3 3 4 1 [⟨A1,n1,c1,s1,B1,m1,d1,false,norm (BU [1]),0⟩,⟨A2,n2,c2,s2,B2,m2,d2,false,norm (BU [(-1)]),0⟩,⟨A3,n3,c3,s3,B3,m3,d3,false,norm (BU []),5⟩] _ ⟨CB.box (rs:=[⟨A1,n1,c1,s1,B1,m1,d1,false,norm (BU [1]),0⟩,⟨A2,n2,c2,s2,B2,m2,d2,false,norm (BU [(-1)]),0⟩,⟨A3,n3,c3,s3,B3,m3,d3,false,norm (BU []),5⟩]) hxP,by
   intro r hr;simp only[List.mem_cons,List.not_mem_nil,or_false]at hr;rcases hr with rfl|rfl|rfl
   · exact ((HR1.out.below hyP).in_).mono (by decide)
   · exact ((HR2.out.below hyP).in_).mono (by decide)
   · exact ((HR3.out.below hyP).in_).mono (by decide)⟩ (by decide) (by decide) (by decide) (by decide) (by
   intro r hr;simp only[List.mem_cons,List.not_mem_nil,or_false]at hr;rcases hr with rfl|rfl|rfl
   · exact (by decide +kernel:(norm (BU [1])).length<=1)
   · exact (by decide +kernel:(norm (BU [(-1)])).length<=1)
   · exact (by decide +kernel:(norm (BU [])).length<=1)) (by decide)
 have HYP:=Ad hyP;clear hxP hyP;go_wp2_with fail;refine htP.mono ?_;rintro e wt ⟨o,hto,bt,hm⟩;have eo:o=some [([(0,1)],0,true)]:=FC (rs':=Uk) (fun r=>by rw[show ([⟨A1,n1,c1,s1,B1,m1,d1,false,norm (BU [1]),0⟩,⟨A2,n2,c2,s2,B2,m2,d2,false,norm (BU [(-1)]),0⟩,⟨A3,n3,c3,s3,B3,m3,d3,false,norm (BU []),5⟩]:List RV).map RV.rd=Uk from by kernel_rfl]) hto Ro;subst eo;obtain ⟨At,ct,ps,rfl,hps,hpd,-,-,-⟩:=hm;have HBt:=Ad (HB.out.next ((HYP.out).trans (bt.mono HYP.out.size)))
 have HPS:=Ad hps;have HPD:=Ad hpd;clear HB htP hto bt hps hpd HR1 HR2 HR3 HYP;have HB:=HBt;clear HBt;have y4:=Ae wt (.cells #[.int .i64 1] 2);have ho4:=Bq (-1) (some ⟨wt.heap.size,0,none⟩) 1 1 [1] _ (FD (Aw.new 2 wt #[.int .i64 1]) rfl) (by decide) (by decide) (by decide) (by decide);go_wp2_with fail;refine ho4.mono ?_;rintro e wa4 ⟨va4,rfl,ra4,ba4⟩;have hl4:=Bj va4 (BU [1]) (-1) 2 wa4 ra4.in_ (by decide) (by decide)
 have hb4:Below wt.heap.size wt wa4:=y4.trans (ba4.mono y4.size);clear ho4 y4 ba4 ra4;go_wp2_with fail;refine hl4.mono ?_;rintro e wb4 ⟨vb4,rfl,⟨A4,n4,c4,s4,B4,m4,d4,rfl,rb4⟩,bb4⟩;have HY4:=Ad (hb4.next bb4);have HBn:=Ad (HB.out.next HY4.out);clear HB hl4 hb4 bb4;have HB:=HBn;clear HBn;have HR4:=Ad rb4;have HPx:=Ad (HPS.out.below HY4.out);clear HPS;have HPS:=HPx;clear HPx rb4 HY4;have y5:=Ae wb4 (.cells #[.int .i64 (-1)] 2)
 have ho5:=Bq 0 (some ⟨wb4.heap.size,0,none⟩) 1 1 [(-1)] _ (FD (Aw.new 2 wb4 #[.int .i64 (-1)]) rfl) (by decide) (by decide) (by decide) (by decide);go_wp2_with fail;refine ho5.mono ?_;rintro e wa5 ⟨va5,rfl,ra5,ba5⟩;have hl5:=Bj va5 (BU [(-1)]) 0 2 wa5 ra5.in_ (by decide) (by decide);have hb5:Below wb4.heap.size wb4 wa5:=y5.trans (ba5.mono y5.size);clear ho5 y5 ba5 ra5;go_wp2_with fail;refine hl5.mono ?_;rintro e wb5 ⟨vb5,rfl,⟨A5,n5,c5,s5,B5,m5,d5,rfl,rb5⟩,bb5⟩
 have HY5:=Ad (hb5.next bb5);have HBn:=Ad (HB.out.next HY5.out);clear HB hl5 hb5 bb5;have HB:=HBn;clear HBn;have HRx:=Ad (HR4.out.below HY5.out);clear HR4;have HR4:=HRx;clear HRx;have HR5:=Ad rb5;have HPx:=Ad (HPS.out.below HY5.out);clear HPS;have HPS:=HPx;clear HPx rb5 HY5;have hxQ:=Aw.new 35 wb5 #[.slice A4 n4 c4,.bool s4,.slice B4 m4 d4,.bool false,.slice A5 n5 c5,.bool s5,.slice B5 m5 d5,.bool false]
 have hyQ:=Ae wb5 (.cells #[.slice A4 n4 c4,.bool s4,.slice B4 m4 d4,.bool false,.slice A5 n5 c5,.bool s5,.slice B5 m5 d5,.bool false] 35);have htQ:=E9 (some ⟨wb5.heap.size,0,none⟩) 2 2 4 1 [⟨A4,n4,c4,s4,B4,m4,d4,false,norm (BU [1]),(-1)⟩,⟨A5,n5,c5,s5,B5,m5,d5,false,norm (BU [(-1)]),0⟩] _ ⟨CB.box (rs:=[⟨A4,n4,c4,s4,B4,m4,d4,false,norm (BU [1]),(-1)⟩,⟨A5,n5,c5,s5,B5,m5,d5,false,norm (BU [(-1)]),0⟩]) hxQ,by
   intro r hr;simp only[List.mem_cons,List.not_mem_nil,or_false]at hr;rcases hr with rfl|rfl
   · exact ((HR4.out.below hyQ).in_).mono (by decide)
   · exact ((HR5.out.below hyQ).in_).mono (by decide)⟩ (by decide) (by decide) (by decide) (by decide) (by
   intro r hr;simp only[List.mem_cons,List.not_mem_nil,or_false]at hr;rcases hr with rfl|rfl
   · exact (by decide +kernel:(norm (BU [1])).length<=1)
   · exact (by decide +kernel:(norm (BU [(-1)])).length<=1)) (by decide)
 have HYQ:=Ad hyQ;clear hxQ hyQ;go_wp2_with fail;refine htQ.mono ?_;rintro e wu ⟨o,hto,bt,hm⟩;have eo:o=none:=FC (rs':=Ul) (fun r=>by rw[show ([⟨A4,n4,c4,s4,B4,m4,d4,false,norm (BU [1]),(-1)⟩,⟨A5,n5,c5,s5,B5,m5,d5,false,norm (BU [(-1)]),0⟩]:List RV).map RV.rd=Ul from by kernel_rfl]) hto Rp;subst eo;dsimp only at hm
 subst hm;have HYU:=Ad ((HYQ.out).trans (bt.mono HYQ.out.size));have HBt:=Ad (HB.out.next HYU.out);have HPx:=Ad (HPS.out.below HYU.out);clear HPS HB htQ hto bt HR4 HR5 HYQ HYU;have HPS:=HPx;have HB:=HBt;clear HPx HBt;obtain ⟨gr,or,hAt,hcl⟩:=HPS.out.1.2 (by decide);obtain ⟨p,rfl⟩:∃p,ps=[p]:=by
   have:=HPS.out.1.1;cases ps with
   |nil=>simp at this
   |cons p l=>
     cases l with
     |nil=>exact ⟨p,rfl⟩
     |cons q l=>simp at this
 obtain ⟨Ar,nr,cr,sr,Br,mr,dr,fr,Lr,Kr⟩:=p;have hrd:Lr=[(0,1)]/\Kr=0/\fr=true:=by have:=HPD.out;simp[RV.rd]at this;exact this
 obtain ⟨rfl,rfl,rfl⟩:=hrd;subst hAt;have HR:=Ad (show BO wu (.agg #[.slice Ar nr cr,.bool sr,.slice Br mr dr,.bool true]) (BU [1]) 0 true 100 from ⟨Ar,nr,cr,sr,Br,mr,dr,rfl,show An wu (.agg #[.slice Ar nr cr,.bool sr,.slice Br mr dr]) [(0,1)] 0 100 from (HPS.out.2 ⟨Ar,nr,cr,sr,Br,mr,dr,true,[(0,1)],0⟩ (by simp)).mono (by decide)⟩);have hlt:gr<wu.heap.size:=World.block_lt_of_cell? wu _ (hcl 0 _ rfl);have k0:=hcl 0 _ rfl;have k1:=hcl 1 _ rfl;have k2:=hcl 2 _ rfl
 have k3:=hcl 3 _ rfl;rw[Nat.add_zero]at k0;have HC:=Ad (show gr<wu.heap.size/\wu.cell? ⟨gr,or,none⟩=some (.slice Ar nr cr)/\wu.cell? ⟨gr,or+1,none⟩=some (.bool sr)/\wu.cell? ⟨gr,or+2,none⟩=some (.slice Br mr dr)/\wu.cell? ⟨gr,or+3,none⟩=some (.bool true) from ⟨hlt,k0,k1,k2,k3⟩);clear hcl hlt k0 k1 k2 k3 HPS HPD;go_upto_region 3 with fail;generalize ct=cc at *;generalize wu=W0 at *
 have SOF:=Ad (show ∀W,Below W0.heap.size W0 W->(W.cell? ⟨gr,or,none⟩=some (.slice Ar nr cr)/\W.cell? ⟨gr,or+1,none⟩=some (.bool sr)/\W.cell? ⟨gr,or+2,none⟩=some (.slice Br mr dr)/\W.cell? ⟨gr,or+3,none⟩=some (.bool true)) from fun W h=>⟨(Below.cell h (p:=⟨gr,or,none⟩) HC.out.1).trans HC.out.2.1,(Below.cell h (p:=⟨gr,or+1,none⟩) HC.out.1).trans HC.out.2.2.1,(Below.cell h (p:=⟨gr,or+2,none⟩) HC.out.1).trans HC.out.2.2.2.1,(Below.cell h (p:=⟨gr,or+3,none⟩) HC.out.1).trans HC.out.2.2.2.2⟩)
 refine BC (by kernel_rfl) (by kernel_rfl) (by kernel_rfl) (fun w w'=>Below w.heap.size w w') (fun j v w=>match j with|0=>v=.bool true|1=>v=.bool true|2=>v=.slice (some ⟨gr,or,none⟩) 1 cc|3=>v=.int .i64 1|4=>v=.bool true|5=>v=.bool true|6=>v=.bool true|7=>v=.slice (some ⟨gr,or,none⟩) 1 cc|8=>v=.pointer (some ⟨gr,or,none⟩)|9=>v=.agg #[.slice Ar nr cr,.bool sr,.slice Br mr dr,.bool true]|10=>∃g,v=.slice (some ⟨g,0,none⟩) 1 1/\Aw 2 w g (ints [1]).toArray|11=>An w v (BU [1]) 0 2|12=>BO w v (BU [1]) 0 true 2|13=>v=.bool true|14=>v=.bool true|15=>v=.bool true|16=>v=.bool false|17=>v=.bool true|18=>v=.bool true|19=>v=.bool true|_=>True) (fun _ _ w=>Below W0.heap.size W0 w) ?_ (fun _=>Ak W0 1) ?_ ?_
 · intro j v w w' hT h;match j,h with
   |0,h=>exact h
   |1,h=>exact h
   |2,h=>exact h
   |3,h=>exact h
   |4,h=>exact h
   |5,h=>exact h
   |6,h=>exact h
   |7,h=>exact h
   |8,h=>exact h
   |9,h=>exact h
   |10,h=>exact (by obtain ⟨g,e,h1⟩:=h;exact ⟨g,e,h1.next hT⟩)
   |11,h=>exact h.below hT
   |12,h=>exact h.below hT
   |13,h=>exact h
   |14,h=>exact h
   |15,h=>exact h
   |16,h=>exact h
   |17,h=>exact h
   |18,h=>exact h
   |19,h=>exact h
   |j+20,h=>trivial
 · refine ⟨?_,?_,?_,?_,?_,?_,?_,?_,?_,?_,?_,?_,?_,?_,?_,?_,?_,?_,?_,?_,trivial⟩
   · intro listed σ w a hin hout hl hc hp hG hF;refine Ac.none rfl ?_;have e2:a.tmps.getD 2 undef=.bool true:=hout 2 (Af (by kernel_rfl));refine Does.val (.bool true) (w':=w) ?_ ⟨Below.refl _ _,rfl,hG⟩;simp only[Array.getD_eq_getD_getElem?]at e2;go_simp
   · intro listed σ w a hin hout hl hc hp hG hF;refine Ac.none rfl ?_;have e29:a.tmps.getD 29 undef=.bool true:=(hin 0 29 rfl (hp ⟨0,.data⟩ (by simp) rfl)).trans (hF 0 (hp ⟨0,.data⟩ (by simp) rfl));refine Does.val (.bool true) (w':=w) ?_ ⟨Below.refl _ _,rfl,hG⟩;simp only[Array.getD_eq_getD_getElem?]at e29;go_simp
   · intro listed σ w a hin hout hl hc hp hG hF;refine Ac.some (d:=30) (b:=true) rfl rfl ((hin 1 30 rfl (hp ⟨1,.guard⟩ (by simp) rfl)).trans (hF 1 (hp ⟨1,.guard⟩ (by simp) rfl))) ?_;refine Or.inl ⟨rfl,?_⟩;have e1:a.tmps.getD 1 undef=.slice (some ⟨gr,or,none⟩) 1 cc:=hout 1 (Af (by kernel_rfl));refine Does.val (.slice (some ⟨gr,or,none⟩) 1 cc) (w':=w) ?_ ⟨Below.refl _ _,rfl,hG⟩;simp only[Array.getD_eq_getD_getElem?]at e1;go_simp
   · intro listed σ w a hin hout hl hc hp hG hF;refine Ac.some (d:=30) (b:=true) rfl rfl ((hin 1 30 rfl (hp ⟨1,.guard⟩ (by simp) rfl)).trans (hF 1 (hp ⟨1,.guard⟩ (by simp) rfl))) ?_;refine Or.inl ⟨rfl,?_⟩;have e31:a.tmps.getD 31 undef=.slice (some ⟨gr,or,none⟩) 1 cc:=(hin 2 31 rfl (hp ⟨2,.data⟩ (by simp) rfl)).trans (hF 2 (hp ⟨2,.data⟩ (by simp) rfl));refine Does.val (.int .i64 1) (w':=w) ?_ ⟨Below.refl _ _,rfl,hG⟩;simp only[Array.getD_eq_getD_getElem?]at e31;go_simp
   · intro listed σ w a hin hout hl hc hp hG hF;refine Ac.some (d:=30) (b:=true) rfl rfl ((hin 1 30 rfl (hp ⟨1,.guard⟩ (by simp) rfl)).trans (hF 1 (hp ⟨1,.guard⟩ (by simp) rfl))) ?_;refine Or.inl ⟨rfl,?_⟩;have e32:a.tmps.getD 32 undef=.int .i64 1:=(hin 3 32 rfl (hp ⟨3,.data⟩ (by simp) rfl)).trans (hF 3 (hp ⟨3,.data⟩ (by simp) rfl));refine Does.val (.bool true) (w':=w) ?_ ⟨Below.refl _ _,rfl,hG⟩;simp only[Array.getD_eq_getD_getElem?]at e32;go_simp
   · intro listed σ w a hin hout hl hc hp hG hF;refine Ac.none rfl ?_;have e30:a.tmps.getD 30 undef=.bool true:=(hin 1 30 rfl (hp ⟨1,.data⟩ (by simp) rfl)).trans (hF 1 (hp ⟨1,.data⟩ (by simp) rfl));have e33:a.tmps.getD 33 undef=.bool true:=(hin 4 33 rfl (hp ⟨4,.data⟩ (by simp) rfl)).trans (hF 4 (hp ⟨4,.data⟩ (by simp) rfl));refine Does.val (.bool true) (w':=w) ?_ ⟨Below.refl _ _,rfl,hG⟩;simp only[Array.getD_eq_getD_getElem?]at e30 e33;go_simp
   · intro listed σ w a hin hout hl hc hp hG hF;refine Ac.none rfl ?_;have e34:a.tmps.getD 34 undef=.bool true:=(hin 5 34 rfl (hp ⟨5,.data⟩ (by simp) rfl)).trans (hF 5 (hp ⟨5,.data⟩ (by simp) rfl));refine Does.val (.bool true) (w':=w) ?_ ⟨Below.refl _ _,rfl,hG⟩;simp only[Array.getD_eq_getD_getElem?]at e34;go_simp
   · intro listed σ w a hin hout hl hc hp hG hF;refine Ac.some (d:=35) (b:=true) rfl rfl ((hin 6 35 rfl (hp ⟨6,.guard⟩ (by simp) rfl)).trans (hF 6 (hp ⟨6,.guard⟩ (by simp) rfl))) ?_;refine Or.inl ⟨rfl,?_⟩;have e1:a.tmps.getD 1 undef=.slice (some ⟨gr,or,none⟩) 1 cc:=hout 1 (Af (by kernel_rfl));refine Does.val (.slice (some ⟨gr,or,none⟩) 1 cc) (w':=w) ?_ ⟨Below.refl _ _,rfl,hG⟩;simp only[Array.getD_eq_getD_getElem?]at e1;go_simp
   · intro listed σ w a hin hout hl hc hp hG hF;refine Ac.some (d:=35) (b:=true) rfl rfl ((hin 6 35 rfl (hp ⟨6,.guard⟩ (by simp) rfl)).trans (hF 6 (hp ⟨6,.guard⟩ (by simp) rfl))) ?_;refine Or.inl ⟨rfl,?_⟩;have e36:a.tmps.getD 36 undef=.slice (some ⟨gr,or,none⟩) 1 cc:=(hin 7 36 rfl (hp ⟨7,.data⟩ (by simp) rfl)).trans (hF 7 (hp ⟨7,.data⟩ (by simp) rfl));refine Does.val (.pointer (some ⟨gr,or,none⟩)) (w':=w) ?_ ⟨Below.refl _ _,rfl,hG⟩
     simp only[Array.getD_eq_getD_getElem?]at e36;go_simp;(try (intro hh;exfalso;omega))
   · intro listed σ w a hin hout hl hc hp hG hF;refine Ac.some (d:=35) (b:=true) rfl rfl ((hin 6 35 rfl (hp ⟨6,.guard⟩ (by simp) rfl)).trans (hF 6 (hp ⟨6,.guard⟩ (by simp) rfl))) ?_;refine Or.inl ⟨rfl,?_⟩;have e37:a.tmps.getD 37 undef=.pointer (some ⟨gr,or,none⟩):=(hin 8 37 rfl (hp ⟨8,.data⟩ (by simp) rfl)).trans (hF 8 (hp ⟨8,.data⟩ (by simp) rfl));have CC:=SOF.out w hG;obtain ⟨C0,C1,C2,C3⟩:=CC
     refine Does.val (.agg #[.slice Ar nr cr,.bool sr,.slice Br mr dr,.bool true]) (w':=w) ?_ ⟨Below.refl _ _,rfl,hG⟩;go_simp
   · intro listed σ w a hin hout hl hc hp hG hF;refine Ac.some (d:=35) (b:=true) rfl rfl ((hin 6 35 rfl (hp ⟨6,.guard⟩ (by simp) rfl)).trans (hF 6 (hp ⟨6,.guard⟩ (by simp) rfl))) ?_;refine Or.inl ⟨rfl,?_⟩;refine Does.val (.slice (some ⟨w.heap.size,0,none⟩) 1 1) (w':=w.alloc (.cells #[.int .i64 1] 2)) ?_ ⟨Ae w _,⟨w.heap.size,rfl,Aw.new _ _ _⟩,hG.next (Ae w _)⟩;go_simp
   · intro listed σ w a hin hout hl hc hp hG hF;refine Ac.some (d:=35) (b:=true) rfl rfl ((hin 6 35 rfl (hp ⟨6,.guard⟩ (by simp) rfl)).trans (hF 6 (hp ⟨6,.guard⟩ (by simp) rfl))) ?_;refine Or.inl ⟨rfl,?_⟩;have e39:=hin 10 39 rfl (hp ⟨10,.data⟩ (by simp) rfl);obtain ⟨g10,ev10,x10⟩:=hF 10 (hp ⟨10,.data⟩ (by simp) rfl);rw[ev10]at e39;refine Does.call ?_ (Bq 0 (some ⟨g10,0,none⟩) 1 1 [1] w x10.ints (by decide) (by decide) (by decide) (by decide)) ?_
     · go_simp
     · rintro e w' ⟨v,rfl,z,hb⟩;exact ⟨_,rfl,hb,z,hG.next hb⟩
   · intro listed σ w a hin hout hl hc hp hG hF;refine Ac.some (d:=35) (b:=true) rfl rfl ((hin 6 35 rfl (hp ⟨6,.guard⟩ (by simp) rfl)).trans (hF 6 (hp ⟨6,.guard⟩ (by simp) rfl))) ?_;refine Or.inl ⟨rfl,?_⟩;have e40:=hin 11 40 rfl (hp ⟨11,.data⟩ (by simp) rfl);have z11:=hF 11 (hp ⟨11,.data⟩ (by simp) rfl);obtain ⟨A7,n7,c7,s7,B7,m7,d7,ev7⟩:=An.form z11;rw[ev7]at e40 z11
     refine Does.val (.agg #[.slice A7 n7 c7,.bool s7,.slice B7 m7 d7,.bool true]) (w':=w) ?_ ⟨Below.refl _ _,⟨A7,n7,c7,s7,B7,m7,d7,rfl,z11⟩,hG⟩;simp only[Array.getD_eq_getD_getElem?]at e40;go_simp
   · intro listed σ w a hin hout hl hc hp hG hF;refine Ac.some (d:=35) (b:=true) rfl rfl ((hin 6 35 rfl (hp ⟨6,.guard⟩ (by simp) rfl)).trans (hF 6 (hp ⟨6,.guard⟩ (by simp) rfl))) ?_;refine Or.inl ⟨rfl,?_⟩;have e38:a.tmps.getD 38 undef=.agg #[.slice Ar nr cr,.bool sr,.slice Br mr dr,.bool true]:=(hin 9 38 rfl (hp ⟨9,.data⟩ (by simp) rfl)).trans (hF 9 (hp ⟨9,.data⟩ (by simp) rfl));have e41:=hin 12 41 rfl (hp ⟨12,.data⟩ (by simp) rfl)
     have z12:=hF 12 (hp ⟨12,.data⟩ (by simp) rfl);refine Does.call ?_ (Di _ _ (BU [1]) 0 true 100 2 w (HR.out.below hG) z12 (by decide)) ?_
     · go_simp
     · rintro e w' ⟨rfl,hb⟩;exact ⟨_,rfl,hb,rfl,hG.next hb⟩
   · intro listed σ w a hin hout hl hc hp hG hF;refine Ac.none rfl ?_;have e35:a.tmps.getD 35 undef=.bool true:=(hin 6 35 rfl (hp ⟨6,.data⟩ (by simp) rfl)).trans (hF 6 (hp ⟨6,.data⟩ (by simp) rfl));have e42:a.tmps.getD 42 undef=.bool true:=(hin 13 42 rfl (hp ⟨13,.data⟩ (by simp) rfl)).trans (hF 13 (hp ⟨13,.data⟩ (by simp) rfl));refine Does.val (.bool true) (w':=w) ?_ ⟨Below.refl _ _,rfl,hG⟩;simp only[Array.getD_eq_getD_getElem?]at e35 e42;go_simp
   · intro listed σ w a hin hout hl hc hp hG hF;refine Ac.none rfl ?_;have e43:a.tmps.getD 43 undef=.bool true:=(hin 14 43 rfl (hp ⟨14,.data⟩ (by simp) rfl)).trans (hF 14 (hp ⟨14,.data⟩ (by simp) rfl));refine Does.val (.bool true) (w':=w) ?_ ⟨Below.refl _ _,rfl,hG⟩;simp only[Array.getD_eq_getD_getElem?]at e43;go_simp
   · intro listed σ w a hin hout hl hc hp hG hF;refine Ac.some (d:=44) (b:=true) rfl rfl ((hin 15 44 rfl (hp ⟨15,.guard⟩ (by simp) rfl)).trans (hF 15 (hp ⟨15,.guard⟩ (by simp) rfl))) ?_;refine Or.inl ⟨rfl,?_⟩;have e4:a.tmps.getD 4 undef=.bool false:=hout 4 (Af (by kernel_rfl));refine Does.val (.bool false) (w':=w) ?_ ⟨Below.refl _ _,rfl,hG⟩;simp only[Array.getD_eq_getD_getElem?]at e4;go_simp
   · intro listed σ w a hin hout hl hc hp hG hF;refine Ac.some (d:=44) (b:=true) rfl rfl ((hin 15 44 rfl (hp ⟨15,.guard⟩ (by simp) rfl)).trans (hF 15 (hp ⟨15,.guard⟩ (by simp) rfl))) ?_;refine Or.inl ⟨rfl,?_⟩;have e45:a.tmps.getD 45 undef=.bool false:=(hin 16 45 rfl (hp ⟨16,.data⟩ (by simp) rfl)).trans (hF 16 (hp ⟨16,.data⟩ (by simp) rfl));refine Does.val (.bool true) (w':=w) ?_ ⟨Below.refl _ _,rfl,hG⟩;simp only[Array.getD_eq_getD_getElem?]at e45;go_simp
   · intro listed σ w a hin hout hl hc hp hG hF;refine Ac.none rfl ?_;have e44:a.tmps.getD 44 undef=.bool true:=(hin 15 44 rfl (hp ⟨15,.data⟩ (by simp) rfl)).trans (hF 15 (hp ⟨15,.data⟩ (by simp) rfl));have e46:a.tmps.getD 46 undef=.bool true:=(hin 17 46 rfl (hp ⟨17,.data⟩ (by simp) rfl)).trans (hF 17 (hp ⟨17,.data⟩ (by simp) rfl));refine Does.val (.bool true) (w':=w) ?_ ⟨Below.refl _ _,rfl,hG⟩;simp only[Array.getD_eq_getD_getElem?]at e44 e46;go_simp
   · intro listed σ w a hin hout hl hc hp hG hF;refine Ac.none rfl ?_;have e47:a.tmps.getD 47 undef=.bool true:=(hin 18 47 rfl (hp ⟨18,.data⟩ (by simp) rfl)).trans (hF 18 (hp ⟨18,.data⟩ (by simp) rfl));refine Does.val (.bool true) (w':=w) ?_ ⟨Below.refl _ _,rfl,hG⟩;simp only[Array.getD_eq_getD_getElem?]at e47;go_simp
 · intro listed σ W9 hall hG hF
   rw[show mid _ σ listed _=(Act.put (Act.put (Act.put (Act.put (Act.put (Act.put (Act.put (Act.put (Act.put (Act.put (Act.put (Act.put (Act.put (Act.put (Act.put (Act.put (Act.put (Act.put (Act.put (Act.put _ (some 29) (σ 0)) (some 30) (σ 1)) (some 31) (σ 2)) (some 32) (σ 3)) (some 33) (σ 4)) (some 34) (σ 5)) (some 35) (σ 6)) (some 36) (σ 7)) (some 37) (σ 8)) (some 38) (σ 9)) (some 39) (σ 10)) (some 40) (σ 11)) (some 41) (σ 12)) (some 42) (σ 13)) (some 43) (σ 14)) (some 44) (σ 15)) (some 45) (σ 16)) (some 46) (σ 17)) (some 47) (σ 18)) (some 0) (σ 19)) from (BP hall).trans rfl]
   generalize σ 0=tt0;generalize σ 1=tt1;generalize σ 2=tt2;generalize σ 3=tt3;generalize σ 4=tt4;generalize σ 5=tt5;generalize σ 6=tt6;generalize σ 7=tt7;generalize σ 8=tt8;generalize σ 9=tt9;generalize σ 10=tt10;generalize σ 11=tt11;generalize σ 12=tt12;generalize σ 13=tt13;generalize σ 14=tt14;generalize σ 15=tt15;generalize σ 16=tt16;generalize σ 17=tt17;generalize σ 18=tt18;rw[show σ 19=.bool true from hF 19 (by decide)]
   simp only[Act.put,List.setIfInBounds_toArray,List.set_cons_zero,List.set_cons_succ];have TG:=hG;clear hF hG hall;clear σ;have HE:=Ad (HB.out.next TG);clear TG SOF;go_wp2_with fail;go_ret
   exact ⟨rfl,HE.out⟩
end
section
open Tm
def Tv (r:R3):Prop:=norm r.1=r.1/\r.1≠[]/\Ai r.1=1/\(r.2.2=true->¬lead r.1<0)
theorem M3 (L:List (Int×Int)):Cm 1 L=L:=by
 unfold Cm;conv=>rhs;rw[<-List.map_id L]
 apply List.map_congr_left;intro p _;show (p.1,p.2.fdiv 1)=p;rw[Int.fdiv_one]
theorem EA {r:R3} (h:Tv r):tk r=0/\tt r=r:=by
 obtain ⟨L,K,e⟩:=r;obtain ⟨h1,h2,h3,h4⟩:=h;dsimp only at h1 h2 h3 h4
 unfold tk tt;dsimp only
 have hn:norm L≠[]:=by rw[h1];exact h2
 have hk:AM L K e=0:=by
  cases e
  · exact FJ hn
  · exact Gw hn (by rw[h3];exact Int.fmod_one K)
 have hf:Da L e=false:=by
  unfold Da;rw[h3,h1,M3];cases e
  · rfl
  · simpa using h4 rfl
 obtain ⟨e1,e2,e3⟩:=Fq hk hf;refine ⟨hk,?_⟩;rw[e1,e2,e3,h3,h1,M3,Int.fdiv_one]
theorem Rq (L:List (Int×Int)):∀g,CP g (L.map fun p=>(p.1,-1*p.2))=CP g L:=by
 induction L with
 |nil=>intro g;rfl
 |cons p L ih=>
  intro g;rw[List.map_cons];unfold CP;rw[ih];congr 2
  omega
theorem F4 {L:List (Int×Int)} (h:norm L=L):Ai (L.map fun p=>(p.1,-1*p.2))=Ai L:=by unfold Ai;rw[Dg (by decide),h,Rq]
theorem Rr {r:R3} (h:tk r=0):Tv (tt r):=by
 have ht:=F0 h;refine ⟨ht.1,ht.2.1,?_,fun he hl=>by rw[ht.2.2 hl]at he;cases he⟩;obtain ⟨L,K,e⟩:=r;unfold tk at h;unfold tt;dsimp only at h ⊢
 have hn:norm L≠[]:=by intro hn;rw[Fp hn]at h;split at h<;>simp at h
 have hc:=KF L (fun hh=>hn (CZ.1 hh));by_cases hf:Da L e=true
 · rw[(KL h hf).1,F4 (Ft L),hc]
 · rw[(Fq h (by simpa using hf)).1,hc]
theorem M4 {r:R3} (h:tk r=0):tk (tt r)=0/\tt (tt r)=tt r:=EA (Rr h)
def Tw (b:Bd):Prop:=Ai b.S=1
theorem Rs {r:R3} (h:Tv r):Tw (BL r):=by
 unfold Tw BL;split
 · show Ai (Bl r.1)=1;rw[Cq h.1,F4 h.1];exact h.2.2.1
 · exact h.2.2.1
theorem PG (rs:List R3):∀b∈BI rs,Tw b:=by intro b hb;obtain ⟨r,hr,rfl⟩:=List.mem_map.1 hb;obtain ⟨-,h2⟩:=List.mem_filter.1 hr;exact Rs (Rr (by simpa using h2))
theorem NJ {L:List (Int×Int)} (h:norm L=L):Bl (Bl L)=L:=by
 rw[Cq (CO L),Cq h,List.map_map];conv=>rhs;rw[<-List.map_id L]
 apply List.map_congr_left;intro p _;show (p.1,-1*(-1*p.2))=p;rw[show -1*(-1*p.2)=p.2 by omega]
theorem Dj {c:Bd} {ds:List R3} (hc:M7 c) (ht:Tw c) (h:BH c=some ds):ds≠[]/\(∀r∈ds,Tv r/\(BL r).S=c.S)/\(∀z,Lf c z↔∀r∈ds,Lf (BL r) z)/\(∀z,Lg c z↔∀r∈ds,Lg (BL r) z):=by
 obtain ⟨S,lo,hi⟩:=c;obtain ⟨h1,h2,h3⟩:=hc;unfold Tw at ht;dsimp only at h1 h2 h3 ht
 have hne:S≠[]:=by intro e;subst e;simp[lead]at h2
 have hl:lead (Bl S)<0:=by rw[Cq h1,Eb];omega
 have hne2:Bl S≠[]:=by intro e;rw[e]at hl;simp[lead]at hl
 have f1:∀K e,Tv (S,K,e):=fun K e=>⟨h1,hne,ht,fun _=>by show ¬lead S<0;omega⟩
 have f2:∀K,Tv (Bl S,K,false):=fun K=>⟨CO S,hne2,by show Ai (Bl S)=1;rw[Cq h1,F4 h1,ht],fun he=>by cases he⟩
 have b1:∀K e,BL (S,K,e)=⟨S,some (-K),if e=true then some (-K) else none⟩:=fun K e=>by
   unfold BL;rw[if_neg (by show ¬lead S<0;omega)]
 have b2:∀K,BL (Bl S,K,false)=⟨S,none,some K⟩:=fun K=>by
   unfold BL;rw[if_pos (by exact hl)];show Bd.mk (Bl (Bl S)) _ _=_;rw[NJ h1]
 unfold BH at h;dsimp only at h
 unfold Lf Lg;cases lo<;>cases hi<;>dsimp only at h
 · simp at h3
 · rename_i y
   cases h
   refine ⟨by simp,?_,fun z=>?_,fun z=>?_⟩
   · intro r hr;rw[List.mem_singleton]at hr;subst hr;exact ⟨f2 y,by rw[b2]⟩
   · simp[b2]
   · simp[b2]
 · rename_i x
   cases h
   refine ⟨by simp,?_,fun z=>?_,fun z=>?_⟩
   · intro r hr;rw[List.mem_singleton]at hr;subst hr;exact ⟨f1 _ _,by rw[b1]⟩
   · simp[b1]
   · simp[b1]
 · rename_i x y
   split at h
   · cases h
   · split at h
     · rename_i hxy
       subst hxy;cases h
       refine ⟨by simp,?_,fun z=>?_,fun z=>?_⟩
       · intro r hr;rw[List.mem_singleton]at hr;subst hr;exact ⟨f1 _ _,by rw[b1]⟩
       · simp[b1]
       · simp[b1]
     · cases h
       refine ⟨by simp,?_,fun z=>?_,fun z=>?_⟩
       · intro r hr;simp only[List.mem_cons,List.not_mem_nil,or_false]at hr;rcases hr with rfl|rfl
         · exact ⟨f1 _ _,by rw[b1]⟩
         · exact ⟨f2 y,by rw[b2]⟩
       · simp[b1,b2]
       · simp[b1,b2]
theorem Sq {js:List Bd} (hu:N9 js):∀{a b:Bd},a∈js->b∈js->a.S=b.S->a=b:=by
 induction js with
 |nil=>intro a b ha;cases ha
 |cons c js ih=>
  intro a b ha hb e;unfold N9 at hu;rw[List.pairwise_cons]at hu;replace ha:=List.mem_cons.1 ha;replace hb:=List.mem_cons.1 hb;rcases ha with ha|ha
  · rcases hb with hb|hb
    · rw[ha,hb]
    · have:=hu.1 b hb;rw[<-ha,e,Cy.refl]at this;omega
  · rcases hb with hb|hb
    · have:=hu.1 a ha;rw[<-hb,e,Cy.refl]at this;omega
    · exact ih hu.2 ha hb e
theorem NK {rs out:List R3} {o:Option (List R3)} (h:G7 rs (some out)) (h':G7 out o):o=some out:=by
 have r1:=EN h;obtain ⟨hk,bs,hp,hs,hn,ho,-⟩:=h;have hok:∀c∈BN bs,M7 c/\Tw c:=FB (fun c=>M7 c/\Tw c) (fun x y hx hy _=>⟨Jh hx.1 hy.1,hx.2⟩) (fun b hb=>⟨(E7 rs b (hp.mem_iff.1 hb)).1,PG rs b (hp.mem_iff.1 hb)⟩);have hu:=Cw hs;generalize BN bs=js at *;have hin:∀r,r∈out↔∃c∈js,∃ds,BH c=some ds/\r∈ds:=by
  intro r;rw[ho.mem_iff];unfold E6;constructor
  · intro hr;obtain ⟨l,hl,hr⟩:=List.mem_flatten.1 hr;obtain ⟨c,hc,rfl⟩:=List.mem_map.1 hl;obtain ⟨ds,hds⟩:=Option.ne_none_iff_exists'.1 (hn c hc);rw[hds]at hr;exact ⟨c,hc,ds,hds,hr⟩
  · rintro ⟨c,hc,ds,hds,hr⟩;exact List.mem_flatten.2 ⟨ds,List.mem_map.2 ⟨c,hc,by rw[hds];rfl⟩,hr⟩
 have hfix:∀r∈out,Tv r:=by intro r hr;obtain ⟨c,hc,ds,hds,hr⟩:=(hin r).1 hr;exact ((Dj (hok c hc).1 (hok c hc).2 hds).2.1 r hr).1
 have hmem:∀b,b∈BI out↔∃r∈out,BL r=b:=by
  intro b;unfold BI;simp only[List.mem_map,List.mem_filter];constructor
  · rintro ⟨r,⟨h1,-⟩,e⟩;rw[(EA (hfix r h1)).2]at e;exact ⟨r,h1,e⟩
  · rintro ⟨r,h1,e⟩;exact ⟨r,⟨h1,by simpa using (EA (hfix r h1)).1⟩,by rw[(EA (hfix r h1)).2];exact e⟩
 have hsame:∀c∈js,∀ds,BH c=some ds->∀r∈out,(BL r).S=c.S->r∈ds:=by
  intro c hc ds hds r hr e;obtain ⟨c',hc',ds',hds',hr'⟩:=(hin r).1 hr;have e2:=((Dj (hok c' hc').1 (hok c' hc').2 hds').2.1 r hr').2;have:=Sq hu hc' hc (e2.symm.trans e);subst this;rw[hds]at hds';injection hds' with hds'
  subst hds';exact hr'
 have spec:Ds (BI out) js:=by
  refine ⟨fun c hc=>?_,fun b hb=>?_,fun c hc z=>?_,fun c hc z=>?_⟩
  · obtain ⟨ds,hds⟩:=Option.ne_none_iff_exists'.1 (hn c hc);obtain ⟨h1,h2,-,-⟩:=Dj (hok c hc).1 (hok c hc).2 hds;obtain ⟨r,hr⟩:=List.exists_mem_of_ne_nil _ h1;exact ⟨BL r,(hmem _).2 ⟨r,(hin r).2 ⟨c,hc,ds,hds,hr⟩,rfl⟩,(h2 r hr).2⟩
  · obtain ⟨r,hr,rfl⟩:=(hmem b).1 hb;obtain ⟨c,hc,ds,hds,hr⟩:=(hin r).1 hr;exact ⟨c,hc,((Dj (hok c hc).1 (hok c hc).2 hds).2.1 r hr).2.symm⟩
  · obtain ⟨ds,hds⟩:=Option.ne_none_iff_exists'.1 (hn c hc);obtain ⟨-,h2,h3,-⟩:=Dj (hok c hc).1 (hok c hc).2 hds;rw[h3 z];constructor
    · intro h4 b hb e;obtain ⟨r,hr,rfl⟩:=(hmem b).1 hb;exact h4 r (hsame c hc ds hds r hr e)
    · intro h4 r hr;exact h4 (BL r) ((hmem _).2 ⟨r,(hin r).2 ⟨c,hc,ds,hds,hr⟩,rfl⟩) (h2 r hr).2
  · obtain ⟨ds,hds⟩:=Option.ne_none_iff_exists'.1 (hn c hc);obtain ⟨-,h2,-,h3⟩:=Dj (hok c hc).1 (hok c hc).2 hds;rw[h3 z];constructor
    · intro h4 b hb e;obtain ⟨r,hr,rfl⟩:=(hmem b).1 hb;exact h4 r (hsame c hc ds hds r hr e)
    · intro h4 r hr;exact h4 (BL r) ((hmem _).2 ⟨r,(hin r).2 ⟨c,hc,ds,hds,hr⟩,rfl⟩) (h2 r hr).2
 cases o with
 |none=>
  exfalso;rcases h' with ⟨r,hr,h'⟩|⟨bs',hp',hs',b,hb,h'⟩
  · rw[(EA (hfix r hr)).1]at h';cases h'
  · have e:=Ds.uniq (fun b=>hp'.mem_iff) (Cj hs') spec (Cw hs') hu;exact hn b (e▸hb) h'
 |some out'=>
  have r2:=EN h';obtain ⟨hk',bs',hp',hs',hn',ho',-⟩:=h';have e:=Ds.uniq (fun b=>hp'.mem_iff) (Cj hs') spec (Cw hs') hu;congr 1
  exact Kn r2 r1 (fun x=>by rw[ho.mem_iff,ho'.mem_iff,e])
end
section
open Go.RowKit
open Tm
theorem BD.lit0 {Pt:List Value->Prop} (T:TypeId) (sz:Nat) {w:World} {base:Nat} (hb:base<=w.heap.size) (hp:Pt []):BD Pt T sz (w.alloc (.cells #[] T)) base (.slice (some ⟨w.heap.size,0,none⟩) 0 0) 0 []:=
 ⟨by simp,.inr ⟨w.heap.size,0,#[],rfl,hb,heap_alloc_new w _,Nat.le_refl _,by unfold maxLen;omega,by simp,by simp,(fun u hu=>by cases hu),hp⟩⟩
def Ko (W0:World) (N i0 i1 i2 i3:Nat) (ps qs zs:List RV) (listed:Array Bool) (σ:Nat->Value) (w:World):Prop:=
 listed.size=N/\Below W0.heap.size W0 w/\(listed.getD i0 false=true->listed.getD i1 false=false->LN 35 4 w W0.heap.size (σ i0) 0 (AB [])) /\
  (listed.getD i1 false=true->listed.getD i2 false=false->LN 35 4 w W0.heap.size (σ i1) (0+ps.length) (AB ([]++ps))) /\
  (listed.getD i2 false=true->listed.getD i3 false=false->LN 35 4 w W0.heap.size (σ i2) (0+ps.length+qs.length) (AB ([]++ps++qs))) /\
  (listed.getD i3 false=true->LN 35 4 w W0.heap.size (σ i3) (0+ps.length+qs.length+zs.length) (AB ([]++ps++qs++zs)))
section
variable {W0 w w':World} {N i i0 i1 i2 i3:Nat} {ps qs zs:List RV} {listed:Array Bool} {σ:Nat->Value} {v:Value}
theorem Ko.start (h:Below W0.heap.size W0 w):Ko W0 N i0 i1 i2 i3 ps qs zs (Array.replicate N false) σ w:=
 ⟨Array.size_replicate,h,(fun h=>by rw[BS]at h;cases h),(fun h=>by rw[BS]at h;cases h),(fun h=>by rw[BS]at h;cases h),(fun h=>by rw[BS]at h;cases h)⟩
theorem Ko.same (h:Ko W0 N i0 i1 i2 i3 ps qs zs listed σ w) (h0:i≠i0) (h1:i≠i1) (h2:i≠i2) (h3:i≠i3):Ko W0 N i0 i1 i2 i3 ps qs zs (listed.setIfInBounds i true) (upd σ i v) w:=by unfold Ko;rw[getD_set_ne false h0,getD_set_ne false h1,getD_set_ne false h2,getD_set_ne false h3,upd_ne σ v (Ne.symm h0),upd_ne σ v (Ne.symm h1),upd_ne σ v (Ne.symm h2),upd_ne σ v (Ne.symm h3)];exact ⟨by rw[Array.size_setIfInBounds];exact h.1,h.2⟩
theorem Ko.made (hz:listed.size=N) (hl1:listed.getD i1 false=false) (hl2:listed.getD i2 false=false) (hl3:listed.getD i3 false=false) (h01:i0≠i1) (h02:i0≠i2) (h03:i0≠i3) (hb:Below W0.heap.size W0 w') (hr:LN 35 4 w' W0.heap.size v 0 (AB [])):Ko W0 N i0 i1 i2 i3 ps qs zs (listed.setIfInBounds i0 true) (upd σ i0 v) w':=by
 refine ⟨by rw[Array.size_setIfInBounds];exact hz,hb,fun _ _=>by rw[CX];exact hr,fun h=>?_,fun h=>?_,fun h=>?_⟩
 · rw[getD_set_ne false h01,hl1]at h;cases h
 · rw[getD_set_ne false h02,hl2]at h;cases h
 · rw[getD_set_ne false h03,hl3]at h;cases h
theorem Ko.one (hz:listed.size=N) (hl2:listed.getD i2 false=false) (hl3:listed.getD i3 false=false) (hn:i1<N) (h12:i1≠i2) (h13:i1≠i3) (hb:Below W0.heap.size W0 w') (hr:LN 35 4 w' W0.heap.size v (0+ps.length) (AB ([]++ps))):Ko W0 N i0 i1 i2 i3 ps qs zs (listed.setIfInBounds i1 true) (upd σ i1 v) w':=by
 have hs:i1<listed.size:=by rw[hz];exact hn
 refine ⟨by rw[Array.size_setIfInBounds];exact hz,hb,(fun _ h=>by simp[hs]at h),(fun _ _=>by rw[CX];exact hr),fun h=>?_,fun h=>?_⟩
 · rw[getD_set_ne false h12,hl2]at h;cases h
 · rw[getD_set_ne false h13,hl3]at h;cases h
theorem Ko.two (hz:listed.size=N) (hl1:listed.getD i1 false=true) (hl3:listed.getD i3 false=false) (hn:i2<N) (h12:i1≠i2) (h23:i2≠i3) (hb:Below W0.heap.size W0 w') (hr:LN 35 4 w' W0.heap.size v (0+ps.length+qs.length) (AB ([]++ps++qs))):Ko W0 N i0 i1 i2 i3 ps qs zs (listed.setIfInBounds i2 true) (upd σ i2 v) w':=by
 have hs:i2<listed.size:=by rw[hz];exact hn
 refine ⟨by rw[Array.size_setIfInBounds];exact hz,hb,fun _ h=>?_,(fun _ h=>by simp[hs]at h),(fun _ _=>by rw[CX];exact hr),fun h=>?_⟩
 · rw[getD_set_ne false (Ne.symm h12),hl1]at h;cases h
 · rw[getD_set_ne false h23,hl3]at h;cases h
theorem Ko.three (hz:listed.size=N) (hl1:listed.getD i1 false=true) (hl2:listed.getD i2 false=true) (hn:i3<N) (h13:i1≠i3) (h23:i2≠i3) (hb:Below W0.heap.size W0 w') (hr:LN 35 4 w' W0.heap.size v (0+ps.length+qs.length+zs.length) (AB ([]++ps++qs++zs))):Ko W0 N i0 i1 i2 i3 ps qs zs (listed.setIfInBounds i3 true) (upd σ i3 v) w':=by
 have hs:i3<listed.size:=by rw[hz];exact hn
 refine ⟨by rw[Array.size_setIfInBounds];exact hz,hb,fun _ h=>?_,fun _ h=>?_,(fun _ h=>by simp[hs]at h),(fun _=>by rw[CX];exact hr)⟩
 · rw[getD_set_ne false (Ne.symm h13),hl1]at h;cases h
 · rw[getD_set_ne false (Ne.symm h23),hl2]at h;cases h
end
end
section
open Go.RowKit
open Tm
end
section
open Go.RowKit
open Tm
end
end Go.Proofs.YtemfjdedjcjegaaGreatDoor
