/- Texts of one seat, put together: Tidying RelTidies OpenR OpenRs. -/
import Derived.Test.YtmedjkhmadfjlaaGreatR45
import Derived.Test.YtmedjkhmadfjlaaGreatR42
import Derived.Test.YtmedjkhmadfjlaaGreatR31
import Derived.Test.YtmedjkhmadfjlaaGreatR26
import Derived.Test.YtmedjkhmadfjlaaGreatR25
import Derived.Test.YtmedjkhmadfjlaaGreatR44
set_option linter.unusedVariables false
set_option linter.unusedSimpArgs false
set_option maxRecDepth 100000
set_option maxHeartbeats 16000000
namespace Go.Proofs.YtmedjkhmadfjlaaGreat
section
open Go.RowKit
open Tm
def VT:List R3:=[([(0,1)],0,false),([(0,-1)],0,false),([],5,false)]
def VU:List R3:=[([(0,1)],-1,false),([(0,-1)],0,false)]
theorem Tc:I1 VT (some [([(0,1)],0,true)]):=by
 refine ⟨by decide +kernel,[⟨[(0,1)],some 0,none⟩,⟨[(0,1)],none,some 0⟩],?_,?_,?_,?_,by simp⟩
 · rw[show Cq VT=[⟨[(0,1)],some 0,none⟩,⟨[(0,1)],none,some 0⟩] from by kernel_rfl]
 · unfold CF;simp[cmpL,AP]
 · rw[show Ci [⟨[(0,1)],some 0,none⟩,⟨[(0,1)],none,some 0⟩]=[⟨[(0,1)],some 0,some 0⟩] from by kernel_rfl];intro b hb;rw[List.mem_singleton]at hb;subst hb;simp[BN]
 · rw[show Ci [⟨[(0,1)],some 0,none⟩,⟨[(0,1)],none,some 0⟩]=[⟨[(0,1)],some 0,some 0⟩] from by kernel_rfl];simp[F8,BN]
theorem Td:I1 VU none:=by
 refine .inr ⟨[⟨[(0,1)],some 1,none⟩,⟨[(0,1)],none,some 0⟩],?_,?_,⟨[(0,1)],some 1,some 0⟩,?_,?_⟩
 · rw[show Cq VU=[⟨[(0,1)],some 1,none⟩,⟨[(0,1)],none,some 0⟩] from by kernel_rfl]
 · unfold CF;simp[cmpL,AP]
 · rw[show Ci [⟨[(0,1)],some 1,none⟩,⟨[(0,1)],none,some 0⟩]=[⟨[(0,1)],some 1,some 0⟩] from by kernel_rfl];simp
 · simp[BN]
theorem Gw {T:TypeId} {w:World} {g:Nat} {xs:List Int} {cs:Array Value} (h:AK T w g cs) (hc:cs.toList=ints xs):GW w (some ⟨g,0,none⟩) xs.length xs:=⟨rfl,fun _=>⟨g,0,rfl,fun j u hu=>by rw[Nat.zero_add];exact h.cell j u (by rw[<-hc]at hu;simpa using hu)⟩⟩
theorem NF (w0:World):Calls Tryz.prog 5 #[] w0 (Ek w0):=by
 go_enter Tryz.func5,Tryz.ntmps5;have HB:=Ac (Below.refl w0.heap.size w0);have y1:=Af w0 (.cells #[.int .i64 1] 2);have ho1:=Fp 0 (some ⟨w0.heap.size,0,none⟩) 1 1 [1] _ (Gw (AK.new 2 w0 #[.int .i64 1]) rfl) (by decide) (by decide) (by decide) (by decide);go_wp2_with fail;refine ho1.mono ?_;rintro e wa1 ⟨va1,rfl,ra1,ba1⟩;have hl1:=Cv va1 (F7 [1]) 0 2 wa1 ra1.in_ (by decide) (by decide);have hb1:Below w0.heap.size w0 wa1:=y1.trans (ba1.mono y1.size);clear ho1 y1 ba1 ra1
 go_wp2_with fail;refine hl1.mono ?_;rintro e wb1 ⟨vb1,rfl,⟨A1,n1,c1,s1,B1,m1,d1,rfl,rb1⟩,bb1⟩;have HY1:=Ac (hb1.next bb1);have HBn:=Ac (HB.out.next HY1.out);clear HB hl1 hb1 bb1;have HB:=HBn;clear HBn;have HR1:=Ac rb1;clear rb1 HY1;have y2:=Af wb1 (.cells #[.int .i64 (-1)] 2);have ho2:=Fp 0 (some ⟨wb1.heap.size,0,none⟩) 1 1 [(-1)] _ (Gw (AK.new 2 wb1 #[.int .i64 (-1)]) rfl) (by decide) (by decide) (by decide) (by decide);go_wp2_with fail;refine ho2.mono ?_
 rintro e wa2 ⟨va2,rfl,ra2,ba2⟩;have hl2:=Cv va2 (F7 [(-1)]) 0 2 wa2 ra2.in_ (by decide) (by decide);have hb2:Below wb1.heap.size wb1 wa2:=y2.trans (ba2.mono y2.size);clear ho2 y2 ba2 ra2;go_wp2_with fail;refine hl2.mono ?_;rintro e wb2 ⟨vb2,rfl,⟨A2,n2,c2,s2,B2,m2,d2,rfl,rb2⟩,bb2⟩;have HY2:=Ac (hb2.next bb2);have HBn:=Ac (HB.out.next HY2.out);clear HB hl2 hb2 bb2;have HB:=HBn;clear HBn;have HRx:=Ac (HR1.out.below HY2.out);clear HR1;have HR1:=HRx;clear HRx;have HR2:=Ac rb2
 clear rb2 HY2;have y3:=Below.refl wb2.heap.size wb2;have ho3:=Fp 5 none 0 0 [] wb2 (GW.none wb2) (by decide) (by decide) (by decide) (by decide);go_wp2_with fail;refine ho3.mono ?_;rintro e wa3 ⟨va3,rfl,ra3,ba3⟩;have hl3:=Cv va3 (F7 []) 5 2 wa3 ra3.in_ (by decide) (by decide);have hb3:Below wb2.heap.size wb2 wa3:=y3.trans (ba3.mono y3.size);clear ho3 y3 ba3 ra3;go_wp2_with fail;refine hl3.mono ?_;rintro e wb3 ⟨vb3,rfl,⟨A3,n3,c3,s3,B3,m3,d3,rfl,rb3⟩,bb3⟩
 have HY3:=Ac (hb3.next bb3);have HBn:=Ac (HB.out.next HY3.out);clear HB hl3 hb3 bb3;have HB:=HBn;clear HBn;have HRx:=Ac (HR1.out.below HY3.out);clear HR1;have HR1:=HRx;clear HRx;have HRx:=Ac (HR2.out.below HY3.out);clear HR2;have HR2:=HRx;clear HRx;have HR3:=Ac rb3;clear rb3 HY3;have hxP:=AK.new 42 wb3 #[.slice A1 n1 c1,.bool s1,.slice B1 m1 d1,.bool false,.slice A2 n2 c2,.bool s2,.slice B2 m2 d2,.bool false,.slice A3 n3 c3,.bool s3,.slice B3 m3 d3,.bool false]
 have hyP:=Af wb3 (.cells #[.slice A1 n1 c1,.bool s1,.slice B1 m1 d1,.bool false,.slice A2 n2 c2,.bool s2,.slice B2 m2 d2,.bool false,.slice A3 n3 c3,.bool s3,.slice B3 m3 d3,.bool false] 42)
 have htP:=Kz (some ⟨wb3.heap.size,0,none⟩) 3 3 4 1 [⟨A1,n1,c1,s1,B1,m1,d1,false,norm (F7 [1]),0⟩,⟨A2,n2,c2,s2,B2,m2,d2,false,norm (F7 [(-1)]),0⟩,⟨A3,n3,c3,s3,B3,m3,d3,false,norm (F7 []),5⟩] _ ⟨Di.box (rs:=[⟨A1,n1,c1,s1,B1,m1,d1,false,norm (F7 [1]),0⟩,⟨A2,n2,c2,s2,B2,m2,d2,false,norm (F7 [(-1)]),0⟩,⟨A3,n3,c3,s3,B3,m3,d3,false,norm (F7 []),5⟩]) hxP,by
   intro r hr;simp only[List.mem_cons,List.not_mem_nil,or_false]at hr;rcases hr with rfl|rfl|rfl
   · exact ((HR1.out.below hyP).in_).mono (by decide)
   · exact ((HR2.out.below hyP).in_).mono (by decide)
   · exact ((HR3.out.below hyP).in_).mono (by decide)⟩ (by decide) (by decide) (by decide) (by decide) (by
   intro r hr;simp only[List.mem_cons,List.not_mem_nil,or_false]at hr;rcases hr with rfl|rfl|rfl
   · exact (by decide +kernel:(norm (F7 [1])).length<=1)
   · exact (by decide +kernel:(norm (F7 [(-1)])).length<=1)
   · exact (by decide +kernel:(norm (F7 [])).length<=1)) (by decide)
 have HYP:=Ac hyP;clear hxP hyP;go_wp2_with fail;refine htP.mono ?_;rintro e wt ⟨o,hto,bt,hm⟩;have eo:o=some [([(0,1)],0,true)]:=L4 (rs':=VT) (fun r=>by rw[show ([⟨A1,n1,c1,s1,B1,m1,d1,false,norm (F7 [1]),0⟩,⟨A2,n2,c2,s2,B2,m2,d2,false,norm (F7 [(-1)]),0⟩,⟨A3,n3,c3,s3,B3,m3,d3,false,norm (F7 []),5⟩]:List RV).map RV.rd=VT from by kernel_rfl]) hto Tc;subst eo;obtain ⟨At,ct,ps,rfl,hps,hpd,-,-,-⟩:=hm;have HBt:=Ac (HB.out.next ((HYP.out).trans (bt.mono HYP.out.size)))
 have HPS:=Ac hps;have HPD:=Ac hpd;clear HB htP hto bt hps hpd HR1 HR2 HR3 HYP;have HB:=HBt;clear HBt;have y4:=Af wt (.cells #[.int .i64 1] 2);have ho4:=Fp (-1) (some ⟨wt.heap.size,0,none⟩) 1 1 [1] _ (Gw (AK.new 2 wt #[.int .i64 1]) rfl) (by decide) (by decide) (by decide) (by decide);go_wp2_with fail;refine ho4.mono ?_;rintro e wa4 ⟨va4,rfl,ra4,ba4⟩;have hl4:=Cv va4 (F7 [1]) (-1) 2 wa4 ra4.in_ (by decide) (by decide)
 have hb4:Below wt.heap.size wt wa4:=y4.trans (ba4.mono y4.size);clear ho4 y4 ba4 ra4;go_wp2_with fail;refine hl4.mono ?_;rintro e wb4 ⟨vb4,rfl,⟨A4,n4,c4,s4,B4,m4,d4,rfl,rb4⟩,bb4⟩;have HY4:=Ac (hb4.next bb4);have HBn:=Ac (HB.out.next HY4.out);clear HB hl4 hb4 bb4;have HB:=HBn;clear HBn;have HR4:=Ac rb4;have HPx:=Ac (HPS.out.below HY4.out);clear HPS;have HPS:=HPx;clear HPx rb4 HY4;have y5:=Af wb4 (.cells #[.int .i64 (-1)] 2)
 have ho5:=Fp 0 (some ⟨wb4.heap.size,0,none⟩) 1 1 [(-1)] _ (Gw (AK.new 2 wb4 #[.int .i64 (-1)]) rfl) (by decide) (by decide) (by decide) (by decide);go_wp2_with fail;refine ho5.mono ?_;rintro e wa5 ⟨va5,rfl,ra5,ba5⟩;have hl5:=Cv va5 (F7 [(-1)]) 0 2 wa5 ra5.in_ (by decide) (by decide);have hb5:Below wb4.heap.size wb4 wa5:=y5.trans (ba5.mono y5.size);clear ho5 y5 ba5 ra5;go_wp2_with fail;refine hl5.mono ?_;rintro e wb5 ⟨vb5,rfl,⟨A5,n5,c5,s5,B5,m5,d5,rfl,rb5⟩,bb5⟩
 have HY5:=Ac (hb5.next bb5);have HBn:=Ac (HB.out.next HY5.out);clear HB hl5 hb5 bb5;have HB:=HBn;clear HBn;have HRx:=Ac (HR4.out.below HY5.out);clear HR4;have HR4:=HRx;clear HRx;have HR5:=Ac rb5;have HPx:=Ac (HPS.out.below HY5.out);clear HPS;have HPS:=HPx;clear HPx rb5 HY5;have hxQ:=AK.new 42 wb5 #[.slice A4 n4 c4,.bool s4,.slice B4 m4 d4,.bool false,.slice A5 n5 c5,.bool s5,.slice B5 m5 d5,.bool false]
 have hyQ:=Af wb5 (.cells #[.slice A4 n4 c4,.bool s4,.slice B4 m4 d4,.bool false,.slice A5 n5 c5,.bool s5,.slice B5 m5 d5,.bool false] 42);have htQ:=Kz (some ⟨wb5.heap.size,0,none⟩) 2 2 4 1 [⟨A4,n4,c4,s4,B4,m4,d4,false,norm (F7 [1]),(-1)⟩,⟨A5,n5,c5,s5,B5,m5,d5,false,norm (F7 [(-1)]),0⟩] _ ⟨Di.box (rs:=[⟨A4,n4,c4,s4,B4,m4,d4,false,norm (F7 [1]),(-1)⟩,⟨A5,n5,c5,s5,B5,m5,d5,false,norm (F7 [(-1)]),0⟩]) hxQ,by
   intro r hr;simp only[List.mem_cons,List.not_mem_nil,or_false]at hr;rcases hr with rfl|rfl
   · exact ((HR4.out.below hyQ).in_).mono (by decide)
   · exact ((HR5.out.below hyQ).in_).mono (by decide)⟩ (by decide) (by decide) (by decide) (by decide) (by
   intro r hr;simp only[List.mem_cons,List.not_mem_nil,or_false]at hr;rcases hr with rfl|rfl
   · exact (by decide +kernel:(norm (F7 [1])).length<=1)
   · exact (by decide +kernel:(norm (F7 [(-1)])).length<=1)) (by decide)
 have HYQ:=Ac hyQ;clear hxQ hyQ;go_wp2_with fail;refine htQ.mono ?_;rintro e wu ⟨o,hto,bt,hm⟩;have eo:o=none:=L4 (rs':=VU) (fun r=>by rw[show ([⟨A4,n4,c4,s4,B4,m4,d4,false,norm (F7 [1]),(-1)⟩,⟨A5,n5,c5,s5,B5,m5,d5,false,norm (F7 [(-1)]),0⟩]:List RV).map RV.rd=VU from by kernel_rfl]) hto Td;subst eo;dsimp only at hm
 subst hm;have HYU:=Ac ((HYQ.out).trans (bt.mono HYQ.out.size));have HBt:=Ac (HB.out.next HYU.out);have HPx:=Ac (HPS.out.below HYU.out);clear HPS HB htQ hto bt HR4 HR5 HYQ HYU;have HPS:=HPx;have HB:=HBt;clear HPx HBt;obtain ⟨gr,or,hAt,hcl⟩:=HPS.out.1.2 (by decide);obtain ⟨p,rfl⟩:∃p,ps=[p]:=by
   have:=HPS.out.1.1;cases ps with
   |nil=>simp at this
   |cons p l=>
     cases l with
     |nil=>exact ⟨p,rfl⟩
     |cons q l=>simp at this
 obtain ⟨Ar,nr,cr,sr,Br,mr,dr,fr,Lr,Kr⟩:=p;have hrd:Lr=[(0,1)]/\Kr=0/\fr=true:=by have:=HPD.out;simp[RV.rd]at this;exact this
 obtain ⟨rfl,rfl,rfl⟩:=hrd;subst hAt;have HR:=Ac (show DC wu (.agg #[.slice Ar nr cr,.bool sr,.slice Br mr dr,.bool true]) (F7 [1]) 0 true 100 from ⟨Ar,nr,cr,sr,Br,mr,dr,rfl,show Aw wu (.agg #[.slice Ar nr cr,.bool sr,.slice Br mr dr]) [(0,1)] 0 100 from (HPS.out.2 ⟨Ar,nr,cr,sr,Br,mr,dr,true,[(0,1)],0⟩ (by simp)).mono (by decide)⟩);have hlt:gr<wu.heap.size:=World.block_lt_of_cell? wu _ (hcl 0 _ rfl);have k0:=hcl 0 _ rfl;have k1:=hcl 1 _ rfl;have k2:=hcl 2 _ rfl
 have k3:=hcl 3 _ rfl;rw[Nat.add_zero]at k0;have HC:=Ac (show gr<wu.heap.size/\wu.cell? ⟨gr,or,none⟩=some (.slice Ar nr cr)/\wu.cell? ⟨gr,or+1,none⟩=some (.bool sr)/\wu.cell? ⟨gr,or+2,none⟩=some (.slice Br mr dr)/\wu.cell? ⟨gr,or+3,none⟩=some (.bool true) from ⟨hlt,k0,k1,k2,k3⟩);clear hcl hlt k0 k1 k2 k3 HPS HPD;go_upto_region 3 with fail;generalize ct=cc at *;generalize wu=W0 at *
 have SOF:=Ac (show ∀W,Below W0.heap.size W0 W->(W.cell? ⟨gr,or,none⟩=some (.slice Ar nr cr)/\W.cell? ⟨gr,or+1,none⟩=some (.bool sr)/\W.cell? ⟨gr,or+2,none⟩=some (.slice Br mr dr)/\W.cell? ⟨gr,or+3,none⟩=some (.bool true)) from fun W h=>⟨(Below.cell h (p:=⟨gr,or,none⟩) HC.out.1).trans HC.out.2.1,(Below.cell h (p:=⟨gr,or+1,none⟩) HC.out.1).trans HC.out.2.2.1,(Below.cell h (p:=⟨gr,or+2,none⟩) HC.out.1).trans HC.out.2.2.2.1,(Below.cell h (p:=⟨gr,or+3,none⟩) HC.out.1).trans HC.out.2.2.2.2⟩)
 refine AO (by kernel_rfl) (by kernel_rfl) (by kernel_rfl) (fun w w'=>Below w.heap.size w w') (fun j v w=>match j with|0=>v=.bool true|1=>v=.bool true|2=>v=.slice (some ⟨gr,or,none⟩) 1 cc|3=>v=.int .i64 1|4=>v=.bool true|5=>v=.bool true|6=>v=.bool true|7=>v=.slice (some ⟨gr,or,none⟩) 1 cc|8=>v=.pointer (some ⟨gr,or,none⟩)|9=>v=.agg #[.slice Ar nr cr,.bool sr,.slice Br mr dr,.bool true]|10=>∃g,v=.slice (some ⟨g,0,none⟩) 1 1/\AK 2 w g (ints [1]).toArray|11=>Aw w v (F7 [1]) 0 2|12=>DC w v (F7 [1]) 0 true 2|13=>v=.bool true|14=>v=.bool true|15=>v=.bool true|16=>v=.bool false|17=>v=.bool true|18=>v=.bool true|19=>v=.bool true|_=>True) (fun _ _ w=>Below W0.heap.size W0 w) ?_ (fun _=>Ap W0 1) ?_ ?_
 · intro j v w w' hT h;match j,h with
   |0,h=>exact h
   |1,h=>exact h
   |2,h=>exact h
   |3,h=>exact h
   |4,h=>exact h
   |5,h=>exact h
   |6,h=>exact h
   |7,h=>exact h
   |8,h=>exact h
   |9,h=>exact h
   |10,h=>exact (by obtain ⟨g,e,h1⟩:=h;exact ⟨g,e,h1.next hT⟩)
   |11,h=>exact h.below hT
   |12,h=>exact h.below hT
   |13,h=>exact h
   |14,h=>exact h
   |15,h=>exact h
   |16,h=>exact h
   |17,h=>exact h
   |18,h=>exact h
   |19,h=>exact h
   |j+20,h=>trivial
 · refine ⟨?_,?_,?_,?_,?_,?_,?_,?_,?_,?_,?_,?_,?_,?_,?_,?_,?_,?_,?_,?_,trivial⟩
   · intro l9 σ w a hin hout hl hc hp hG hF;refine Ad.none rfl ?_;have e2:a.tmps.getD 2 undef=.bool true:=hout 2 (Ae (by kernel_rfl));refine Does.val (.bool true) (w':=w) ?_ ⟨Below.refl _ _,rfl,hG⟩;simp only[Array.getD_eq_getD_getElem?]at e2;go_simp
   · intro l9 σ w a hin hout hl hc hp hG hF;refine Ad.none rfl ?_;have e29:a.tmps.getD 29 undef=.bool true:=Am (hin 0 29) rfl (hp ⟨0,.data⟩ (by simp) rfl) (hF 0);refine Does.val (.bool true) (w':=w) ?_ ⟨Below.refl _ _,rfl,hG⟩;simp only[Array.getD_eq_getD_getElem?]at e29;go_simp
   · intro l9 σ w a hin hout hl hc hp hG hF;refine Ad.some (d:=30) (b:=true) rfl rfl (Am (hin 1 30) rfl (hp ⟨1,.guard⟩ (by simp) rfl) (hF 1)) ?_;refine Or.inl ⟨rfl,?_⟩;have e1:a.tmps.getD 1 undef=.slice (some ⟨gr,or,none⟩) 1 cc:=hout 1 (Ae (by kernel_rfl));refine Does.val (.slice (some ⟨gr,or,none⟩) 1 cc) (w':=w) ?_ ⟨Below.refl _ _,rfl,hG⟩;simp only[Array.getD_eq_getD_getElem?]at e1;go_simp
   · intro l9 σ w a hin hout hl hc hp hG hF;refine Ad.some (d:=30) (b:=true) rfl rfl (Am (hin 1 30) rfl (hp ⟨1,.guard⟩ (by simp) rfl) (hF 1)) ?_;refine Or.inl ⟨rfl,?_⟩;have e31:a.tmps.getD 31 undef=.slice (some ⟨gr,or,none⟩) 1 cc:=Am (hin 2 31) rfl (hp ⟨2,.data⟩ (by simp) rfl) (hF 2);refine Does.val (.int .i64 1) (w':=w) ?_ ⟨Below.refl _ _,rfl,hG⟩;simp only[Array.getD_eq_getD_getElem?]at e31;go_simp
   · intro l9 σ w a hin hout hl hc hp hG hF;refine Ad.some (d:=30) (b:=true) rfl rfl (Am (hin 1 30) rfl (hp ⟨1,.guard⟩ (by simp) rfl) (hF 1)) ?_;refine Or.inl ⟨rfl,?_⟩;have e32:a.tmps.getD 32 undef=.int .i64 1:=Am (hin 3 32) rfl (hp ⟨3,.data⟩ (by simp) rfl) (hF 3);refine Does.val (.bool true) (w':=w) ?_ ⟨Below.refl _ _,rfl,hG⟩;simp only[Array.getD_eq_getD_getElem?]at e32;go_simp
   · intro l9 σ w a hin hout hl hc hp hG hF;refine Ad.none rfl ?_;have e30:a.tmps.getD 30 undef=.bool true:=Am (hin 1 30) rfl (hp ⟨1,.data⟩ (by simp) rfl) (hF 1);have e33:a.tmps.getD 33 undef=.bool true:=Am (hin 4 33) rfl (hp ⟨4,.data⟩ (by simp) rfl) (hF 4);refine Does.val (.bool true) (w':=w) ?_ ⟨Below.refl _ _,rfl,hG⟩;simp only[Array.getD_eq_getD_getElem?]at e30 e33;go_simp
   · intro l9 σ w a hin hout hl hc hp hG hF;refine Ad.none rfl ?_;have e34:a.tmps.getD 34 undef=.bool true:=Am (hin 5 34) rfl (hp ⟨5,.data⟩ (by simp) rfl) (hF 5);refine Does.val (.bool true) (w':=w) ?_ ⟨Below.refl _ _,rfl,hG⟩;simp only[Array.getD_eq_getD_getElem?]at e34;go_simp
   · intro l9 σ w a hin hout hl hc hp hG hF;refine Ad.some (d:=35) (b:=true) rfl rfl (Am (hin 6 35) rfl (hp ⟨6,.guard⟩ (by simp) rfl) (hF 6)) ?_;refine Or.inl ⟨rfl,?_⟩;have e1:a.tmps.getD 1 undef=.slice (some ⟨gr,or,none⟩) 1 cc:=hout 1 (Ae (by kernel_rfl));refine Does.val (.slice (some ⟨gr,or,none⟩) 1 cc) (w':=w) ?_ ⟨Below.refl _ _,rfl,hG⟩;simp only[Array.getD_eq_getD_getElem?]at e1;go_simp
   · intro l9 σ w a hin hout hl hc hp hG hF;refine Ad.some (d:=35) (b:=true) rfl rfl (Am (hin 6 35) rfl (hp ⟨6,.guard⟩ (by simp) rfl) (hF 6)) ?_;refine Or.inl ⟨rfl,?_⟩;have e36:a.tmps.getD 36 undef=.slice (some ⟨gr,or,none⟩) 1 cc:=Am (hin 7 36) rfl (hp ⟨7,.data⟩ (by simp) rfl) (hF 7);refine Does.val (.pointer (some ⟨gr,or,none⟩)) (w':=w) ?_ ⟨Below.refl _ _,rfl,hG⟩;simp only[Array.getD_eq_getD_getElem?]at e36;go_simp;(try (intro hh;exfalso;omega))
   · intro l9 σ w a hin hout hl hc hp hG hF;refine Ad.some (d:=35) (b:=true) rfl rfl (Am (hin 6 35) rfl (hp ⟨6,.guard⟩ (by simp) rfl) (hF 6)) ?_;refine Or.inl ⟨rfl,?_⟩;have e37:a.tmps.getD 37 undef=.pointer (some ⟨gr,or,none⟩):=Am (hin 8 37) rfl (hp ⟨8,.data⟩ (by simp) rfl) (hF 8);have CC:=SOF.out w hG;obtain ⟨C0,C1,C2,C3⟩:=CC;refine Does.val (.agg #[.slice Ar nr cr,.bool sr,.slice Br mr dr,.bool true]) (w':=w) ?_ ⟨Below.refl _ _,rfl,hG⟩;go_simp
   · intro l9 σ w a hin hout hl hc hp hG hF;refine Ad.some (d:=35) (b:=true) rfl rfl (Am (hin 6 35) rfl (hp ⟨6,.guard⟩ (by simp) rfl) (hF 6)) ?_;refine Or.inl ⟨rfl,?_⟩;refine Does.val (.slice (some ⟨w.heap.size,0,none⟩) 1 1) (w':=w.alloc (.cells #[.int .i64 1] 2)) ?_ ⟨Af w _,⟨w.heap.size,rfl,AK.new _ _ _⟩,hG.next (Af w _)⟩;go_simp
   · intro l9 σ w a hin hout hl hc hp hG hF;refine Ad.some (d:=35) (b:=true) rfl rfl (Am (hin 6 35) rfl (hp ⟨6,.guard⟩ (by simp) rfl) (hF 6)) ?_;refine Or.inl ⟨rfl,?_⟩;have e39:=hin 10 39 rfl (hp ⟨10,.data⟩ (by simp) rfl);obtain ⟨g10,ev10,x10⟩:=hF 10 (hp ⟨10,.data⟩ (by simp) rfl);rw[ev10]at e39;refine Does.call ?_ (Fp 0 (some ⟨g10,0,none⟩) 1 1 [1] w x10.ints (by decide) (by decide) (by decide) (by decide)) ?_
     · go_simp
     · rintro e w' ⟨v,rfl,z,hb⟩;exact ⟨_,rfl,hb,z,hG.next hb⟩
   · intro l9 σ w a hin hout hl hc hp hG hF;refine Ad.some (d:=35) (b:=true) rfl rfl (Am (hin 6 35) rfl (hp ⟨6,.guard⟩ (by simp) rfl) (hF 6)) ?_;refine Or.inl ⟨rfl,?_⟩;have e40:=hin 11 40 rfl (hp ⟨11,.data⟩ (by simp) rfl);have z11:=hF 11 (hp ⟨11,.data⟩ (by simp) rfl);obtain ⟨A7,n7,c7,s7,B7,m7,d7,ev7⟩:=Aw.form z11;rw[ev7]at e40 z11;refine Does.val (.agg #[.slice A7 n7 c7,.bool s7,.slice B7 m7 d7,.bool true]) (w':=w) ?_ ⟨Below.refl _ _,⟨A7,n7,c7,s7,B7,m7,d7,rfl,z11⟩,hG⟩
     simp only[Array.getD_eq_getD_getElem?]at e40;go_simp
   · intro l9 σ w a hin hout hl hc hp hG hF;refine Ad.some (d:=35) (b:=true) rfl rfl (Am (hin 6 35) rfl (hp ⟨6,.guard⟩ (by simp) rfl) (hF 6)) ?_;refine Or.inl ⟨rfl,?_⟩;have e38:a.tmps.getD 38 undef=.agg #[.slice Ar nr cr,.bool sr,.slice Br mr dr,.bool true]:=Am (hin 9 38) rfl (hp ⟨9,.data⟩ (by simp) rfl) (hF 9);have e41:=hin 12 41 rfl (hp ⟨12,.data⟩ (by simp) rfl);have z12:=hF 12 (hp ⟨12,.data⟩ (by simp) rfl)
     refine Does.call ?_ (Kf _ _ (F7 [1]) 0 true 100 2 w (HR.out.below hG) z12 (by decide)) ?_
     · go_simp
     · rintro e w' ⟨rfl,hb⟩;exact ⟨_,rfl,hb,rfl,hG.next hb⟩
   · intro l9 σ w a hin hout hl hc hp hG hF;refine Ad.none rfl ?_;have e35:a.tmps.getD 35 undef=.bool true:=Am (hin 6 35) rfl (hp ⟨6,.data⟩ (by simp) rfl) (hF 6);have e42:a.tmps.getD 42 undef=.bool true:=Am (hin 13 42) rfl (hp ⟨13,.data⟩ (by simp) rfl) (hF 13);refine Does.val (.bool true) (w':=w) ?_ ⟨Below.refl _ _,rfl,hG⟩;simp only[Array.getD_eq_getD_getElem?]at e35 e42;go_simp
   · intro l9 σ w a hin hout hl hc hp hG hF;refine Ad.none rfl ?_;have e43:a.tmps.getD 43 undef=.bool true:=Am (hin 14 43) rfl (hp ⟨14,.data⟩ (by simp) rfl) (hF 14);refine Does.val (.bool true) (w':=w) ?_ ⟨Below.refl _ _,rfl,hG⟩;simp only[Array.getD_eq_getD_getElem?]at e43;go_simp
   · intro l9 σ w a hin hout hl hc hp hG hF;refine Ad.some (d:=44) (b:=true) rfl rfl (Am (hin 15 44) rfl (hp ⟨15,.guard⟩ (by simp) rfl) (hF 15)) ?_;refine Or.inl ⟨rfl,?_⟩;have e4:a.tmps.getD 4 undef=.bool false:=hout 4 (Ae (by kernel_rfl));refine Does.val (.bool false) (w':=w) ?_ ⟨Below.refl _ _,rfl,hG⟩;simp only[Array.getD_eq_getD_getElem?]at e4;go_simp
   · intro l9 σ w a hin hout hl hc hp hG hF;refine Ad.some (d:=44) (b:=true) rfl rfl (Am (hin 15 44) rfl (hp ⟨15,.guard⟩ (by simp) rfl) (hF 15)) ?_;refine Or.inl ⟨rfl,?_⟩;have e45:a.tmps.getD 45 undef=.bool false:=Am (hin 16 45) rfl (hp ⟨16,.data⟩ (by simp) rfl) (hF 16);refine Does.val (.bool true) (w':=w) ?_ ⟨Below.refl _ _,rfl,hG⟩;simp only[Array.getD_eq_getD_getElem?]at e45;go_simp
   · intro l9 σ w a hin hout hl hc hp hG hF;refine Ad.none rfl ?_;have e44:a.tmps.getD 44 undef=.bool true:=Am (hin 15 44) rfl (hp ⟨15,.data⟩ (by simp) rfl) (hF 15);have e46:a.tmps.getD 46 undef=.bool true:=Am (hin 17 46) rfl (hp ⟨17,.data⟩ (by simp) rfl) (hF 17);refine Does.val (.bool true) (w':=w) ?_ ⟨Below.refl _ _,rfl,hG⟩;simp only[Array.getD_eq_getD_getElem?]at e44 e46;go_simp
   · intro l9 σ w a hin hout hl hc hp hG hF;refine Ad.none rfl ?_;have e47:a.tmps.getD 47 undef=.bool true:=Am (hin 18 47) rfl (hp ⟨18,.data⟩ (by simp) rfl) (hF 18);refine Does.val (.bool true) (w':=w) ?_ ⟨Below.refl _ _,rfl,hG⟩;simp only[Array.getD_eq_getD_getElem?]at e47;go_simp
 · intro l9 σ W9 hall hG hF
   rw[show mid _ σ l9 _=(Act.put (Act.put (Act.put (Act.put (Act.put (Act.put (Act.put (Act.put (Act.put (Act.put (Act.put (Act.put (Act.put (Act.put (Act.put (Act.put (Act.put (Act.put (Act.put (Act.put _ (some 29) (σ 0)) (some 30) (σ 1)) (some 31) (σ 2)) (some 32) (σ 3)) (some 33) (σ 4)) (some 34) (σ 5)) (some 35) (σ 6)) (some 36) (σ 7)) (some 37) (σ 8)) (some 38) (σ 9)) (some 39) (σ 10)) (some 40) (σ 11)) (some 41) (σ 12)) (some 42) (σ 13)) (some 43) (σ 14)) (some 44) (σ 15)) (some 45) (σ 16)) (some 46) (σ 17)) (some 47) (σ 18)) (some 0) (σ 19)) from (AU hall).trans rfl]
   generalize σ 0=tt0;generalize σ 1=tt1;generalize σ 2=tt2;generalize σ 3=tt3;generalize σ 4=tt4;generalize σ 5=tt5;generalize σ 6=tt6;generalize σ 7=tt7;generalize σ 8=tt8;generalize σ 9=tt9;generalize σ 10=tt10;generalize σ 11=tt11;generalize σ 12=tt12;generalize σ 13=tt13;generalize σ 14=tt14;generalize σ 15=tt15;generalize σ 16=tt16;generalize σ 17=tt17;generalize σ 18=tt18;rw[show σ 19=.bool true from hF 19 (by decide)]
   simp only[Act.put,List.setIfInBounds_toArray,List.set_cons_zero,List.set_cons_succ];have TG:=hG;clear hF hG hall;clear σ;have HE:=Ac (HB.out.next TG);clear TG SOF;go_wp2_with fail;go_ret
   exact ⟨rfl,HE.out⟩
end
section
open Go.RowKit
open Tm
theorem K7 (A:Option Addr) (n c:Nat) (rs:List RV) (w0:World) (hv:EX w0 A n rs QU) (hnc:n<=c) (hcc:c<=9223372036854775807) :
  Calls Tryz.prog 3 #[.slice A n c] w0 (Ek w0):=by
 have HV:=Ac hv;clear hv;go_enter Tryz.func3,Tryz.ntmps3;go_wp2_with fail;refine (NF _).mono ?_;rintro en w2 ⟨rfl,b2⟩;have T2:=Ac b2;clear b2;have hfw:=QR A n c 12 8 rs w2 (HV.out.below T2.out) (by omega) (by decide) (by decide);go_wp2_with fail;refine hfw.mono ?_;rintro en w3 ⟨f1,rfl,hr,rfl⟩;have HR:=Ac hr;clear hfw hr;cases f1 with
 |false=>
  go_wp2_with fail;go_ret
  exact ⟨rfl,T2.out⟩
 |true=>
  have F1:=Ac (HR.out rfl);clear HR;have hrl:rs.length=n:=HV.out.1.1;have hn12:n<=12:=by have:=F1.out.1;omega
  have HRS:=Ac (show EX w3 A n rs 8/\∀r∈rs,r.L.length<=20 from ⟨⟨(HV.out.below T2.out).1,fun r hm=>(F1.out.2 r hm).2⟩,fun r hm=>by
   have h1:=F1.out.2 r hm;have h2:D9 w3 (.agg #[.slice r.A r.n r.c,.bool r.s,.slice r.B r.m r.d]) r.L r.K 8:=h1.2;rw[h2.opn.1.len];exact h1.1⟩)
  have hty:=Kz A n c 8 20 rs w3 HRS.out.1 (by omega) hnc hcc (by decide) HRS.out.2 (by decide);clear hrl;go_wp2_with fail;refine hty.mono ?_;rintro e w5 ⟨o,hto,bt,hm⟩;have HTO:=Ac hto;have T5:=Ac (T2.out.next bt);have hrt:=OR A n c 8 20 rs w5 (HRS.out.1.below bt) (by omega) (by decide) HRS.out.2 (by decide);clear hty hto;cases o with
  |none=>
   dsimp only at hm
   subst hm;clear bt;go_wp2_with fail;refine hrt.mono ?_;rintro e w6 ⟨b6,hd⟩;have T6:=Ac (T5.out.next b6);rcases hd with ⟨rfl,-⟩|⟨out,A6,c6,ps,hk,hf,-⟩
   · have hsa:=G7 none none 0 0 0 [] [] 0 0 w6 ⟨⟨rfl,fun h=>absurd h (by decide)⟩,fun r hm=>by cases hm⟩ ⟨⟨rfl,fun h=>absurd h (by decide)⟩,fun r hm=>by cases hm⟩ rfl (fun r hm=>by cases hm) (by decide);clear hrt b6;go_wp2_with fail;refine hsa.mono ?_;rintro e w7 ⟨rfl,b7⟩;have T7:=Ac (T6.out.next b7);clear b7 hsa;go_wp2_with fail;go_ret
     exact ⟨rfl,T7.out⟩
   · exfalso;have h1:=N0 hk HTO.out;rw[hf]at h1;cases h1
  |some out=>
   obtain ⟨At,ct,ps,rfl,hps,hpd,hc1,hc2,hpl⟩:=hm;have HPS:=Ac hps;have HPD:=Ac hpd;have HPL:=Ac hpl;clear bt hps hpd hpl;generalize hon:out.length=on at *;have HON:=Ac hon;clear hon;go_wp2_with fail;refine hrt.mono ?_;rintro e w6 ⟨b6,hd⟩;have T6:=Ac (T5.out.next b6);have hkk:∀r∈rs.map RV.rd,tk r≠-1:=fun r hr e=>by
     have:=OL hr e HTO.out;cases this
   have hdt:=N0 hkk HTO.out;rcases hd with ⟨-,hd⟩|⟨out2,A6,c6,ps6,hk,hf,rfl,hps6,hpd6,hpl6⟩
   · exfalso;rcases hd with ⟨r,hr,e⟩|⟨-,hf⟩
     · exact hkk r hr e
     · rw[hf]at hdt;cases hdt
   · rw[hf]at hdt;injection hdt with hdt
     subst hdt;rw[HON.out]at hps6;rw[HON.out];have hon2:on<=1000000:=by have h9:=LA hf;have h10:=OK (rs.map RV.rd);rw[List.length_map]at h10;have:=F1.out.1;have:=HON.out;omega
     have hsa:=G7 At A6 on ct c6 ps ps6 _ _ w6 (HPS.out.below b6) hps6 (by rw[HPD.out,hpd6]) (fun r hm=>Nat.le_trans (HPL.out r hm) (by decide)) (by omega);clear hrt b6 hf hk hps6 hpd6 hpl6 hkk;go_wp2_with fail;refine hsa.mono ?_;rintro e w7 ⟨rfl,b7⟩;have T7:=Ac (T6.out.next b7);clear b7 hsa;go_wp2_with fail;go_ret
     exact ⟨rfl,T7.out⟩
end
section
open Go.ChangeShapes Go.WideShapes Go.ChangeAt Go.RowKit Go.Deep
theorem NG:Tryz.prog.cellsOf 42=4:=by kernel_rfl
section
variable {H:Type} {enc:TypeId×Value->H} {W:World} {f:Nat} {x:DataW H×List MemPlace} {cs:List Value}
theorem K8 (h:DataW.trod enc Tryz.prog W 0 (fun _=>true) true f 42 cs=some x):∃r:RV,cs=r.cells/\D9 W r.trm r.L r.K QU/\∀p∈r.L,-9223372036854775808<=p.1/\p.1<=9223372036854775807:=by
 obtain ⟨y0,y1,n,-,hl,h0,h1⟩:=trod_struct2 Tryz.underlying42 h;rw[NG]at hl;match cs,hl with
 |[v0,v1,v2,v3],_=>
  have g0:DataW.trod enc Tryz.prog W 0 (fun _=>true) true n 40 (([v0,v1,v2,v3].drop 0).take (Tryz.prog.cellsOf 40))=some y0:=h0;have g1:DataW.trod enc Tryz.prog W 0 (fun _=>true) true n 4 (([v0,v1,v2,v3].drop 3).take (Tryz.prog.cellsOf 4))=some y1:=h1;rw[LD]at g0;rw[LB]at g1;obtain ⟨A,n,c,s,B,m,d,L,K,e,hz,hb⟩:=IU g0;injection e with e1 e
  injection e with e2 e
  injection e with e3 e
  subst e1 e2 e3;obtain ⟨s1,e0,-⟩:=DataW.trod_bool Tryz.underlying4 g1;injection e0 with e0
  subst e0;exact ⟨⟨A,n,c,s,B,m,d,s1,L,K⟩,rfl,hz,hb⟩
end
end
section
open Go.ChangeShapes Go.WideShapes Go.ChangeAt Go.RowKit Go.Deep
theorem NH (ps:List RV) (j:Nat) (u:Value) (h:(AL ps)[j]?=some u):∃i p r,ps[i]?=some p/\j=4*i+r/\p.cells[r]?=some u/\r<4:=by
 induction ps generalizing j with
 |nil=>simp[AL]at h
 |cons p ps ih=>
  rw[show AL (p::ps)=p.cells++AL ps from rfl]at h;have hl:p.cells.length=4:=rfl;by_cases hj:j<4
  · rw[List.getElem?_append_left (by omega)]at h;exact ⟨0,p,j,rfl,by omega,h,hj⟩
  · rw[List.getElem?_append_right (by omega),hl]at h;obtain ⟨i,q,r,h1,h2,h3,h4⟩:=ih _ h;exact ⟨i+1,q,r,by simpa using h1,by omega,h3,h4⟩
instance rvSome:Inhabited RV:=⟨⟨none,0,0,false,none,0,0,false,[],0⟩⟩
section
variable {H:Type} {enc:TypeId×Value->H} {W:World} {f:Nat} {x:DataW H×List MemPlace}
theorem OW {v:Value} (hf:DataW.trod enc Tryz.prog W 0 (fun _=>true) true f 22 [v]=some x):∃a len cap ts,v=.slice a len cap/\EX W a len ts QU/\(∀t∈ts,∀p∈t.L,-9223372036854775808<=p.1/\p.1<=9223372036854775807)/\len<=cap/\cap<=9223372036854775807:=by
 rcases open_slice Tryz.underlying22 hf with ⟨hcs,_⟩|⟨a,len,cap,m,n,D,Pl,hcs,_,hl,hm,hmm,_,hx⟩
 · injection hcs with hcs
   subst hcs;exact ⟨none,0,0,[],rfl,⟨⟨rfl,fun h=>absurd h (by omega)⟩,fun p hp=>by cases hp⟩,(fun t ht=>by cases ht),by omega,by omega⟩
 · injection hcs with hcs
   subst hcs;unfold maxLen at hm;have hlm:len<=m:=(by rw[hmm];split<;>omega);obtain ⟨p,hp⟩:=choose_lt (α:=RV) (n:=len) (p:=fun i p=>(∀r u,p.cells[r]?=some u->W.cell? (a.add (i*4+r))=some u)/\D9 W p.trm p.L p.K QU/\∀q∈p.L,-9223372036854775808<=q.1/\q.1<=9223372036854775807) (fun i hi=>by
     obtain ⟨cs,h1,h2⟩:=hx i (by omega);rw[NG]at h1;obtain ⟨_,hlen,hcell⟩:=World.cells?_some h1;obtain ⟨q,e,hz,hb⟩:=K8 h2;subst e;refine ⟨q,fun r u hu=>?_,hz,hb⟩;have hr:r<4:=(List.getElem?_eq_some_iff.1 hu).1;rw[<-show q.cells[r]?=some u from hu,<-hcell r hr,add_add])
   have hall:∀q∈(List.range len).map p,∃i,i<len/\q=p i:=fun q hq=>by
     obtain ⟨i,hi,rfl⟩:=List.mem_map.1 hq;exact ⟨i,List.mem_range.1 hi,rfl⟩
   refine ⟨some a,len,cap,(List.range len).map p,rfl,⟨⟨by simp,fun hn=>?_⟩,fun q hq=>?_⟩,fun q hq=>?_,hl,hm⟩
   · have h0:=(hp 0 hn).1 0 _ rfl;obtain ⟨b,o,spot⟩:=a;have hspot:spot=none:=(by simpa[Addr.add] using World.cell?_spot h0);subst hspot;refine ⟨b,o,rfl,fun j u hu=>?_⟩;obtain ⟨i,q,r,h1,rfl,h3,h4⟩:=NH _ _ _ hu;have hi:i<len:=by
      have:=(List.getElem?_eq_some_iff.1 h1).1;simpa using this
     have hq:q=p i:=by rw[List.getElem?_map,List.getElem?_range hi]at h1;exact (Option.some.inj h1).symm
     subst hq;have h5:=(hp i hi).1 r u h3;rw[add_plain]at h5;rw[show 4*i+r=i*4+r by omega];exact h5
   · obtain ⟨i,hi,rfl⟩:=hall q hq;exact (hp i hi).2.1
   · obtain ⟨i,hi,rfl⟩:=hall q hq;exact (hp i hi).2.2
theorem QS {b:Nat} {v:Value} {d:DataW H} {p:List MemPlace} (hv:Value.okWide Tryz.prog W .any b 22 v)
  (h0:DataW.Trod enc Tryz.prog W 0 (fun _=>true) true 22 v d p):∃a len cap ts,v=.slice a len cap/\EX W a len ts QU/\(∀t∈ts,∀p∈t.L,-9223372036854775808<=p.1/\p.1<=9223372036854775807)/\len<=cap/\cap<=9223372036854775807:=by
 obtain ⟨a,len,cap,rfl⟩:=okWide_slice Tryz.underlying22 hv;obtain ⟨fuel,hf⟩:=h0;exact OW hf
end
end
end Go.Proofs.YtmedjkhmadfjlaaGreat
