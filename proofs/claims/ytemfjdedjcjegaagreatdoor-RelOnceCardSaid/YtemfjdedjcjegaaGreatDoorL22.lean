/- Texts of one seat, put together: Put TMove RelPut. -/
import Derived.Test.YtemfjdedjcjegaaGreatDoorL21
import Derived.Test.YtemfjdedjcjegaaGreatDoorL17
import Derived.Test.YtemfjdedjcjegaaGreatDoorL16
set_option linter.unusedVariables false
set_option linter.unusedSimpArgs false
set_option maxRecDepth 100000
set_option maxHeartbeats 16000000
namespace Go.Proofs.YtemfjdedjcjegaaGreatDoor
section
open Go.RowKit Go.Maps
open Tm
theorem QT (v u:Value) (L M:List (Int×Int)) (K KM x:Int) (k ku:Nat) (w0:World) (hv:Dw w0 v L K k) (hu:Dw w0 u M KM ku) (hx1:-9223372036854775808<=x) (hx2:x<=9223372036854775807) (hml:M.length<=1000) (hl:L.length<=1000) (hrg:∀p∈L,p.1<=9223372036854775807) (hk:k<=100000000) (hku:ku<=100000000) :
  Calls Tryz.prog 46 #[v,.int .i64 x,u] w0 (Bm (norm (DY [x] [(M,KM)] (norm L))) (K+Dq [x] [(M,KM)] (norm L)) (k+ku+1010000) w0):=by
 have hv0:=hv;have hu0:=hu;obtain ⟨A,n,c,s,B,m,d,rfl,-⟩:=hv;obtain ⟨A2,n2,c2,s2,B2,m2,d2,rfl,-⟩:=hu;obtain ⟨z0,z1,z2,z3,z4⟩:=BQ 33 33 33 w0 #[.slice A n c,.bool s,.slice B m d] #[.slice A2 n2 c2,.bool s2,.slice B2 m2 d2] #[.slice none 0 0,.bool false,.slice none 0 0];have x0:=z0.c0;have x1:=z0.c1;have x2:=z0.c2;have y0:=z1.c0;have y1:=z1.c1;have y2:=z1.c2;go_enter Tryz.func46,Tryz.ntmps46
 generalize hW:(((w0.alloc (.cells #[.slice A n c,.bool s,.slice B m d] 33)).alloc (.cells #[.slice A2 n2 c2,.bool s2,.slice B2 m2 d2] 33)).alloc (.cells #[.slice none 0 0,.bool false,.slice none 0 0] 33))=W0 at z0 z1 z2 z3 z4;have a1:=Ae W0 (.cells #[.int .i64 x] 3);have a2:=Ae (W0.alloc (.cells #[.int .i64 x] 3)) (.cells #[.slice A2 n2 c2,.bool s2,.slice B2 m2 d2] 33)
 have hvi:EX ((W0.alloc (.cells #[.int .i64 x] 3)).alloc (.cells #[.slice A2 n2 c2,.bool s2,.slice B2 m2 d2] 33)) (some ⟨W0.heap.size,0,none⟩) 1 [x]:=
  EX.below (w:=W0.alloc (.cells #[.int .i64 x] 3)) ⟨rfl,fun _=>⟨W0.heap.size,0,rfl,fun j u hu=>by rw[Nat.zero_add];exact (Aw.new 3 W0 #[.int .i64 x]).cell j u (by simpa[ints] using hu)⟩⟩ a2
 have hbt:=Aw.new 33 (W0.alloc (.cells #[.int .i64 x] 3)) #[.slice A2 n2 c2,.bool s2,.slice B2 m2 d2];rw[size_alloc]at hbt;have hti:=Ce.box (T:=33) (k:=ku) (ts:=[⟨A2,n2,c2,s2,B2,m2,d2,M,KM⟩]) hbt (fun t ht=>by simp at ht;subst ht;exact (((hu0.below z3).below a1).below a2))
 have hpa:=GX _ L K k (some ⟨W0.heap.size,0,none⟩) 1 1 [x] (some ⟨W0.heap.size+1,0,none⟩) 1 1 [⟨A2,n2,c2,s2,B2,m2,d2,M,KM⟩] ku _ (((hv0.below z3).below a1).below a2) hvi (by omega) (fun y hy=>by simp at hy;subst hy;exact ⟨hx1,hx2⟩) hti (by omega) (fun t ht=>by simp at ht;subst ht;exact hml) hl hrg hk hku;have HT:=Ad ((z3.next a1).next a2);have HR:=Ad ((z2.next a1).next a2);clear hv0 hu0 z0 z1 z2 z3 a1 a2 hvi hbt hti hrg;subst hW;simp only[size_alloc]at hpa;go_wp2_with fail
 refine hpa.mono ?_;rintro e w1 ⟨v1,rfl,r1,b1⟩;obtain ⟨A3,n3,c3,s3,B3,m3,d3,rfl⟩:=r1.form;have k1:=HR.out.next b1;go_wp2_with (with_reducible refine AO rfl _ _ rfl (w0.heap.size+1+1) _ _ _ _ _ _ _ rfl rfl _ _ _ k1 ?_;intro w7 k7 ho7);refine Bw rfl rfl k7 rfl ?_;exact ⟨_,rfl,r1.only k1 ho7,AH (HT.out.next b1) (by omega) ho7⟩
def Uh (L:List (Int×Int)) (x:Int):List (Int×Int):=L.filter fun p=>decide (p.1≠x)
end
section
open Go.RowKit
open Tm
def G0 (n:Int):Int:=if n < -2147483648 then -2147483648 else if 2147483647<n then 2147483647 else n
theorem Mf (n:Int):-2147483648<=G0 n/\G0 n<=2147483647:=by unfold G0;split<;>(try split)<;>omega
def ER (sh:Int) (L:List (Int×Int)):List (Int×Int):=(L.filter fun p=>decide (0<=p.1+sh/\p.1+sh<=2147483647)).map fun p=>(p.1+sh,p.2)
theorem Nv (sh:Int) (L:List (Int×Int)) (q:Nat) (u c:Int) (h:L[q]?=some (u,c)):ER sh (L.take (q+1))=ER sh (L.take q)++(if 0<=u+sh/\u+sh<=2147483647 then [(u+sh,c)] else []):=by unfold ER;rw[List.take_add_one,h,List.filter_append,List.map_append];by_cases hx:0<=u+sh/\u+sh<=2147483647<;>simp[hx]
theorem Pm (v:Value) (L:List (Int×Int)) (K x:Int) (k:Nat) (w0:World) (hv:Dw w0 v L K k) (hx1:-9223372036854775808<=x) (hx2:x<=9223372036854775807) (hl:L.length<=1000) (hrg:∀p∈L,p.1<=9223372036854775807) (hk:k<=100000000) :
  Calls Tryz.prog 49 #[v,.int .i64 x] w0 (Bm (norm (ER (G0 x) (norm L))) K (k+1010000) w0):=by
 obtain ⟨A,n,c,s,B,m,d,rfl,hp,hc1,hc2,hK⟩:=hv;have hn:=hp.len;obtain ⟨z0,z1,z2,z3,z4⟩:=BQ 33 33 33 w0 #[.slice A n c,.bool s,.slice B m d] #[.slice none 0 0,.bool false,.slice none 0 0] #[.slice none 0 0,.bool s,.slice B m d];have y1:=(Aw.new 33 w0 #[.slice A n c,.bool s,.slice B m d]).alloc (.cells #[.slice none 0 0,.bool false,.slice none 0 0] 33);have x1:=y1.c1;have x2:=y1.c2;have x0:=z0.c0;have hpl:=CL A n c L k _ (hp.below z3) hc1 hc2 (by omega) (by omega);have hsh:=Mf x
 obtain ⟨sh,hs⟩:∃sh,sh=G0 x:=⟨_,rfl⟩;rw[<-hs]at hsh ⊢;have HK:=Ad (hK.below z3);have HR:=Ad z1;have HB:=Ad z2;have HT:=Ad z3;have HRG:=Ad (IQ hrg);have HNL:=Ad (AR L);clear z0 z1 z2 z3 z4 y1 hp hK hrg;have hmm:min (max x (-2147483648)) 2147483647=sh:=by rw[hs];unfold G0;split<;>(try split)<;>omega
 clear hs;rw[hn]at hl;have HN:=Ad hn;clear hn;go_enter Tryz.func49,Tryz.ntmps49;go_wp2_with fail;refine hpl.mono ?_;rintro e W2 ⟨A1,n1,c1,rfl,p1,h11,h12,b1⟩;have hn1:n1<=1000:=by have:=p1.len;have:=HNL.out;have:=HN.out;omega
 have HP1:=Ad p1;have HR2:=Ad (HR.out.next b1);have HB2:=Ad (HB.out.next b1);have HT2:=Ad (HT.out.next b1);have HT2S:=Ad HT2.out.size;have hw2:=Ad (Aw.lt HB2.out);have HS:=Ad (show Fv W2 (w0.heap.size+1+1) (ER sh ((norm L).take 0)) K (k+n) 0 W2 from
  ⟨[],none,0,s,B,m,d,HB2.out,Az.nil _ _ _ _,fun v=>rfl,fun p hp=>by simp at hp,(HK.out.below b1).mono (by omega),Ao.refl _ _,Nat.le_refl _⟩)
 clear x0 x1 x2 hpl p1 b1;go_wp2_with fail;clear hmm;go_loopw [20] (fun i wr=>∃q:Nat,q<=n1/\i=.int .i64 q/\Hid (Fv W2 (w0.heap.size+1+1) (ER sh ((norm L).take q)) K (k+n) q wr)) (fun i _=>n1-(intOf i).toNat)
 case atStart=>exact ⟨0,Nat.zero_le _,rfl,HS⟩
 case round=>
  obtain ⟨q,hq,rfl,HR⟩:=hrel;obtain ⟨rs,A4,c4,s4,B4,m4,d4,xg,lr,hco,hrz,zK,oW,hrl⟩:=HR.out;have hT:Below w0.heap.size w0 wr:=HT2.out.trans (oW.below HT2.out.size (by omega));by_cases hqn:q<n1
  · obtain ⟨bb,o,p,rfl,hlt,hLp,c0,c1x,c2,hz⟩:=(HP1.out.keep oW (HB2.out.kp (QB _ _ _ _ _ _ _) oW) (HP1.out.offTerm HB2.out)).at_ hqn;have hpv:=HRG.out _ (List.mem_of_getElem? hLp);dsimp only at hpv
    have HMT:=Ad (Nv sh (norm L) q _ _ hLp);have hw1:IntKind.i64.wrap (-sh)=-sh:=IntWalk.i64_in _ (by omega);have hw2':IntKind.i64.wrap (2147483647-sh)=2147483647-sh:=IntWalk.i64_in _ (by omega);have XG:=Ad xg;have LR:=Ad lr;have HRZ:=Ad hrz;have ZK:=Ad zK;have OW:=Ad oW;have HZ:=Ad hz;have HCO:=Ad hco;have HRL:=Ad hrl;by_cases hin:0<=p.v+sh/\p.v+sh<=2147483647
    · have hw3:IntKind.i64.wrap (p.v+sh)=p.v+sh:=IntWalk.i64_in _ (by omega);have hi1:-sh<=p.v:=(by omega);have hi2:p.v<=2147483647-sh:=(by omega);obtain ⟨p2,hp2⟩:∃p2:PV,p2=⟨p.v+sh,p.s,p.B,p.m,p.d,p.Z⟩:=⟨_,rfl⟩;have hle:rs.length+1<=1099511627776:=(by omega)
      have HE:=Ad (show ∀(w2:World) A2 c2,Aw 33 w2 (w0.heap.size+1+1) #[.slice A2 (rs++[p2]).length c2,.bool s4,.slice B4 m4 d4]->Az 59 3 w2 W2.heap.size (.slice A2 (rs++[p2]).length c2) (rs++[p2]).length (flat (rs++[p2]))->(∀p'∈rs++[p2],BF w2 p'.num p'.Z (k+n))->BF w2 (.agg #[.bool s4,.slice B4 m4 d4]) K (k+n+q)->Ao (w0.heap.size+1+1) W2 w2->Fv W2 (w0.heap.size+1+1) (ER sh ((norm L).take (q+1))) K (k+n) (q+1) w2 from fun w2 A2 c2 a1 a2 a3 a4 a5=>⟨rs++[p2],A2,c2,s4,B4,m4,d4,a1,a2,fun v=>by rw[HMT.out,if_pos hin,Bi,Bb,Bb,HCO.out,hp2];simp[Ca,PV.part],a3,a4.mono (by omega),a5,by have:=HRL.out;simp;omega⟩)
      have hsz:W2.heap.size<=((wr.alloc (.cells #[.int .i64 p.v,.bool p.s,.slice p.B p.m p.d] 59)).alloc (.cells #[.int .i64 (p.v+sh),.bool p.s,.slice p.B p.m p.d] 59)).heap.size:=(by rw[size_alloc (w:=wr.alloc _),size_alloc];have:=oW.size;omega);have gx0:=xg.c0;have gx1:=(xg.next (Ae wr (.cells #[.int .i64 p.v,.bool p.s,.slice p.B p.m p.d] 59))).c0;clear hco hrz zK oW hz hT HR hLp xg lr hrl;subst hp2
      go_wp2_with (at_builtin;refine AQ rfl _ _ rfl W2.heap.size _ rs rfl ((LR.out.below (Ae _ _)).below (Ae _ _)) _ 0 1 1 [⟨p.v+sh,p.s,p.B,p.m,p.d,p.Z⟩] rfl rfl (DV _ (⟨p.v+sh,p.s,p.B,p.m,p.d,p.Z⟩:PV) _ (by rw[size_alloc])) hle hsz ?_;intro v2 w2 l2 g2;obtain ⟨A2,c2,rfl,xA,kA,oA,xB,lB,kB,oB⟩:=Hx ((XG.out.next (Ae _ _)).next (Ae _ _)) ((LR.out.below (Ae _ _)).below (Ae _ _)) ((OW.out.next (Ae _ _)).next (Ae _ _)) l2 g2;have u0:=xA.c0;have u1:=xA.fr 0;have HE1:=Ad (HE.out _ A2 c2 xB lB (fun p' hp'=>by
         rcases List.mem_append.1 hp' with hp'|hp'
         · exact (((HRZ.out p' hp').below (Ae _ _)).below (Ae _ _)).kp kB
         · simp at hp';subst hp';exact (((HZ.out.mono (by omega)).below (Ae _ _)).below (Ae _ _)).kp kB) (((ZK.out.below (Ae _ _)).below (Ae _ _)).kp kB) oB);clear xA kA oA xB lB kB oB l2 g2)
      clear u0 u1 gx0 gx1;simp only[List.length_append,List.length_cons,List.length_nil,Nat.zero_add]at HE1;go_roundw
      case rel=>exact ⟨q+1,by omega,by go_num,HE1⟩
      case measure=>simp[intOf]<;>omega
    · have HE1:=Ad (show Fv W2 (w0.heap.size+1+1) (ER sh ((norm L).take (q+1))) K (k+n) (q+1) (wr.alloc (.cells #[.int .i64 p.v,.bool p.s,.slice p.B p.m p.d] 59)) from
        ⟨rs,A4,c4,s4,B4,m4,d4,xg.next (Ae _ _),lr.below (Ae _ _),fun v=>by rw[HMT.out,if_neg hin,List.append_nil,HCO.out],fun p' hp'=>(hrz p' hp').below (Ae _ _),(zK.below (Ae _ _)).mono (by omega),oW.next (Ae _ _),by omega⟩)
      clear hco hrz zK oW hz hT HR hLp xg lr hrl;by_cases hi1:-sh<=p.v
      · have hi2:¬p.v<=2147483647-sh:=(by omega);go_wp2_with fail;go_roundw
        case rel=>exact ⟨q+1,by omega,by go_num,HE1⟩
        case measure=>simp[intOf]<;>omega
      · go_wp2_with fail;go_roundw
        case rel=>exact ⟨q+1,by omega,by go_num,HE1⟩
        case measure=>simp[intOf]<;>omega
  · obtain rfl:q=n1:=(by omega);have hall:=List.take_of_length_le (l:=norm L) (i:=q) (by rw[HP1.out.len];exact Nat.le_refl _);rw[hall]at hco;have hin:EP wr A4 rs.length (Ca rs) (k+n+q):=⟨rs,lr.parts rfl (fun p hp=>(hrz p hp).mono (by omega)),rfl⟩;obtain ⟨A',c',hv',h41,h42,-⟩:=lr.len;injection hv' with e1' e2' e3'
    subst e1' e3';have hpl:=Dh (.agg #[.slice A4 rs.length c4,.bool s4,.slice B4 m4 d4]) (Ca rs) K (k+n+q) wr ⟨A4,rs.length,c4,s4,B4,m4,d4,rfl,hin,h41,h42,zK⟩ (by rw[hin.len];omega) (by omega);have HLN:=Ad hin.len;have HN2:=Ad (show norm (Ca rs)=norm (ER sh (norm L)) from GE hco);have hR:Aw 33 wr (w0.heap.size+1) #[.slice none 0 0,.bool false,.slice none 0 0]:=HR2.out.other oW (by omega);have x0:=xg.c0;have x1:=xg.c1;have x2:=xg.c2;have HTT:=Ad hT;have HRR:=Ad hR
    clear hall hin hco zK hrz lr xg oW HR hT hR;go_wp2_with fail;refine hpl.mono ?_;rintro e w5 ⟨v5,rfl,r5,b5⟩;obtain ⟨A5,n5,c5,s5,B5,m5,d5,rfl⟩:=r5.form;have k5:=HRR.out.next b5;go_wp2_with (with_reducible refine AO rfl _ _ rfl (w0.heap.size+1) _ _ _ _ _ _ _ rfl rfl _ _ _ k5 ?_;intro w7 k7 ho7);refine Bw rfl rfl k7 rfl ?_;refine Bm.mono ⟨_,rfl,?_,AH (HTT.out.next b5) (by omega) ho7⟩ (show k+n+q+(Ca rs).length<=_ by have:=HLN.out;omega);rw[<-HN2.out];exact r5.only k5 ho7
end
section
open Go.RowKit Go.Maps
open Tm
theorem Mg (v:Value) (L:List (Int×Int)) (K x:Int) (fl:Bool) (k:Nat) (w0:World) (hv:JW w0 v L K fl k) (hx1:-9223372036854775808<=x) (hx2:x<=9223372036854775807) (hle:L.length<=1000) (hrg:∀p∈L,p.1<=9223372036854775807) (hk:k<=100000000) :
   Calls Tryz.prog 25 #[v,.int .i64 x] w0 (LP (norm (ER (G0 x) (norm L))) K fl (k+1010000) w0):=by
 obtain ⟨A,n,c,s,B,m,d,rfl,ht⟩:=hv;obtain ⟨z0,z1,z2,-⟩:=Bh 35 35 w0 #[.slice A n c,.bool s,.slice B m d,.bool fl] #[.slice none 0 0,.bool false,.slice none 0 0,.bool false];go_enter Tryz.func25,Tryz.ntmps25;go_upto_region 1 with fail;generalize hW:((w0.alloc (.cells #[.slice A n c,.bool s,.slice B m d,.bool fl] 35)).alloc (.cells #[.slice none 0 0,.bool false,.slice none 0 0,.bool false] 35))=W0 at *;clear hW;have HX:=Ad z0;have HR8:=Ad z1;have HT8:=Ad z2
 have HV:=Ad (ht.below z2);have SOF:=Ad (show ∀W,Below W0.heap.size W0 W->(W.cell? ⟨w0.heap.size,0,none⟩=some (.slice A n c)/\W.cell? ⟨w0.heap.size,1,none⟩=some (.bool s)/\W.cell? ⟨w0.heap.size,2,none⟩=some (.slice B m d)/\W.cell? ⟨w0.heap.size,3,none⟩=some (.bool fl)) from fun W h=>⟨(HX.out.next h).r0,(HX.out.next h).r1,(HX.out.next h).r2,(HX.out.next h).r3⟩);clear z0 z1 z2 ht
 refine AJ (by kernel_rfl) (by kernel_rfl) (by kernel_rfl) (by kernel_rfl) (fun w w'=>Below w.heap.size w w') (fun j v w=>match j with|0=>v=.pointer (some ⟨w0.heap.size,0,none⟩)|1=>v=.agg #[.slice A n c,.bool s,.slice B m d]|2=>v=.int .i64 x|3=>An w v (norm (ER (G0 x) (norm L))) K (k+1010000)|4=>v=.pointer (some ⟨w0.heap.size,3,none⟩)|5=>v=.bool fl|6=>BO w v (norm (ER (G0 x) (norm L))) K fl (k+1010000)|_=>True) (fun _ _ w=>Below W0.heap.size W0 w) ?_ (fun _=>Ak W0 1) ?_ ?_
 · intro j v w w' hT h;match j,h with
   |0,h=>exact h
   |1,h=>exact h
   |2,h=>exact h
   |3,h=>exact h.below hT
   |4,h=>exact h
   |5,h=>exact h
   |6,h=>exact h.below hT
   |j+7,h=>trivial
 · refine ⟨?_,?_,?_,?_,?_,?_,?_,trivial⟩
   · intro listed σ w a hin hout hl hla hs hc hp hG hF;refine Ac.none rfl ?_;have e2:a.tmps.getD 2 undef=.pointer (some ⟨w0.heap.size,0,none⟩):=hout 2 (Af (by kernel_rfl));refine Does.val (.pointer (some ⟨w0.heap.size,0,none⟩)) (w':=w) ?_ ⟨Below.refl _ _,rfl,hG⟩;simp only[Array.getD_eq_getD_getElem?]at e2;go_simp
   · intro listed σ w a hin hout hl hla hs hc hp hG hF;refine Ac.none rfl ?_;have e5:a.tmps.getD 5 undef=.pointer (some ⟨w0.heap.size,0,none⟩):=(hin 0 5 rfl (hp ⟨0,.data⟩ (by simp) rfl)).trans (hF 0 (hp ⟨0,.data⟩ (by simp) rfl));have CC:=SOF.out w hG;obtain ⟨C0,C1,C2,C3⟩:=CC;refine Does.val (.agg #[.slice A n c,.bool s,.slice B m d]) (w':=w) ?_ ⟨Below.refl _ _,rfl,hG⟩;go_simp
   · intro listed σ w a hin hout hl hla hs hc hp hG hF;refine Ac.none rfl ?_;have e1:a.tmps.getD 1 undef=.int .i64 x:=hout 1 (Af (by kernel_rfl));refine Does.val (.int .i64 x) (w':=w) ?_ ⟨Below.refl _ _,rfl,hG⟩;simp only[Array.getD_eq_getD_getElem?]at e1;go_simp
   · intro listed σ w a hin hout hl hla hs hc hp hG hF;refine Ac.none rfl ?_;have e6:a.tmps.getD 6 undef=.agg #[.slice A n c,.bool s,.slice B m d]:=(hin 1 6 rfl (hp ⟨1,.data⟩ (by simp) rfl)).trans (hF 1 (hp ⟨1,.data⟩ (by simp) rfl));have e7:a.tmps.getD 7 undef=.int .i64 x:=(hin 2 7 rfl (hp ⟨2,.data⟩ (by simp) rfl)).trans (hF 2 (hp ⟨2,.data⟩ (by simp) rfl));refine Does.call ?_ (Pm _ L K x k w (HV.out.below hG) hx1 hx2 hle hrg hk) ?_
     · go_simp
     · rintro e w' ⟨v,rfl,z,hb⟩;exact ⟨_,rfl,hb,z,hG.next hb⟩
   · intro listed σ w a hin hout hl hla hs hc hp hG hF;refine Ac.none rfl ?_;have e2:a.tmps.getD 2 undef=.pointer (some ⟨w0.heap.size,0,none⟩):=hout 2 (Af (by kernel_rfl));refine Does.val (.pointer (some ⟨w0.heap.size,3,none⟩)) (w':=w) ?_ ⟨Below.refl _ _,rfl,hG⟩;simp only[Array.getD_eq_getD_getElem?]at e2;go_simp
   · intro listed σ w a hin hout hl hla hs hc hp hG hF;refine Ac.none rfl ?_;have e9:a.tmps.getD 9 undef=.pointer (some ⟨w0.heap.size,3,none⟩):=(hin 4 9 rfl (hp ⟨4,.data⟩ (by simp) rfl)).trans (hF 4 (hp ⟨4,.data⟩ (by simp) rfl));have CC:=SOF.out w hG;obtain ⟨C0,C1,C2,C3⟩:=CC;refine Does.val (.bool fl) (w':=w) ?_ ⟨Below.refl _ _,rfl,hG⟩;go_simp
   · intro listed σ w a hin hout hl hla hs hc hp hG hF;refine Ac.none rfl ?_;have e8:=hin 3 8 rfl (hp ⟨3,.data⟩ (by simp) rfl);have z3:=hF 3 (hp ⟨3,.data⟩ (by simp) rfl);have e10:a.tmps.getD 10 undef=.bool fl:=(hin 5 10 rfl (hp ⟨5,.data⟩ (by simp) rfl)).trans (hF 5 (hp ⟨5,.data⟩ (by simp) rfl));obtain ⟨A7,n7,c7,s7,B7,m7,d7,ev7⟩:=An.form z3;rw[ev7]at e8 z3
     refine Does.val (.agg #[.slice A7 n7 c7,.bool s7,.slice B7 m7 d7,.bool fl]) (w':=w) ?_ ⟨Below.refl _ _,⟨A7,n7,c7,s7,B7,m7,d7,rfl,z3⟩,hG⟩;simp only[Array.getD_eq_getD_getElem?]at e8 e10;go_simp
 · intro o ho;injection ho with ho;subst ho
   intro listed σ w a hall hin hout hG hF;refine Ac.none rfl ?_;have e4:a.tmps.getD 4 undef=.pointer (some ⟨w0.heap.size+1,0,none⟩):=hout 4 (LC (by kernel_rfl));have e11:=hin 6 11 rfl (by decide);have z6:=hF 6 (by decide);obtain ⟨A8,n8,c8,s8,B8,m8,d8,ev8,t8⟩:=z6;rw[ev8]at e11;refine Does.store_box (T:=35) (cells:=#[.slice A8 n8 c8,.bool s8,.slice B8 m8 d8,.bool fl]) rfl e4 e11 (HR8.out.next hG) (by kernel_rfl) rfl (by simp[Value.oneCell']) (fun w2 x9 o9=>?_)
   rw[show fin _ σ undef _=(Act.put (Act.put (Act.put (Act.put (Act.put (Act.put (Act.put (Act.put _ (some 5) (σ 0)) (some 6) (σ 1)) (some 7) (σ 2)) (some 8) (σ 3)) (some 9) (σ 4)) (some 10) (σ 5)) (some 11) (σ 6)) none undef) from (Bn hall).trans rfl];simp only[Act.put,List.setIfInBounds_toArray,List.set_cons_zero,List.set_cons_succ];have HZ8:=Ad (t8.onlyR (HR8.out.next hG) o9);have HO:=Ad (AH (HT8.out.next hG) (by omega) o9)
   generalize σ 0=tt0 at *;generalize σ 1=tt1 at *;generalize σ 2=tt2 at *;generalize σ 3=tt3 at *;generalize σ 4=tt4 at *;generalize σ 5=tt5 at *;generalize σ 6=tt6 at *;clear hF hG hall hin hout SOF t8 o9 e4 e11 ev8;go_wp2_with fail;refine DX rfl rfl x9 rfl ?_;exact ⟨_,rfl,⟨_,_,_,_,_,_,_,rfl,HZ8.out⟩,HO.out⟩
theorem Nw (v u:Value) (L M:List (Int×Int)) (K KM x:Int) (fl:Bool) (k ku:Nat) (w0:World) (hv:JW w0 v L K fl k) (hu:Dw w0 u M KM ku) (hx1:-9223372036854775808<=x) (hx2:x<=9223372036854775807) (hml:M.length<=1000) (hle:L.length<=1000) (hrg:∀p∈L,p.1<=9223372036854775807) (hk:k<=100000000) (hku:ku<=100000000) :
   Calls Tryz.prog 22 #[v,.int .i64 x,u] w0 (LP (norm (DY [x] [(M,KM)] (norm L))) (K+Dq [x] [(M,KM)] (norm L)) fl (k+ku+1010000) w0):=by
 have hu0:=hu;obtain ⟨A,n,c,s,B,m,d,rfl,ht⟩:=hv;obtain ⟨A2,n2,c2,s2,B2,m2,d2,rfl,-⟩:=hu;obtain ⟨z0,zu,z1,z2,-⟩:=BQ 35 33 35 w0 #[.slice A n c,.bool s,.slice B m d,.bool fl] #[.slice A2 n2 c2,.bool s2,.slice B2 m2 d2] #[.slice none 0 0,.bool false,.slice none 0 0,.bool false];go_enter Tryz.func22,Tryz.ntmps22;go_upto_region 1 with fail
 generalize hW:(((w0.alloc (.cells #[.slice A n c,.bool s,.slice B m d,.bool fl] 35)).alloc (.cells #[.slice A2 n2 c2,.bool s2,.slice B2 m2 d2] 33)).alloc (.cells #[.slice none 0 0,.bool false,.slice none 0 0,.bool false] 35))=W0 at *;clear hW;have HX:=Ad z0;have HXU:=Ad zu;have HR8:=Ad z1;have HT8:=Ad z2;have HV:=Ad (ht.below z2);have HU:=Ad (hu0.below z2)
 have SOF:=Ad (show ∀W,Below W0.heap.size W0 W->(W.cell? ⟨w0.heap.size,0,none⟩=some (.slice A n c)/\W.cell? ⟨w0.heap.size,1,none⟩=some (.bool s)/\W.cell? ⟨w0.heap.size,2,none⟩=some (.slice B m d)/\W.cell? ⟨w0.heap.size,3,none⟩=some (.bool fl)/\W.cell? ⟨w0.heap.size+1,0,none⟩=some (.slice A2 n2 c2)/\W.cell? ⟨w0.heap.size+1,1,none⟩=some (.bool s2)/\W.cell? ⟨w0.heap.size+1,2,none⟩=some (.slice B2 m2 d2)) from fun W h=>⟨(HX.out.next h).r0,(HX.out.next h).r1,(HX.out.next h).r2,(HX.out.next h).r3,(HXU.out.next h).c0,(HXU.out.next h).c1,(HXU.out.next h).c2⟩)
 clear z0 zu z1 z2 ht hu0
 refine AJ (by kernel_rfl) (by kernel_rfl) (by kernel_rfl) (by kernel_rfl) (fun w w'=>Below w.heap.size w w') (fun j v w=>match j with|0=>v=.pointer (some ⟨w0.heap.size,0,none⟩)|1=>v=.agg #[.slice A n c,.bool s,.slice B m d]|2=>v=.int .i64 x|3=>v=.agg #[.slice A2 n2 c2,.bool s2,.slice B2 m2 d2]|4=>An w v (norm (DY [x] [(M,KM)] (norm L))) (K+Dq [x] [(M,KM)] (norm L)) (k+ku+1010000)|5=>v=.pointer (some ⟨w0.heap.size,3,none⟩)|6=>v=.bool fl|7=>BO w v (norm (DY [x] [(M,KM)] (norm L))) (K+Dq [x] [(M,KM)] (norm L)) fl (k+ku+1010000)|_=>True) (fun _ _ w=>Below W0.heap.size W0 w) ?_ (fun _=>Ak W0 1) ?_ ?_
 · intro j v w w' hT h;match j,h with
   |0,h=>exact h
   |1,h=>exact h
   |2,h=>exact h
   |3,h=>exact h
   |4,h=>exact h.below hT
   |5,h=>exact h
   |6,h=>exact h
   |7,h=>exact h.below hT
   |j+8,h=>trivial
 · refine ⟨?_,?_,?_,?_,?_,?_,?_,?_,trivial⟩
   · intro listed σ w a hin hout hl hla hs hc hp hG hF;refine Ac.none rfl ?_;have e3:a.tmps.getD 3 undef=.pointer (some ⟨w0.heap.size,0,none⟩):=hout 3 (Af (by kernel_rfl));refine Does.val (.pointer (some ⟨w0.heap.size,0,none⟩)) (w':=w) ?_ ⟨Below.refl _ _,rfl,hG⟩;simp only[Array.getD_eq_getD_getElem?]at e3;go_simp
   · intro listed σ w a hin hout hl hla hs hc hp hG hF;refine Ac.none rfl ?_;have e7:a.tmps.getD 7 undef=.pointer (some ⟨w0.heap.size,0,none⟩):=(hin 0 7 rfl (hp ⟨0,.data⟩ (by simp) rfl)).trans (hF 0 (hp ⟨0,.data⟩ (by simp) rfl));have CC:=SOF.out w hG;obtain ⟨C0,C1,C2,C3,D0,D1,D2⟩:=CC;refine Does.val (.agg #[.slice A n c,.bool s,.slice B m d]) (w':=w) ?_ ⟨Below.refl _ _,rfl,hG⟩;go_simp
   · intro listed σ w a hin hout hl hla hs hc hp hG hF;refine Ac.none rfl ?_;have e1:a.tmps.getD 1 undef=.int .i64 x:=hout 1 (Af (by kernel_rfl));refine Does.val (.int .i64 x) (w':=w) ?_ ⟨Below.refl _ _,rfl,hG⟩;simp only[Array.getD_eq_getD_getElem?]at e1;go_simp
   · intro listed σ w a hin hout hl hla hs hc hp hG hF;refine Ac.none rfl ?_;have e5:a.tmps.getD 5 undef=.pointer (some ⟨w0.heap.size+1,0,none⟩):=hout 5 (Af (by kernel_rfl));have CC:=SOF.out w hG;obtain ⟨C0,C1,C2,C3,D0,D1,D2⟩:=CC;refine Does.val (.agg #[.slice A2 n2 c2,.bool s2,.slice B2 m2 d2]) (w':=w) ?_ ⟨Below.refl _ _,rfl,hG⟩;go_simp
   · intro listed σ w a hin hout hl hla hs hc hp hG hF;refine Ac.none rfl ?_;have e8:a.tmps.getD 8 undef=.agg #[.slice A n c,.bool s,.slice B m d]:=(hin 1 8 rfl (hp ⟨1,.data⟩ (by simp) rfl)).trans (hF 1 (hp ⟨1,.data⟩ (by simp) rfl));have e9:a.tmps.getD 9 undef=.int .i64 x:=(hin 2 9 rfl (hp ⟨2,.data⟩ (by simp) rfl)).trans (hF 2 (hp ⟨2,.data⟩ (by simp) rfl))
     have e10:a.tmps.getD 10 undef=.agg #[.slice A2 n2 c2,.bool s2,.slice B2 m2 d2]:=(hin 3 10 rfl (hp ⟨3,.data⟩ (by simp) rfl)).trans (hF 3 (hp ⟨3,.data⟩ (by simp) rfl));refine Does.call ?_ (QT _ _ L M K KM x k ku w (HV.out.below hG) (HU.out.below hG) hx1 hx2 hml hle hrg hk hku) ?_
     · go_simp
     · rintro e w' ⟨v,rfl,z,hb⟩;exact ⟨_,rfl,hb,z,hG.next hb⟩
   · intro listed σ w a hin hout hl hla hs hc hp hG hF;refine Ac.none rfl ?_;have e3:a.tmps.getD 3 undef=.pointer (some ⟨w0.heap.size,0,none⟩):=hout 3 (Af (by kernel_rfl));refine Does.val (.pointer (some ⟨w0.heap.size,3,none⟩)) (w':=w) ?_ ⟨Below.refl _ _,rfl,hG⟩;simp only[Array.getD_eq_getD_getElem?]at e3;go_simp
   · intro listed σ w a hin hout hl hla hs hc hp hG hF;refine Ac.none rfl ?_;have e12:a.tmps.getD 12 undef=.pointer (some ⟨w0.heap.size,3,none⟩):=(hin 5 12 rfl (hp ⟨5,.data⟩ (by simp) rfl)).trans (hF 5 (hp ⟨5,.data⟩ (by simp) rfl));have CC:=SOF.out w hG;obtain ⟨C0,C1,C2,C3,D0,D1,D2⟩:=CC;refine Does.val (.bool fl) (w':=w) ?_ ⟨Below.refl _ _,rfl,hG⟩;go_simp
   · intro listed σ w a hin hout hl hla hs hc hp hG hF;refine Ac.none rfl ?_;have e11:=hin 4 11 rfl (hp ⟨4,.data⟩ (by simp) rfl);have z4:=hF 4 (hp ⟨4,.data⟩ (by simp) rfl);have e13:a.tmps.getD 13 undef=.bool fl:=(hin 6 13 rfl (hp ⟨6,.data⟩ (by simp) rfl)).trans (hF 6 (hp ⟨6,.data⟩ (by simp) rfl));obtain ⟨A7,n7,c7,s7,B7,m7,d7,ev7⟩:=An.form z4;rw[ev7]at e11 z4
     refine Does.val (.agg #[.slice A7 n7 c7,.bool s7,.slice B7 m7 d7,.bool fl]) (w':=w) ?_ ⟨Below.refl _ _,⟨A7,n7,c7,s7,B7,m7,d7,rfl,z4⟩,hG⟩;simp only[Array.getD_eq_getD_getElem?]at e11 e13;go_simp
 · intro o ho;injection ho with ho;subst ho
   intro listed σ w a hall hin hout hG hF;refine Ac.none rfl ?_;have e6:a.tmps.getD 6 undef=.pointer (some ⟨w0.heap.size+1+1,0,none⟩):=hout 6 (LC (by kernel_rfl));have e14:=hin 7 14 rfl (by decide);have z7:=hF 7 (by decide);obtain ⟨A8,n8,c8,s8,B8,m8,d8,ev8,t8⟩:=z7;rw[ev8]at e14;refine Does.store_box (T:=35) (cells:=#[.slice A8 n8 c8,.bool s8,.slice B8 m8 d8,.bool fl]) rfl e6 e14 (HR8.out.next hG) (by kernel_rfl) rfl (by simp[Value.oneCell']) (fun w2 x9 o9=>?_)
   rw[show fin _ σ undef _=(Act.put (Act.put (Act.put (Act.put (Act.put (Act.put (Act.put (Act.put (Act.put _ (some 7) (σ 0)) (some 8) (σ 1)) (some 9) (σ 2)) (some 10) (σ 3)) (some 11) (σ 4)) (some 12) (σ 5)) (some 13) (σ 6)) (some 14) (σ 7)) none undef) from (Bn hall).trans rfl];simp only[Act.put,List.setIfInBounds_toArray,List.set_cons_zero,List.set_cons_succ];have HZ8:=Ad (t8.onlyR (HR8.out.next hG) o9);have HO:=Ad (AH (HT8.out.next hG) (by omega) o9)
   generalize σ 0=tt0 at *;generalize σ 1=tt1 at *;generalize σ 2=tt2 at *;generalize σ 3=tt3 at *;generalize σ 4=tt4 at *;generalize σ 5=tt5 at *;generalize σ 6=tt6 at *;generalize σ 7=tt7 at *;clear hF hG hall hin hout SOF t8 o9 e6 e14 ev8;go_wp2_with fail;refine DX rfl rfl x9 rfl ?_;exact ⟨_,rfl,⟨_,_,_,_,_,_,_,rfl,HZ8.out⟩,HO.out⟩
theorem J2 (v:Value) (L:List (Int×Int)) (K:Int) (fl:Bool) (k:Nat) (VA:Option Addr) (vn vc:Nat) (vs:List Int) (TA:Option Addr) (tn tc:Nat) (ts:List TV) (kt:Nat) (w0:World) (hv:JW w0 v L K fl k) (hvs:EX w0 VA vn vs) (hvn:vn<=1099511627) (hwf:∀x∈vs,-9223372036854775808<=x/\x<=9223372036854775807)
   (hts:Ce w0 TA tn ts kt) (htn:tn<=9223372036854775807) (htl:∀t∈ts,t.L.length<=1000) (hle:L.length<=1000) (hrg:∀p∈L,p.1<=9223372036854775807) (hk:k<=100000000) (hkt:kt<=100000000) :
   Calls Tryz.prog 23 #[v,.slice VA vn vc,.slice TA tn tc] w0 (LP (norm (DY vs (BM ts) (norm L))) (K+Dq vs (BM ts) (norm L)) fl (k+kt+1010000) w0):=by
 obtain ⟨A,n,c,s,B,m,d,rfl,ht⟩:=hv;obtain ⟨z0,z1,z2,-⟩:=Bh 35 35 w0 #[.slice A n c,.bool s,.slice B m d,.bool fl] #[.slice none 0 0,.bool false,.slice none 0 0,.bool false];go_enter Tryz.func23,Tryz.ntmps23;go_upto_region 1 with fail;generalize hW:((w0.alloc (.cells #[.slice A n c,.bool s,.slice B m d,.bool fl] 35)).alloc (.cells #[.slice none 0 0,.bool false,.slice none 0 0,.bool false] 35))=W0 at *;clear hW;have HX:=Ad z0;have HR8:=Ad z1;have HT8:=Ad z2
 have HV:=Ad (ht.below z2);have HVS:=Ad (hvs.below z2);have HTS:=Ad (hts.below z2);have SOF:=Ad (show ∀W,Below W0.heap.size W0 W->(W.cell? ⟨w0.heap.size,0,none⟩=some (.slice A n c)/\W.cell? ⟨w0.heap.size,1,none⟩=some (.bool s)/\W.cell? ⟨w0.heap.size,2,none⟩=some (.slice B m d)/\W.cell? ⟨w0.heap.size,3,none⟩=some (.bool fl)) from fun W h=>⟨(HX.out.next h).r0,(HX.out.next h).r1,(HX.out.next h).r2,(HX.out.next h).r3⟩);clear z0 z1 z2 ht hvs hts
 refine AJ (by kernel_rfl) (by kernel_rfl) (by kernel_rfl) (by kernel_rfl) (fun w w'=>Below w.heap.size w w') (fun j v w=>match j with|0=>v=.pointer (some ⟨w0.heap.size,0,none⟩)|1=>v=.agg #[.slice A n c,.bool s,.slice B m d]|2=>v=.slice VA vn vc|3=>v=.slice TA tn tc|4=>An w v (norm (DY vs (BM ts) (norm L))) (K+Dq vs (BM ts) (norm L)) (k+kt+1010000)|5=>v=.pointer (some ⟨w0.heap.size,3,none⟩)|6=>v=.bool fl|7=>BO w v (norm (DY vs (BM ts) (norm L))) (K+Dq vs (BM ts) (norm L)) fl (k+kt+1010000)|_=>True) (fun _ _ w=>Below W0.heap.size W0 w) ?_ (fun _=>Ak W0 1) ?_ ?_
 · intro j v w w' hT h;match j,h with
   |0,h=>exact h
   |1,h=>exact h
   |2,h=>exact h
   |3,h=>exact h
   |4,h=>exact h.below hT
   |5,h=>exact h
   |6,h=>exact h
   |7,h=>exact h.below hT
   |j+8,h=>trivial
 · refine ⟨?_,?_,?_,?_,?_,?_,?_,?_,trivial⟩
   · intro listed σ w a hin hout hl hla hs hc hp hG hF;refine Ac.none rfl ?_;have e3:a.tmps.getD 3 undef=.pointer (some ⟨w0.heap.size,0,none⟩):=hout 3 (Af (by kernel_rfl));refine Does.val (.pointer (some ⟨w0.heap.size,0,none⟩)) (w':=w) ?_ ⟨Below.refl _ _,rfl,hG⟩;simp only[Array.getD_eq_getD_getElem?]at e3;go_simp
   · intro listed σ w a hin hout hl hla hs hc hp hG hF;refine Ac.none rfl ?_;have e7:a.tmps.getD 7 undef=.pointer (some ⟨w0.heap.size,0,none⟩):=(hin 0 7 rfl (hp ⟨0,.data⟩ (by simp) rfl)).trans (hF 0 (hp ⟨0,.data⟩ (by simp) rfl));have CC:=SOF.out w hG;obtain ⟨C0,C1,C2,C3⟩:=CC;refine Does.val (.agg #[.slice A n c,.bool s,.slice B m d]) (w':=w) ?_ ⟨Below.refl _ _,rfl,hG⟩;go_simp
   · intro listed σ w a hin hout hl hla hs hc hp hG hF;refine Ac.none rfl ?_;have e1:a.tmps.getD 1 undef=.slice VA vn vc:=hout 1 (Af (by kernel_rfl));refine Does.val (.slice VA vn vc) (w':=w) ?_ ⟨Below.refl _ _,rfl,hG⟩;simp only[Array.getD_eq_getD_getElem?]at e1;go_simp
   · intro listed σ w a hin hout hl hla hs hc hp hG hF;refine Ac.none rfl ?_;have e2:a.tmps.getD 2 undef=.slice TA tn tc:=hout 2 (Af (by kernel_rfl));refine Does.val (.slice TA tn tc) (w':=w) ?_ ⟨Below.refl _ _,rfl,hG⟩;simp only[Array.getD_eq_getD_getElem?]at e2;go_simp
   · intro listed σ w a hin hout hl hla hs hc hp hG hF;refine Ac.none rfl ?_;have e8:a.tmps.getD 8 undef=.agg #[.slice A n c,.bool s,.slice B m d]:=(hin 1 8 rfl (hp ⟨1,.data⟩ (by simp) rfl)).trans (hF 1 (hp ⟨1,.data⟩ (by simp) rfl));have e9:a.tmps.getD 9 undef=.slice VA vn vc:=(hin 2 9 rfl (hp ⟨2,.data⟩ (by simp) rfl)).trans (hF 2 (hp ⟨2,.data⟩ (by simp) rfl))
     have e10:a.tmps.getD 10 undef=.slice TA tn tc:=(hin 3 10 rfl (hp ⟨3,.data⟩ (by simp) rfl)).trans (hF 3 (hp ⟨3,.data⟩ (by simp) rfl));refine Does.call ?_ (GX _ L K k VA vn vc vs TA tn tc ts kt w (HV.out.below hG) (HVS.out.below hG) hvn hwf (HTS.out.below hG) htn htl hle hrg hk hkt) ?_
     · go_simp
     · rintro e w' ⟨v,rfl,z,hb⟩;exact ⟨_,rfl,hb,z,hG.next hb⟩
   · intro listed σ w a hin hout hl hla hs hc hp hG hF;refine Ac.none rfl ?_;have e3:a.tmps.getD 3 undef=.pointer (some ⟨w0.heap.size,0,none⟩):=hout 3 (Af (by kernel_rfl));refine Does.val (.pointer (some ⟨w0.heap.size,3,none⟩)) (w':=w) ?_ ⟨Below.refl _ _,rfl,hG⟩;simp only[Array.getD_eq_getD_getElem?]at e3;go_simp
   · intro listed σ w a hin hout hl hla hs hc hp hG hF;refine Ac.none rfl ?_;have e12:a.tmps.getD 12 undef=.pointer (some ⟨w0.heap.size,3,none⟩):=(hin 5 12 rfl (hp ⟨5,.data⟩ (by simp) rfl)).trans (hF 5 (hp ⟨5,.data⟩ (by simp) rfl));have CC:=SOF.out w hG;obtain ⟨C0,C1,C2,C3⟩:=CC;refine Does.val (.bool fl) (w':=w) ?_ ⟨Below.refl _ _,rfl,hG⟩;go_simp
   · intro listed σ w a hin hout hl hla hs hc hp hG hF;refine Ac.none rfl ?_;have e11:=hin 4 11 rfl (hp ⟨4,.data⟩ (by simp) rfl);have z4:=hF 4 (hp ⟨4,.data⟩ (by simp) rfl);have e13:a.tmps.getD 13 undef=.bool fl:=(hin 6 13 rfl (hp ⟨6,.data⟩ (by simp) rfl)).trans (hF 6 (hp ⟨6,.data⟩ (by simp) rfl));obtain ⟨A7,n7,c7,s7,B7,m7,d7,ev7⟩:=An.form z4;rw[ev7]at e11 z4
     refine Does.val (.agg #[.slice A7 n7 c7,.bool s7,.slice B7 m7 d7,.bool fl]) (w':=w) ?_ ⟨Below.refl _ _,⟨A7,n7,c7,s7,B7,m7,d7,rfl,z4⟩,hG⟩;simp only[Array.getD_eq_getD_getElem?]at e11 e13;go_simp
 · intro o ho;injection ho with ho;subst ho
   intro listed σ w a hall hin hout hG hF;refine Ac.none rfl ?_;have e6:a.tmps.getD 6 undef=.pointer (some ⟨w0.heap.size+1,0,none⟩):=hout 6 (LC (by kernel_rfl));have e14:=hin 7 14 rfl (by decide);have z7:=hF 7 (by decide);obtain ⟨A8,n8,c8,s8,B8,m8,d8,ev8,t8⟩:=z7;rw[ev8]at e14;refine Does.store_box (T:=35) (cells:=#[.slice A8 n8 c8,.bool s8,.slice B8 m8 d8,.bool fl]) rfl e6 e14 (HR8.out.next hG) (by kernel_rfl) rfl (by simp[Value.oneCell']) (fun w2 x9 o9=>?_)
   rw[show fin _ σ undef _=(Act.put (Act.put (Act.put (Act.put (Act.put (Act.put (Act.put (Act.put (Act.put _ (some 7) (σ 0)) (some 8) (σ 1)) (some 9) (σ 2)) (some 10) (σ 3)) (some 11) (σ 4)) (some 12) (σ 5)) (some 13) (σ 6)) (some 14) (σ 7)) none undef) from (Bn hall).trans rfl];simp only[Act.put,List.setIfInBounds_toArray,List.set_cons_zero,List.set_cons_succ];have HZ8:=Ad (t8.onlyR (HR8.out.next hG) o9);have HO:=Ad (AH (HT8.out.next hG) (by omega) o9)
   generalize σ 0=tt0 at *;generalize σ 1=tt1 at *;generalize σ 2=tt2 at *;generalize σ 3=tt3 at *;generalize σ 4=tt4 at *;generalize σ 5=tt5 at *;generalize σ 6=tt6 at *;generalize σ 7=tt7 at *;clear hF hG hall hin hout SOF t8 o9 e6 e14 ev8;go_wp2_with fail;refine DX rfl rfl x9 rfl ?_;exact ⟨_,rfl,⟨_,_,_,_,_,_,_,rfl,HZ8.out⟩,HO.out⟩
end
end Go.Proofs.YtemfjdedjcjegaaGreatDoor
