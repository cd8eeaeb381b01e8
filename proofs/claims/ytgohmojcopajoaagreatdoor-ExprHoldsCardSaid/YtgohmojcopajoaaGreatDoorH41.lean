/- Texts of one seat, put together: ExprHp RefZCmp. -/
import Derived.Test.YtgohmojcopajoaaGreatDoorH40
import Derived.Test.YtgohmojcopajoaaGreatDoorH35
import Derived.Test.YtgohmojcopajoaaGreatDoorH31
import Derived.Test.YtgohmojcopajoaaGreatDoorH14
import Derived.Test.YtgohmojcopajoaaGreatDoorH22
import Derived.Test.YtgohmojcopajoaaGreatDoorH06
import Derived.Test.YtgohmojcopajoaaGreatDoorH13
set_option linter.unusedVariables false
set_option linter.unusedSimpArgs false
set_option maxRecDepth 100000
set_option maxHeartbeats 16000000
namespace Go.Proofs.YtgohmojcopajoaaGreatDoor
section
open Go.RowKit
open Lx Ex
theorem YB (s:ByteArray):(!s.toList.isEmpty)=!decide (s=eS):=by
 by_cases h:s=eS
 · rw[decide_eq_true h,h,Qh];rfl
 · have g:=Cr h;rw[decide_eq_false h];cases hs:s.toList with
   |nil=>rw[hs]at g;exact absurd g (by decide)
   |cons a l=>rfl
structure Qo (w0 W:World) (Z:Int) (k:Nat):Prop where
 B:Below w0.heap.size w0 W
 R:Am 54 W w0.heap.size #[.bool false,.slice none 0 0]
 O:∃s A m c,Am 54 W (w0.heap.size+1) #[.bool s,.slice A m c]/\Nu.AL W (.agg #[.bool s,.slice A m c]) Z k
theorem Qo.next {w0 W W':World} {Z:Int} {k:Nat} (h:Qo w0 W Z k) (b:Below W.heap.size W W'):Qo w0 W' Z k:=⟨h.B.next b,h.R.next b,by
 obtain ⟨s,A,m,c,x,r⟩:=h.O;exact ⟨s,A,m,c,x.next b,r.below b⟩⟩
theorem Qo.far {w0 W W':World} {Z:Int} {k g:Nat} (h:Qo w0 W Z k) (o:Ai g W W') (hk:Nu.Kp W W') (hg:w0.heap.size+1<g):Qo w0 W' Z k:=⟨h.B.trans (o.below h.B.size (by omega)),h.R.other o (by omega),by
 obtain ⟨s,A,m,c,x,r⟩:=h.O;exact ⟨s,A,m,c,x.other o (by omega),r.kp hk⟩⟩
theorem Qo.lt {w0 W:World} {Z:Int} {k:Nat} (h:Qo w0 W Z k):w0.heap.size+1<W.heap.size:=by obtain ⟨s,A,m,c,x,r⟩:=h.O;exact x.lt
def NB (g:Nat) (W:World) (N:Int) (k:Nat):Prop:=∃s A m c,Am 54 W g #[.bool s,.slice A m c]/\Nu.AL W (.agg #[.bool s,.slice A m c]) N k
theorem NB.next {g k:Nat} {W W':World} {N:Int} (h:NB g W N k) (b:Below W.heap.size W W'):NB g W' N k:=by obtain ⟨s,A,m,c,x,r⟩:=h;exact ⟨s,A,m,c,x.next b,r.below b⟩
theorem NB.mono {g k j:Nat} {W:World} {N:Int} (h:NB g W N k) (hk:k<=j):NB g W N j:=by obtain ⟨s,A,m,c,x,r⟩:=h;exact ⟨s,A,m,c,x,r.mono hk⟩
theorem NX (S:Nat->Prop) (A:Option Addr) (n c:Nat) (l:List Mn) (V:Option Addr) (mv dv:Nat) (vs:List ByteArray) (VA:Option Addr) (vn vc:Nat) (ivs:List Nu.IV) (w0:World) (h:Du S w0 A n l) (hn:n<=64) (hz:JQ l) (hS:EN w0 V mv vs) (hm:mv<=9223372036854775807) (hvs:Nu.CJ w0 VA vn ivs 4) (hvn:vn<=1000):Calls Tryz.prog 47 #[.slice A n c,.slice V mv dv,.slice VA vn vc] w0 (Nu.Do (KB vs (Nu.nums ivs) l) 800 w0):=by
 obtain ⟨x1,tx1,hb,hsz⟩:=Ax 54 54 w0 #[.bool false,.slice none 0 0] #[.bool false,.slice none 0 0];have HOF:=Aa (fun W=>Nu.XB 1 W (by omega) (by omega));have HPZ:=Aa (fun s W hs=>Nu.Nn s W hs);have HPL:=Aa (fun s W (h:Below w0.heap.size w0 W)=>Rv V mv dv vs s W (hS.below h) hm);have HVS:=Aa hvs;have HU:=Aa (show (Nu.nums ivs).length=vn by unfold Nu.nums;rw[List.length_map];exact hvs.1);obtain ⟨us,hus⟩:∃us,us=Nu.nums ivs:=⟨_,rfl⟩
 have HUS:=Aa (show ∀q p,ivs[q]?=some p->us.getD q 0=p.Z from by intro q p hq;rw[hus,List.getD_eq_getElem?_getD];unfold Nu.nums;rw[List.getElem?_map,hq];rfl)
 rw[<-hus]at HU ⊢;clear hus;have HM:=Aa h;have HZ0:=Aa hz;have HN:=Aa h.1;have HS0:=Aa (show Qo w0 ((w0.alloc (.cells #[.bool false,.slice none 0 0] 54)).alloc (.cells #[.bool false,.slice none 0 0] 54)) 0 (700+0) from ⟨hb,x1,_,_,_,_,tx1,Nu.AL.zero _ _⟩);have t0:=tx1.cell 0 _ rfl;have t1:=tx1.cell 1 _ rfl;clear x1 tx1 hb h hz hS hvs;go_enter Tryz.func47,Tryz.ntmps47;go_wp2_with fail
 generalize hW:(w0.alloc (.cells #[.bool false,.slice none 0 0] 54)).alloc (.cells #[.bool false,.slice none 0 0] 54)=W1 at *;clear hW t0 t1 hsz;go_loopw [8] (fun i wr=>∃x:Nat,x<=n/\i=.int .i64 x/\Hid (∃Z,Qo w0 wr Z (700+x)/\KB vs us l=Z+KB vs us (l.drop x))) (fun i _=>n-(intOf i).toNat)
 case atStart=>exact ⟨0,Nat.zero_le _,rfl,Aa ⟨0,HS0.out,by rw[Int.zero_add];rfl⟩⟩
 case round=>
  obtain ⟨x,hx,rfl,HR⟩:=hrel;obtain ⟨Z,hs0,he⟩:=HR.out;have S0:=Aa hs0;by_cases hxn:x<n
  · obtain ⟨bb,oo,m,hA,hlt,hmm,c0,c1,c2⟩:=HM.out.at_ hxn;subst hA;have hd:l.drop x=m::l.drop (x+1):=by
     have hl:x<l.length:=(by have:=HN.out;omega);rw[List.drop_eq_getElem_cons hl];congr 1
     rw[List.getElem?_eq_getElem hl]at hmm;injection hmm
    have HZZ:=Aa (HZ0.out _ (List.mem_of_getElem? hmm)).1;have HEQ0:=Aa (show KB vs us l=(Z+Yj vs us m)+KB vs us (l.drop (x+1)) by rw[he,hd,KB,Int.add_assoc]);obtain ⟨neg,num,var,hme⟩:∃neg num var,m=⟨num,var,neg⟩:=⟨m.neg,m.num,m.var,by cases m;rfl⟩;subst hme
    have HEL:=Aa (show ∀W,Below w0.heap.size w0 W->W.cell? ⟨bb,oo+x*3,none⟩=some (.bool neg)/\W.cell? ⟨bb,oo+x*3+1,none⟩=some (.string num)/\W.cell? ⟨bb,oo+x*3+2,none⟩=some (.string var) from fun W h=>⟨(Af h hlt).trans c0,(Af h hlt).trans c1,(Af h hlt).trans c2⟩);obtain ⟨N1,hN1⟩:∃N1,N1=TY ⟨num,var,neg⟩:=⟨_,rfl⟩;obtain ⟨q0,hq0⟩:∃q0,q0=Ci vs var 0:=⟨_,rfl⟩;obtain ⟨N2,hN2⟩:∃N2,N2=(if var=eS then N1 else N1*Ps us q0):=⟨_,rfl⟩;have HQ:=Aa (fun W h=>HPL.out var W h)
    rw[<-hq0]at HQ;have HEQ:=Aa (show KB vs us l=(Z+(if neg=true then -N2 else N2))+KB vs us (l.drop (x+1)) from by
     rw[HEQ0.out];congr 2
     unfold Yj N6;rw[<-hN1,<-hq0,hN2];by_cases hv:var=eS
     · rw[if_pos hv,if_pos hv]
     · rw[if_neg hv,if_neg hv];cases neg
       · rfl
       · exact Int.neg_mul _ _)
    have HN1:=Aa hN1;have HN2:=Aa hN2;clear hN1 hq0 hN2 hmm c0 c1 c2 hd he HEQ0 hs0 HR;go_wp2_with fail;refine (HOF.out _).mono ?_;rintro e w2 ⟨v1,rfl,r1,b1⟩;obtain ⟨s1,A1,n1,c1,rfl⟩:=r1.form;have S2:=Aa (S0.out.next b1);have z1:Am 54 (w2.alloc (.cells #[.bool s1,.slice A1 n1 c1] 54)) w2.heap.size #[.bool s1,.slice A1 n1 c1]:=Am.new _ _ _;have S3:=Aa (S2.out.next (Ae w2 (.cells #[.bool s1,.slice A1 n1 c1] 54)))
    have N3:=Aa (show NB w2.heap.size (w2.alloc (.cells #[.bool s1,.slice A1 n1 c1] 54)) 1 500 from ⟨_,_,_,_,z1,(Nu.AL.below r1 (Ae w2 (.cells #[.bool s1,.slice A1 n1 c1] 54))).mono (by omega)⟩);have HG:=Aa S2.out.lt;have e1:=(HEL.out _ S3.out.B).2.1;clear b1 r1;go_upto_if 24 with fail;clear z1 S2;generalize w2.alloc (.cells #[.bool s1,.slice A1 n1 c1] 54)=w3 at *;generalize w2.heap.size=gN at *;go_cut [] (fun wx=>Hid (Qo w0 wx Z (700+x))/\Hid (NB gN wx N1 500))
    case first=>
     by_cases hn:num=eS
     · simp only[YB,decide_eq_true hn,Bool.not_true];have HNB:=Aa (show NB gN w3 N1 500 from by rw[HN1.out,show TY ⟨num,var,neg⟩=1 from if_pos hn];exact N3.out);clear hn;go_wp2_with fail;go_meet
       case rel=>exact ⟨S3,HNB⟩
     · simp only[YB,decide_eq_false hn,Bool.not_false];have HNE:=Aa (show N1=Nu.Gd num from HN1.out.trans (if_neg hn));clear hn;go_wp2_with fail;refine (HPZ.out num _ (by have:=HZZ.out;omega)).mono ?_;rintro e w4 ⟨v4,k4,rfl,r4,hk4,b4⟩;obtain ⟨s4,A4,n4,c4,rfl⟩:=r4.form;have S4:=Aa (S3.out.next b4);obtain ⟨sN,AN,nN,cN,xN,-⟩:=N3.out.next b4;have R4:=Aa (r4.mono hk4);clear b4 r4 e1
       go_wp2_with (with_reducible refine Ab rfl 54 _ _ rfl (gN) #[.bool s4,.slice A4 n4 c4] rfl rfl _ xN (by kernel_rfl) rfl (by simp[Value.oneCell']) ?_;intro w5 k5 o5);have HS:=Aa (S4.out.far o5 (Nu.Am.kp xN (Nu.BO (Nu.NL.bool _) (Nu.NL.slice _ _ _)) o5) HG.out);have HNB:=Aa (show NB gN w5 N1 500 from by rw[HNE.out];exact ⟨_,_,_,_,k5,R4.out.kp (Nu.Am.kp xN (Nu.BO (Nu.NL.bool _) (Nu.NL.slice _ _ _)) o5)⟩);clear k5 o5 xN S4 R4;go_meet
       case rel=>exact ⟨HS,HNB⟩
    case rest=>
     obtain ⟨S5,N5⟩:=hcut;generalize wc=y1 at *;clear S3 N3 e1 HN1 HZZ;have e2:=(HEL.out y1 S5.out.B).2.2;go_upto_if 39 with fail;clear e2;go_cut [] (fun wx=>Hid (Qo w0 wx Z (700+x))/\Hid (NB gN wx N2 504))
     case first=>
       by_cases hv:var=eS
       · simp only[YB,decide_eq_true hv,Bool.not_true];have HNB:=Aa (show NB gN y1 N2 504 from by rw[HN2.out,if_pos hv];exact N5.out.mono (by omega));clear hv;go_wp2_with fail;go_meet
         case rel=>exact ⟨S5,HNB⟩
       · simp only[YB,decide_eq_false hv,Bool.not_false];have HNE:=Aa (show N2=N1*Ps us q0 from HN2.out.trans (if_neg hv));have e2:=(HEL.out y1 S5.out.B).2.2;clear hv;go_wp2_with fail;refine (HQ.out _ S5.out.B).mono ?_;rintro e wq ⟨rfl,hwq⟩;subst hwq;obtain ⟨s6,A6,n6,c6,x6,r6⟩:=N5.out;have R6:=Aa r6;clear r6 e2;by_cases hq:q0<0\/(vn:Int)<=q0
         · have HNZ:=Aa (show N2=0 from by
             rw[HNE.out];unfold Ps;split
             · rw[List.getD_eq_getElem?_getD,List.getElem?_eq_none (by have:=HU.out;omega)];exact Int.mul_zero _
             · exact Int.mul_zero _)
           rcases (show q0<0\/(¬q0<0/\(vn:Int)<=q0) by omega) with hq|⟨hq,hq2⟩
           · go_wp2_with (with_reducible refine Ab rfl 54 _ _ rfl (gN) #[.bool false,.slice none 0 0] rfl rfl _ x6 (by kernel_rfl) rfl (by simp[Value.oneCell']) ?_;intro w7 k7 o7);have HS:=Aa (S5.out.far o7 (Nu.Am.kp x6 (Nu.BO (Nu.NL.bool _) (Nu.NL.slice _ _ _)) o7) HG.out);have HNB:=Aa (show NB gN w7 N2 504 from by rw[HNZ.out];exact ⟨_,_,_,_,k7,Nu.AL.zero _ _⟩);clear k7 o7 x6;go_meet
             case rel=>exact ⟨HS,HNB⟩
           · go_wp2_with (with_reducible refine Ab rfl 54 _ _ rfl (gN) #[.bool false,.slice none 0 0] rfl rfl _ x6 (by kernel_rfl) rfl (by simp[Value.oneCell']) ?_;intro w7 k7 o7);have HS:=Aa (S5.out.far o7 (Nu.Am.kp x6 (Nu.BO (Nu.NL.bool _) (Nu.NL.slice _ _ _)) o7) HG.out);have HNB:=Aa (show NB gN w7 N2 504 from by rw[HNZ.out];exact ⟨_,_,_,_,k7,Nu.AL.zero _ _⟩);clear k7 o7 x6;go_meet
             case rel=>exact ⟨HS,HNB⟩
         · obtain ⟨q,rfl⟩:∃q:Nat,q0=q:=⟨q0.toNat,by omega⟩;have hq1:¬(q:Int)<0:=(by omega);have hq2:¬(vn:Int)<=(q:Int):=(by omega);have hqn:q<vn:=(by omega);obtain ⟨vb,vo,p,rfl,hiv,d0,d1,hpz⟩:=(HVS.out.below S5.out.B).at_ hqn;rw[Nat.mul_comm 2 q]at d0 d1;rw[<-Nat.add_assoc]at d1;have hvl:=World.block_lt_of_cell? y1 _ d0;have HZ:=Aa hpz;have HNP:=Aa (show N2=N1*p.Z from by rw[HNE.out];congr 1;unfold Ps;rw[if_pos (by omega)];exact HUS.out q p hiv);have X6:=Aa x6
           have SOF:=Aa (show ∀W,Below y1.heap.size y1 W->(W.cell? ⟨gN,0,none⟩=some (.bool s6)/\W.cell? ⟨gN,1,none⟩=some (.slice A6 n6 c6)/\W.cell? ⟨vb,vo+q*2,none⟩=some (.bool p.s)/\W.cell? ⟨vb,vo+q*2+1,none⟩=some (.slice p.B p.m p.d)) from fun W h=>⟨(X6.out.next h).cell 0 _ rfl,(X6.out.next h).cell 1 _ rfl,(Af h hvl).trans d0,(Af h hvl).trans d1⟩);clear hq hiv d0 d1 hpz x6;go_upto_region 12 with fail
           refine BI (by kernel_rfl) (by kernel_rfl) (by kernel_rfl) (by kernel_rfl) (fun w w'=>Below w.heap.size w w') (fun j v w=>match j with|0=>v=.agg #[.bool s6,.slice A6 n6 c6]|1=>v=.slice (some ⟨vb,vo,none⟩) vn vc|2=>v=.int .i64 (q:Int)|3=>v=.pointer (some ⟨vb,vo+q*2,none⟩)|4=>v=.agg #[.bool p.s,.slice p.B p.m p.d]|5=>Nu.AL w v (N1*p.Z) 504|_=>True) (fun _ _ w=>Below y1.heap.size y1 w) ?_ (fun _=>Ao y1 1) ?_ ?_
           · intro j v w w' hT h;match j,h with
             |0,h=>exact h
             |1,h=>exact h
             |2,h=>exact h
             |3,h=>exact h
             |4,h=>exact h
             |5,h=>exact h.below hT
             |j+6,h=>trivial
           · refine ⟨?_,?_,?_,?_,?_,?_,trivial⟩
             · intro listed σ w a hin hout hl hla hs hc hp hG hF;refine Ac.none rfl ?_;have e9:a.tmps.getD 9 undef=.pointer (some ⟨gN,0,none⟩):=hout 9 (Ag (by kernel_rfl));have CC:=SOF.out w hG;obtain ⟨C0,C1,D0,D1⟩:=CC;refine Does.val (.agg #[.bool s6,.slice A6 n6 c6]) (w':=w) ?_ ⟨Below.refl _ _,rfl,hG⟩;go_simp
             · intro listed σ w a hin hout hl hla hs hc hp hG hF;refine Ac.none rfl ?_;have e2:a.tmps.getD 2 undef=.slice (some ⟨vb,vo,none⟩) vn vc:=hout 2 (Ag (by kernel_rfl));refine Does.val (.slice (some ⟨vb,vo,none⟩) vn vc) (w':=w) ?_ ⟨Below.refl _ _,rfl,hG⟩;simp only[Array.getD_eq_getD_getElem?]at e2;go_simp
             · intro listed σ w a hin hout hl hla hs hc hp hG hF;refine Ac.none rfl ?_;have e10:a.tmps.getD 10 undef=.int .i64 (q:Int):=hout 10 (Ag (by kernel_rfl));refine Does.val (.int .i64 (q:Int)) (w':=w) ?_ ⟨Below.refl _ _,rfl,hG⟩;simp only[Array.getD_eq_getD_getElem?]at e10;go_simp
             · intro listed σ w a hin hout hl hla hs hc hp hG hF;refine Ac.none rfl ?_;have e57:a.tmps.getD 57 undef=.slice (some ⟨vb,vo,none⟩) vn vc:=(hin 1 57 rfl (hp ⟨1,.data⟩ (by simp) rfl)).trans (hF 1 (hp ⟨1,.data⟩ (by simp) rfl));have e58:a.tmps.getD 58 undef=.int .i64 (q:Int):=(hin 2 58 rfl (hp ⟨2,.data⟩ (by simp) rfl)).trans (hF 2 (hp ⟨2,.data⟩ (by simp) rfl));refine Does.val (.pointer (some ⟨vb,vo+q*2,none⟩)) (w':=w) ?_ ⟨Below.refl _ _,rfl,hG⟩
               simp only[Array.getD_eq_getD_getElem?]at e57 e58;go_simp;(try (intro hh;exfalso;omega))
             · intro listed σ w a hin hout hl hla hs hc hp hG hF;refine Ac.none rfl ?_;have e59:a.tmps.getD 59 undef=.pointer (some ⟨vb,vo+q*2,none⟩):=(hin 3 59 rfl (hp ⟨3,.data⟩ (by simp) rfl)).trans (hF 3 (hp ⟨3,.data⟩ (by simp) rfl));have CC:=SOF.out w hG;obtain ⟨C0,C1,D0,D1⟩:=CC;refine Does.val (.agg #[.bool p.s,.slice p.B p.m p.d]) (w':=w) ?_ ⟨Below.refl _ _,rfl,hG⟩;go_simp
             · intro listed σ w a hin hout hl hla hs hc hp hG hF;refine Ac.none rfl ?_;have e56:a.tmps.getD 56 undef=.agg #[.bool s6,.slice A6 n6 c6]:=(hin 0 56 rfl (hp ⟨0,.data⟩ (by simp) rfl)).trans (hF 0 (hp ⟨0,.data⟩ (by simp) rfl));have e60:a.tmps.getD 60 undef=.agg #[.bool p.s,.slice p.B p.m p.d]:=(hin 4 60 rfl (hp ⟨4,.data⟩ (by simp) rfl)).trans (hF 4 (hp ⟨4,.data⟩ (by simp) rfl))
               refine Does.call ?_ (Nu.Qa _ (.agg #[.bool p.s,.slice p.B p.m p.d]) _ p.Z 500 4 w (R6.out.below hG).in_ (show Nu.Cy w (.agg #[.bool p.s,.slice p.B p.m p.d]) p.Z 4 from HZ.out.below hG) (by omega) (by omega)) ?_
               · go_simp
               · rintro e w' ⟨v,rfl,z,hb⟩;exact ⟨_,rfl,hb,z,hG.next hb⟩
           · intro o ho;injection ho with ho;subst ho
             intro listed σ w a hall hin hout hG hF;refine Ac.none rfl ?_;have e9:a.tmps.getD 9 undef=.pointer (some ⟨gN,0,none⟩):=hout 9 (MI (by kernel_rfl));have e61:=hin 5 61 rfl (by decide);have z5:=hF 5 (by decide);obtain ⟨s8,A8,n8,c8,ev8⟩:=z5.form;rw[ev8]at e61 z5;have HX:=Aa (X6.out.next hG);have S8:=Aa (S5.out.next hG)
             refine Does.store_box (T:=54) (cells:=#[.bool s8,.slice A8 n8 c8]) rfl e9 e61 HX.out (by kernel_rfl) rfl (by simp[Value.oneCell']) (fun w8 k8 o8=>?_);rw[show IW _ σ undef _=(Act.put (Act.put (Act.put (Act.put (Act.put (Act.put (Act.put _ (some 56) (σ 0)) (some 57) (σ 1)) (some 58) (σ 2)) (some 59) (σ 3)) (some 60) (σ 4)) (some 61) (σ 5)) none undef) from (CL hall).trans rfl]
             simp only[Act.put,List.setIfInBounds_toArray,List.set_cons_zero,List.set_cons_succ];have HS:=Aa (S8.out.far o8 (Nu.Am.kp HX.out (Nu.BO (Nu.NL.bool _) (Nu.NL.slice _ _ _)) o8) HG.out);have HNB:=Aa (show NB gN w8 N2 504 from by rw[HNP.out];exact ⟨_,_,_,_,k8,z5.kp (Nu.Am.kp HX.out (Nu.BO (Nu.NL.bool _) (Nu.NL.slice _ _ _)) o8)⟩)
             generalize σ 0=tt0 at *;generalize σ 1=tt1 at *;generalize σ 2=tt2 at *;generalize σ 3=tt3 at *;generalize σ 4=tt4 at *;generalize σ 5=tt5 at *;clear hF hG hall hin hout SOF z5 k8 o8 e9 e61 ev8;go_wp2_with fail;go_meet
             case rel=>exact ⟨HS,HNB⟩
     case rest=>
       obtain ⟨S7,N7⟩:=hcut;generalize wc=y2 at *;clear S5 N5 HN2 HQ;have e0:=(HEL.out y2 S7.out.B).1;obtain ⟨s7,A7,n7,c7,x7,r7⟩:=N7.out;have X7:=Aa x7;have R7:=Aa r7;have n70:=x7.cell 0 _ rfl;have n71:=x7.cell 1 _ rfl;clear x7 r7 N7;cases neg with
       |true=>
         go_wp2_with fail;refine (Nu.Tx _ _ _ _ R7.out.in_ (by omega)).mono ?_;rintro e w8 ⟨v8,rfl,r8,b8⟩;obtain ⟨s8,A8,n8,c8,rfl⟩:=r8.form;have S8:=Aa (S7.out.next b8);have x8:=X7.out.next b8;have R8:=Aa r8;clear b8 r8 e0 n70 n71;go_upto_region 15 with (with_reducible refine Ab rfl 54 _ _ rfl (gN) #[.bool s8,.slice A8 n8 c8] rfl rfl _ x8 (by kernel_rfl) rfl (by simp[Value.oneCell']) ?_;intro w9 k9 o9)
         have S9:=Aa (S8.out.far o9 (Nu.Am.kp x8 (Nu.BO (Nu.NL.bool _) (Nu.NL.slice _ _ _)) o9) HG.out);have R9:=Aa (R8.out.kp (Nu.Am.kp x8 (Nu.BO (Nu.NL.bool _) (Nu.NL.slice _ _ _)) o9));have n90:=k9.cell 0 _ rfl;have n91:=k9.cell 1 _ rfl;obtain ⟨sO,AO,nO,cO,xO,rO⟩:=S9.out.O;have XO:=Aa xO;have RO:=Aa rO;have q0:=xO.cell 0 _ rfl;have q1:=xO.cell 1 _ rfl;clear xO rO o9 k9;go_wp2_with fail
         refine (Nu.Hr _ _ _ _ (700+x) _ RO.out.in_ (R9.out.in_.mono (by omega)) (by omega)).mono ?_;rintro e w10 ⟨v10,rfl,r10,b10⟩;obtain ⟨s10,A10,n10,c10,rfl⟩:=r10.form;have S10:=Aa (S9.out.next b10);have x10:=XO.out.next b10;have R10:=Aa r10;clear b10 r10 q0 q1 n90 n91;go_wp2_with (with_reducible refine Ab rfl 54 _ _ rfl (w0.heap.size+1) #[.bool s10,.slice A10 n10 c10] rfl rfl _ x10 (by kernel_rfl) rfl (by simp[Value.oneCell']) ?_;intro w11 k11 o11)
         have HE:=Aa (show Qo w0 w11 (Z+(-N2)) (700+(x+1)) from ⟨S10.out.B.trans (o11.below S10.out.B.size (by omega)),S10.out.R.other o11 (by omega),_,_,_,_,k11,(R10.out.kp (Nu.Am.kp x10 (Nu.BO (Nu.NL.bool _) (Nu.NL.slice _ _ _)) o11)).mono (by omega)⟩);clear k11 o11 x10;go_roundw
         case rel=>exact ⟨x+1,by omega,by go_num,Aa ⟨_,HE.out,HEQ.out⟩⟩
         case measure=>simp[intOf];omega
       |false=>
         obtain ⟨sO,AO,nO,cO,xO,rO⟩:=S7.out.O;have XO:=Aa xO;have RO:=Aa rO;have q0:=xO.cell 0 _ rfl;have q1:=xO.cell 1 _ rfl;clear xO rO;go_wp2_with fail;refine (Nu.Hr _ _ _ _ (700+x) _ RO.out.in_ (R7.out.in_.mono (by omega)) (by omega)).mono ?_;rintro e w10 ⟨v10,rfl,r10,b10⟩;obtain ⟨s10,A10,n10,c10,rfl⟩:=r10.form;have S10:=Aa (S7.out.next b10);have x10:=XO.out.next b10;have R10:=Aa r10;clear b10 r10 q0 q1 n70 n71 e0
         go_wp2_with (with_reducible refine Ab rfl 54 _ _ rfl (w0.heap.size+1) #[.bool s10,.slice A10 n10 c10] rfl rfl _ x10 (by kernel_rfl) rfl (by simp[Value.oneCell']) ?_;intro w11 k11 o11);have HE:=Aa (show Qo w0 w11 (Z+(N2)) (700+(x+1)) from ⟨S10.out.B.trans (o11.below S10.out.B.size (by omega)),S10.out.R.other o11 (by omega),_,_,_,_,k11,(R10.out.kp (Nu.Am.kp x10 (Nu.BO (Nu.NL.bool _) (Nu.NL.slice _ _ _)) o11)).mono (by omega)⟩);clear k11 o11 x10;go_roundw
         case rel=>exact ⟨x+1,by omega,by go_num,Aa ⟨_,HE.out,HEQ.out⟩⟩
         case measure=>simp[intOf];omega
  · obtain rfl:x=n:=(by omega);have HE:=Aa (show KB vs us l=Z from by rw[he,List.drop_of_length_le (by have:=HN.out;omega),KB,Int.add_zero]);obtain ⟨sO,AO,nO,cO,xO,rO⟩:=hs0.O;have RO:=Aa rO;have q0:=xO.cell 0 _ rfl;have q1:=xO.cell 1 _ rfl;have xR:=hs0.R;clear xO rO he hs0 HR;go_wp2_with (with_reducible refine Ab rfl 54 _ _ rfl (w0.heap.size) #[.bool sO,.slice AO nO cO] rfl rfl _ xR (by kernel_rfl) rfl (by simp[Value.oneCell']) ?_;intro w9 k9 o9)
    refine Nu.Au rfl rfl k9 rfl ?_;exact ⟨_,rfl,by rw[HE.out];exact (RO.out.kp (Nu.Am.kp xR (Nu.BO (Nu.NL.bool _) (Nu.NL.slice _ _ _)) o9)).mono (by omega),S0.out.B.trans (o9.below S0.out.B.size (Nat.le_refl _))⟩
end
end Go.Proofs.YtgohmojcopajoaaGreatDoor
namespace Go.Proofs.YtgohmojcopajoaaGreatDoor.Nu
section
open Go.RowKit
theorem VH (v u:Value) (Z Y:Int) (k:Nat) (w:World) (hv:Cy w v Z k) (hu:Cy w u Y k) (hk:k<=137438953472) :
  Calls Tryz.prog 46 #[v,u] w (Tt Z Y w):=by
 have hE:=Aa (Ty Z Y);have hv0:=hv;have hu0:=hu;obtain ⟨s,A,n,c,xs,rfl,-⟩:=hv;obtain ⟨t,B,m,d,ys,rfl,-⟩:=hu;obtain ⟨x0,y0,z2,-⟩:=Fz w #[.bool s,.slice A n c] #[.bool t,.slice B m d];go_enter Tryz.func46,Tryz.ntmps46;go_wp2_with fail;refine (Vi _ _ Z Y k _ (hv0.below z2) (hu0.below z2) hk).mono ?_;rintro e w1 ⟨v1,rfl,z1,b1⟩;have hs:=Bz v1 (Z-Y) (k+1) w1 z1.in_ (by omega);unfold Iu at hs;rw[hE.out]at hs;go_wp2_with fail;refine hs.mono ?_;rintro e w2 ⟨rfl,b2⟩;go_wp2_with fail
 go_ret
 exact ⟨rfl,(z2.next b1).next b2⟩
end
end Go.Proofs.YtgohmojcopajoaaGreatDoor.Nu
