/- Texts of one seat, put together: ExprC11 ExprRv ExprS1 ExprS2 ExprRw. -/
import Derived.Test.YtgohmojcopajoaaGreatDoorH24
import Derived.Test.YtgohmojcopajoaaGreatDoorH23
import Derived.Test.YtgohmojcopajoaaGreatDoorH07
import Derived.Test.YtgohmojcopajoaaGreatDoorH06
set_option linter.unusedVariables false
set_option linter.unusedSimpArgs false
set_option maxRecDepth 100000
set_option maxHeartbeats 16000000
namespace Go.Proofs.YtgohmojcopajoaaGreatDoor
section
open Go.RowKit
open Lx Ex
def WN (w:World) (g:Nat):Nat:=match w.cell? ⟨g,1,none⟩ with|some (.int _ z)=>z.toNat|_=>0
theorem Qi {D:CD} {g i:Nat} {w:World} (h:Cg D g w i):WN w g=i:=by unfold WN;rw[h.c1];simp
def mz (z:Int) (n:Nat):Nat:=if z=0 then n else 0
theorem XH {z:Int} {a b:Nat} (h:z=0->a<b) (hb:0<b):mz z a<mz 0 b:=by
 unfold mz;rw[if_pos rfl];split
 · rename_i hz;exact h hz
 · exact hb
def Zt (B q b:Nat):Prop:=B<=b/\b≠q
theorem AW.old {S:Nat->Prop} {w:World} {t:GT} {vs:List Value} (h:AW S w t vs):AW (fun b=>S b/\b<w.heap.size) w t vs:=by
 induction h with
 |mk kd op l r p q kids Al Ar A nl cl nr cr n c b o cs h1 h2 h3 h4 h5 h6 h7 h8 h9 h10 h11 h12 ih=>
  have hm:∀{A:Option Addr} {n:Nat} {l:List Mn},Du S w A n l->Du (fun b=>S b/\b<w.heap.size) w A n l:=by intro A n l h;refine ⟨h.1,fun hn=>?_⟩;obtain ⟨b,o,e,hB,hlt,hc⟩:=h.2 hn;exact ⟨b,o,e,⟨hB,hlt⟩,hlt,hc⟩
  exact AW.mk kd op l r p q kids Al Ar A nl cl nr cr n c b o cs (hm h1) (hm h2) h3 h4 h5 h6 h7 h8 h9 (fun hn=>⟨(h10 hn).1,⟨(h10 hn).2.1,(h10 hn).2.2⟩,(h10 hn).2.2⟩) h11 ih
theorem AG.any {D:CD} {g i:Nat} {o:Out Tr} {w w':World} {e:Ending} (h:AG D g o i w e w'):∃(i':Nat) (code:Int) (kd:Int) (Al:Option Addr) (nl cl:Nat) (Ar:Option Addr) (nr cr:Nat) (op:Int) (p q:ByteArray) (A:Option Addr) (n c:Nat),
  e=.returned (.tuple #[.agg #[.int .i64 kd,.slice Al nl cl,.slice Ar nr cr,.int .i64 op,.string p,.string q,.slice A n c],.int .i64 code])/\AB D g i' w w' /\
   ((code=0/\∃t r1,o=.ok t r1/\AW (BG w.heap.size) w' (gt t) [.int .i64 kd,.slice Al nl cl,.slice Ar nr cr,.int .i64 op,.string p,.string q,.slice A n c]/\Aq D i r1 i')\/(∃cd r1,code=((cd:Nat):Int)/\cd≠0/\o=.err cd r1/\Aq D i r1 i')):=by
 cases o with
 |fuel=>exact h.elim
 |ok t r1=>
  obtain ⟨i',kd,Al,nl,cl,Ar,nr,cr,op,p,q,A,n,c,rfl,hT,hs,hw⟩:=h;exact ⟨i',0,kd,Al,nl,cl,Ar,nr,cr,op,p,q,A,n,c,rfl,hw,Or.inl ⟨rfl,t,r1,rfl,hT,hs⟩⟩
 |err cd r1=> obtain ⟨i',rfl,hc,hs,hw⟩:=h;exact ⟨i',cd,0,none,0,0,none,0,0,0,⟨#[]⟩,⟨#[]⟩,none,0,0,rfl,hw,Or.inr ⟨cd,r1,rfl,hc,rfl,hs⟩⟩
def Ue (D:CD) (g gT i lv:Nat) (go:Tr->Md) (O:Out Tr) (w wr:World) (code:Int):Prop:=
 ∃(i':Nat) (kd:Int) (Al:Option Addr) (nl cl:Nat) (Ar:Option Addr) (nr cr:Nat) (op:Int) (p q:ByteArray) (A:Option Addr) (n c:Nat),
  Am 33 wr gT #[.int .i64 kd,.slice Al nl cl,.slice Ar nr cr,.int .i64 op,.string p,.string q,.slice A n c]/\Am 33 wr w.heap.size #[.int .i64 0,.slice none 0 0,.slice none 0 0,.int .i64 0,.string ⟨#[]⟩,.string ⟨#[]⟩,.slice none 0 0]/\AB D g i' w wr /\
   (
    (code=0/\∃t,AW (Zt (w.heap.size+1) gT) wr (gt t) [.int .i64 kd,.slice Al nl cl,.slice Ar nr cr,.int .i64 op,.string p,.string q,.slice A n c]/\Aq D i (rd D.ts i') i'/\O=As D.kn (go t) lv (rd D.ts i')/\(rd D.ts i').length<=(rd D.ts i).length) \/
    (∃cd r1,code=((cd:Nat):Int)/\cd≠0/\Aq D i r1 i'/\O=.err cd r1))
theorem Lt (D:CD) (g i lv:Nat) (w:World) (F kind:Nat) (sign:ByteArray) (next:Md) (go:Tr->Md) (mk:Tr->Tr->Tr) (h:Cg D g w i) (htab:Bc w) (hlv:lv<=60)
  (hF:∀args W,(callFunc F args).run Tryz.prog W=.ok (.enter F args) W)
  (hpart:∀W j,Cg D g W j->Bc W->(rd D.ts j).length<=(rd D.ts i).length->Calls Tryz.prog F #[.pointer (some ⟨g,0,none⟩),.int .i64 (lv:Int)] W (AG D g (As D.kn next lv (rd D.ts j)) j W))
  (heq:∀t r,As D.kn (go t) lv r=if AV sign r=true then bind (As D.kn next lv r.tail) (fun k r1=>As D.kn (go (mk t k)) lv r1) else .ok t r)
  (hgt:∀t k,gt (mk t k)=.mk (kind:Int) [] [] 0 ⟨#[]⟩ ⟨#[]⟩ [gt t,gt k]) :
  Calls Tryz.prog 104 #[.pointer (some ⟨g,0,none⟩),.int .i64 (kind:Int),.string sign,.int .i64 (lv:Int),.func (.func F) #[.pointer (some ⟨g,0,none⟩)] #[]] w (AG D g (bind (As D.kn next lv (rd D.ts i)) (fun t r1=>As D.kn (go t) lv r1)) i w):=by
 have HH:=Aa h;have HB:=Aa (Ae w (.cells #[.int .i64 0,.slice none 0 0,.slice none 0 0,.int .i64 0,.string ⟨#[]⟩,.string ⟨#[]⟩,.slice none 0 0] 33));have hsz:(w.alloc (.cells #[.int .i64 0,.slice none 0 0,.slice none 0 0,.int .i64 0,.string ⟨#[]⟩,.string ⟨#[]⟩,.slice none 0 0] 33)).heap.size=w.heap.size+1:=World.size_alloc _ _;have X0:=Aa (Am.new 33 w #[.int .i64 0,.slice none 0 0,.slice none 0 0,.int .i64 0,.string ⟨#[]⟩,.string ⟨#[]⟩,.slice none 0 0])
 have HTB:=Aa (htab.below HB.out);have hgw:=h.lt;have HC0:=Aa (h.below HB.out);have HPA:=Aa hpart;have s1:=(hpart _ i HC0.out HTB.out (Nat.le_refl _)).mono (fun _ _ hh=>AG.any hh);have HEQ:=Aa heq;have HGT:=Aa hgt;have HTAB:=Aa htab;have hg2:=htab.ne h;obtain ⟨O,hO⟩:∃O,O=bind (As D.kn next lv (rd D.ts i)) (fun t r1=>As D.kn (go t) lv r1):=⟨_,rfl⟩;rw[<-hO];have HO:=Aa hO;clear h htab hpart heq hgt hO;go_enter Tryz.func104,Tryz.ntmps104;go_wp2_with fail
 generalize hW0:w.alloc (.cells #[.int .i64 0,.slice none 0 0,.slice none 0 0,.int .i64 0,.string ⟨#[]⟩,.string ⟨#[]⟩,.slice none 0 0] 33)=W0 at *;clear hW0;refine s1.mono ?_;rintro e w2 ⟨i2,code,kd,Al,nl,cl,Ar,nr,cr,op,p,q,A,n,c,rfl,q2,hor⟩;have hw2:=q2.1.size;have R1:=Aa (show Ue D g w2.heap.size i lv go O w (w2.alloc (.cells #[.int .i64 kd,.slice Al nl cl,.slice Ar nr cr,.int .i64 op,.string p,.string q,.slice A n c] 33)) code from by
  refine ⟨i2,kd,Al,nl,cl,Ar,nr,cr,op,p,q,A,n,c,Am.new _ _ _,(X0.out.other q2.1 (Nat.ne_of_gt hgw)).alloc _,((AB.of_below HH.out HB.out).trans q2).below (Ae _ _),?_⟩;rcases hor with ⟨h0,t,r1,ho,hT,hs⟩|⟨cd,r1,h0,hc,ho,hs⟩
  · refine Or.inl ⟨h0,t,((hT.old.sub (fun b hb=>⟨by have:=hb.1;unfold BG at this;omega,Nat.ne_of_lt hb.2⟩)).keep (AJ.of_below (Ae _ _))),?_,?_⟩
    · rw[hs.1];exact hs
    · exact ⟨by rw[HO.out,ho,hs.1];rfl,by rw[hs.1];exact KT ho⟩
  · exact Or.inr ⟨cd,r1,h0,hc,hs,by rw[HO.out,ho];rfl⟩)
 clear hor s1 q2;go_wp2_with fail;go_loopw [13] (fun ec wr=>∃code:Int,ec=.int .i64 code/\Hid (Ue D g w2.heap.size i lv go O w wr code)) (fun ec wr=>mz (intOf ec) (i+(rd D.ts i).length-WN wr g+1))
 case atStart=>exact ⟨_,rfl,R1⟩
 case round=>
  obtain ⟨code,rfl,HR⟩:=hrel;obtain ⟨i',kd1,Al1,nl1,cl1,Ar1,nr1,cr1,op1,p1,q1,A1,n1,c1,x1,x0,q1,hor⟩:=HR.out;rcases hor with ⟨h0,t,hT,hs,ho,hle⟩|⟨cd,r1,h0,hcd,hs,ho⟩
  · subst h0;have X1:=Aa x1;have Q1:=Aa q1;have XZ:=Aa x0;have T1:=Aa hT;have ht:=Dl D g i' sign wr q1.2;unfold Ct at ht;cases hsg:AV sign (rd D.ts i') with
    |false=>
      rw[hsg]at ht;simp only[Bool.false_eq_true,if_false]at ht;have ho2:=HEQ.out t (rd D.ts i');rw[if_neg (by rw[hsg];decide),<-ho]at ho2;have HO2:=Aa ho2;have HST:=Aa hs;clear hs ho ho2 hsg hT x1 x0 q1;go_wp2_with fail;refine ht.mono ?_;rintro e w3 ⟨rfl,q3⟩;have x3:=XZ.out.other q3.1 (Nat.ne_of_gt hgw);have Y3:=X1.out.other q3.1 (by omega);have l0:=Y3.cell 0 _ rfl;have l1:=Y3.cell 1 _ rfl;have l2:=Y3.cell 2 _ rfl;have l3:=Y3.cell 3 _ rfl;have l4:=Y3.cell 4 _ rfl
      have l5:=Y3.cell 5 _ rfl;have l6:=Y3.cell 6 _ rfl;have T3:=Aa (T1.out.keep (AJ.of_only' q3.1 (fun hh=>by have:=hh.1;omega)));have Q3:=Aa (Q1.out.trans q3);clear q3 ht Y3;go_wp2_with (with_reducible refine Ab rfl 33 _ _ rfl w.heap.size #[.int .i64 kd1,.slice Al1 nl1 cl1,.slice Ar1 nr1 cr1,.int .i64 op1,.string p1,.string q1,.slice A1 n1 c1] rfl rfl _ x3 (by kernel_rfl) rfl (by simp[Value.oneCell']) ?_;intro w9 k9 ho9);refine Ay rfl rfl rfl k9 rfl ?_
      exact AG.ok (vs:=#[.int .i64 kd1,.slice Al1 nl1 cl1,.slice Ar1 nr1 cr1,.int .i64 op1,.string p1,.string q1,.slice A1 n1 c1]) HO2.out ((T3.out.keep (AJ.of_only' ho9 (fun hh=>by have:=hh.1;omega))).sub (fun b hb=>by have:=hb.1;unfold BG;omega)) HST.out (AB.fresh HH.out Q3.out ho9 (Nat.le_refl _))
    |true=>
      rw[hsg]at ht;simp only[if_true]at ht;have hst:=BZ HH.out.good.ends hsg;have hol:=HEQ.out t (rd D.ts i');rw[if_pos hsg,<-ho,<-hst.1]at hol;have HOL:=Aa hol;have HST:=Aa (hs.trans' (i2:=i'+1) rfl (by omega));have hl1:=hst.2.1;have hlen:(rd D.ts (i'+1)).length<=(rd D.ts i).length:=(by omega);have HL:=Aa (show i'+(rd D.ts i').length=i+(rd D.ts i).length from hs.2);have hc1:=Qi q1.2;have HTB1:=Aa (HTAB.out.went HH.out q1);clear hs ho hsg hT x1 x0 q1 hol hst
      go_wp2_with fail;refine ht.mono ?_;rintro e w3 ⟨rfl,q3⟩;have XZ3:=Aa (XZ.out.other q3.1 (Nat.ne_of_gt hgw));have X3:=Aa (X1.out.other q3.1 (by omega));have T3:=Aa (T1.out.old.keep (AJ.of_only' q3.1 (fun hh=>by have:=hh.1.1;omega)));have hs3:=q3.1.size;have Q3:=Aa (Q1.out.trans q3);have HTB3:=Aa (HTB1.out.only q3.1 hg2);have hwt:=X1.out.lt
      have hb3:=Ae w3 (.cells #[.int .i64 0,.slice none 0 0,.slice none 0 0,.int .i64 0,.string ⟨#[]⟩,.string ⟨#[]⟩,.slice none 0 0] 33);have hz4:(w3.alloc (.cells #[.int .i64 0,.slice none 0 0,.slice none 0 0,.int .i64 0,.string ⟨#[]⟩,.string ⟨#[]⟩,.slice none 0 0] 33)).heap.size=w3.heap.size+1:=World.size_alloc _ _;have Q4:=Aa (Q3.out.below hb3);have XZ4:=Aa (XZ3.out.next hb3);have X4:=Aa (X3.out.next hb3)
      have K4:=Aa (Am.new 33 w3 #[.int .i64 0,.slice none 0 0,.slice none 0 0,.int .i64 0,.string ⟨#[]⟩,.string ⟨#[]⟩,.slice none 0 0]);have T4:=Aa (T3.out.keep (AJ.of_below hb3));have hp:=(HPA.out _ (i'+1) Q4.out.2 (HTB3.out.below hb3) hlen).mono (fun _ _ hh=>AG.any hh);clear q3 ht hb3;go_wp2_with fail;generalize hW4:w3.alloc (.cells #[.int .i64 0,.slice none 0 0,.slice none 0 0,.int .i64 0,.string ⟨#[]⟩,.string ⟨#[]⟩,.slice none 0 0] 33)=W4 at *;clear hW4
      refine hp.mono ?_;rintro e w5 ⟨i5,code2,kd2,Al2,BO,cl2,Ar2,nr2,cr2,op2,p2,q2,A2,n2,c2,rfl,q5,hor⟩;have XZ5:=Aa (XZ4.out.other q5.1 (Nat.ne_of_gt hgw));have X5:=Aa (X4.out.other q5.1 (by omega));have k5:=K4.out.other q5.1 (by omega);have T5:=Aa (T4.out.keep (AJ.of_only' q5.1 (fun hh=>by have:=hh.1.1;omega)));have hs5:=q5.1.size;have Q5:=Aa (Q4.out.trans q5);have HOR:=Aa hor;clear q5 hp hor
      go_upto_region 5 with (with_reducible refine Ab rfl 33 _ _ rfl w3.heap.size #[.int .i64 kd2,.slice Al2 BO cl2,.slice Ar2 nr2 cr2,.int .i64 op2,.string p2,.string q2,.slice A2 n2 c2] rfl rfl _ k5 (by kernel_rfl) rfl (by simp[Value.oneCell']) ?_;intro w6 k6 ho6);have K6:=Aa k6;have XZ6:=Aa (XZ5.out.other ho6 (by omega));have x6:=X5.out.other ho6 (by omega);have T6:=Aa (T5.out.keep (AJ.of_only' ho6 (fun hh=>by have:=hh.2;omega)))
      have Q6:=Aa (AB.fresh HH.out Q5.out ho6 (by omega));have HOR6:=Aa (show (code2=0/\∃t r1,As D.kn next lv (rd D.ts (i'+1))=.ok t r1/\AW (BG W4.heap.size) w6 (gt t) [.int .i64 kd2,.slice Al2 BO cl2,.slice Ar2 nr2 cr2,.int .i64 op2,.string p2,.string q2,.slice A2 n2 c2]/\Aq D (i'+1) r1 i5)\/(∃cd r1,code2=((cd:Nat):Int)/\cd≠0/\As D.kn next lv (rd D.ts (i'+1))=.err cd r1/\Aq D (i'+1) r1 i5) from by
       rcases HOR.out with ⟨h0,t,r1,h1,h2,h3⟩|hh
       · exact Or.inl ⟨h0,t,r1,h1,h2.keep (AJ.of_only ho6 (by omega)),h3⟩
       · exact Or.inr hh)
      have hs6:=ho6.size;have a0:=k6.cell 0 _ rfl;have a1:=k6.cell 1 _ rfl;have a2:=k6.cell 2 _ rfl;have a3:=k6.cell 3 _ rfl;have a4:=k6.cell 4 _ rfl;have a5:=k6.cell 5 _ rfl;have a6:=k6.cell 6 _ rfl;have l0:=x6.cell 0 _ rfl;have l1:=x6.cell 1 _ rfl;have l2:=x6.cell 2 _ rfl;have l3:=x6.cell 3 _ rfl;have l4:=x6.cell 4 _ rfl;have l5:=x6.cell 5 _ rfl;have l6:=x6.cell 6 _ rfl;clear HOR k6 ho6 k5
      have hb7:=Ae w6 (.cells #[.int .i64 kd1,.slice Al1 nl1 cl1,.slice Ar1 nr1 cr1,.int .i64 op1,.string p1,.string q1,.slice A1 n1 c1,.int .i64 kd2,.slice Al2 BO cl2,.slice Ar2 nr2 cr2,.int .i64 op2,.string p2,.string q2,.slice A2 n2 c2] 33);have x7:=x6.next hb7;have XZ7:=Aa (XZ6.out.next hb7)
      have G7:=Aa (Am.new 33 w6 #[.int .i64 kd1,.slice Al1 nl1 cl1,.slice Ar1 nr1 cr1,.int .i64 op1,.string p1,.string q1,.slice A1 n1 c1,.int .i64 kd2,.slice Al2 BO cl2,.slice Ar2 nr2 cr2,.int .i64 op2,.string p2,.string q2,.slice A2 n2 c2]);have T7:=Aa (T6.out.keep (AJ.of_below hb7));have Q7:=Aa (Q6.out.below hb7)
      have HOR7:=Aa (show (code2=0/\∃t r1,As D.kn next lv (rd D.ts (i'+1))=.ok t r1/\AW (BG W4.heap.size) (w6.alloc (.cells #[.int .i64 kd1,.slice Al1 nl1 cl1,.slice Ar1 nr1 cr1,.int .i64 op1,.string p1,.string q1,.slice A1 n1 c1,.int .i64 kd2,.slice Al2 BO cl2,.slice Ar2 nr2 cr2,.int .i64 op2,.string p2,.string q2,.slice A2 n2 c2] 33)) (gt t) [.int .i64 kd2,.slice Al2 BO cl2,.slice Ar2 nr2 cr2,.int .i64 op2,.string p2,.string q2,.slice A2 n2 c2]/\Aq D (i'+1) r1 i5)\/(∃cd r1,code2=((cd:Nat):Int)/\cd≠0/\As D.kn next lv (rd D.ts (i'+1))=.err cd r1/\Aq D (i'+1) r1 i5) from by
       rcases HOR6.out with ⟨h0,t,r1,h1,h2,h3⟩|hh
       · exact Or.inl ⟨h0,t,r1,h1,h2.keep (AJ.of_below hb7),h3⟩
       · exact Or.inr hh)
      clear hb7 x6;go_wp2_with (with_reducible refine Ab rfl 33 _ _ rfl w2.heap.size #[.int .i64 (kind:Int),.slice none 0 0,.slice none 0 0,.int .i64 0,.string ⟨#[]⟩,.string ⟨#[]⟩,.slice (some ⟨w6.heap.size,0,none⟩) 2 2] rfl rfl _ x7 (by kernel_rfl) rfl (by simp[Value.oneCell']) ?_;intro w8 k8 ho8);have XZ8:=XZ7.out.other ho8 (by omega);have G8:=G7.out.other ho8 (by omega);have T8:=T7.out.keep (AJ.of_only' ho8 (fun hh=>by have:=hh.1.2;omega))
      have Q8:=AB.fresh HH.out Q7.out ho8 (by omega);have hc8:=Qi Q8.2;have HRR:=Aa (show Ue D g w2.heap.size i lv go O w w8 code2/\(code2=0->i'<i5/\i5<i+(rd D.ts i).length) from by
       rcases HOR7.out with ⟨h0,k,r1,h1,h2,h3⟩|⟨cd,r1,h0,hcd,h1,h3⟩
       · have hlk:=KT h1;have h4:=h3.2;have h5:0<r1.length:=(by rw[<-h3.1];exact SE _ _);refine ⟨⟨i5,_,none,0,0,none,0,0,_,_,_,_,_,_,k8,XZ8,Q8,Or.inl ⟨h0,mk t k,?_,?_,?_,?_⟩⟩,fun _=>by have:=HL.out;omega⟩
         · rw[HGT.out];refine AW.kids (T:=33) (kind:Int) [gt t,gt k] [[.int .i64 kd1,.slice Al1 nl1 cl1,.slice Ar1 nr1 cr1,.int .i64 op1,.string p1,.string q1,.slice A1 n1 c1],[.int .i64 kd2,.slice Al2 BO cl2,.slice Ar2 nr2 cr2,.int .i64 op2,.string p2,.string q2,.slice A2 n2 c2]] rfl ⟨by omega,by omega⟩ G8 (fun j x hx=>?_) (by simp);have h2':=h2.keep (AJ.of_only ho8 (by omega):AJ (BG W4.heap.size) _ w8);match j,hx with
           |0,hx=>
            injection hx with hx;subst hx
            exact ⟨_,rfl,T8.sub (fun b hb=>hb.1)⟩
           |1,hx=>
            injection hx with hx;subst hx
            exact ⟨_,rfl,h2'.sub (fun b hb=>⟨by unfold BG at hb;omega,by unfold BG at hb;omega⟩)⟩
           |j+2,hx=>simp at hx
         · rw[h3.1];exact HST.out.trans h3
         · rw[HOL.out,h1,h3.1];rfl
         · rw[h3.1];omega
       · refine ⟨⟨i5,_,none,0,0,none,0,0,_,_,_,_,_,_,k8,XZ8,Q8,Or.inr ⟨cd,r1,h0,hcd,HST.out.trans h3,?_⟩⟩,fun h=>by omega⟩;rw[HOL.out,h1];rfl)
      clear XZ8 G8 T8 Q8 k8 ho8 l0 l1 l2 l3 l4 l5 l6 a0 a1 a2 a3 a4 a5 a6 x7;simp only[Act.put];go_roundw
      case rel=>exact ⟨_,rfl,Aa HRR.out.1⟩
      case measure=>
       have hm:=HRR.out.2;refine XH (fun hz=>?_) (by omega);have h9:=hm hz;rw[hc8,hc1];omega
  · have gc:=Ja hcd;have gc2:=F7 hcd;subst h0;have HP:=Aa (fun w9 ho9=>AG.err (w':=w9) ho hcd hs (AB.fresh HH.out q1 ho9 (Nat.le_refl _)));clear hs ho hcd q1 x1;go_wp2_with (with_reducible refine Ab rfl 33 _ _ rfl w.heap.size #[.int .i64 0,.slice none 0 0,.slice none 0 0,.int .i64 0,.string ⟨#[]⟩,.string ⟨#[]⟩,.slice none 0 0] rfl rfl _ x0 (by kernel_rfl) rfl (by simp[Value.oneCell']) ?_;intro w9 k9 ho9);refine Ay rfl rfl rfl k9 rfl ?_;exact HP.out _ ho9
end
section
open Go.RowKit
open Lx Ex
structure ZI (t:GT) (kd:Int) (nl nr:Nat) (op:Int) (p q:ByteArray) (n:Nat):Prop where
 eq:∃l r ks,t=.mk kd l r op p q ks/\l.length=nl/\r.length=nr/\ks.length=n
theorem N9 (t:GT) (kd:Int) (Al:Option Addr) (nl cl:Nat) (Ar:Option Addr) (nr cr:Nat) (op:Int) (p q:ByteArray) (A:Option Addr) (n c:Nat) (w0:World) (ht:ZI t kd nl nr op p q n):Calls Tryz.prog 25 #[.agg #[.int .i64 kd,.slice Al nl cl,.slice Ar nr cr,.int .i64 op,.string p,.string q,.slice A n c]] w0 (Av (FG t) w0):=by
 obtain ⟨l,r,ks,rfl,hl,hr,hk⟩:=ht.eq;obtain ⟨x1,hb,-⟩:=Ap 33 w0 #[.int .i64 kd,.slice Al nl cl,.slice Ar nr cr,.int .i64 op,.string p,.string q,.slice A n c];have HB:=Aa hb;have c0:=x1.cell 0 _ rfl;have c1:=x1.cell 1 _ rfl;have c2:=x1.cell 2 _ rfl;have c3:=x1.cell 3 _ rfl;have c4:=x1.cell 4 _ rfl;have c5:=x1.cell 5 _ rfl;have c6:=x1.cell 6 _ rfl;have hbe:FG (.mk kd l r op p q ks)=(decide (nl=0)&&decide (nr=0)&&decide (op=0)&&decide (p=eS)&&decide (q=eS)):=by rw[FG,hl,hr]
 rw[hbe];clear ht hl hr hk hb x1 hbe;by_cases h1:nl=0
 · have g0:((nl:Int)==0)=true:=(by simp;omega);by_cases h2:nr=0
   · have g1:((nr:Int)==0)=true:=(by simp;omega);by_cases h3:op=0
     · have g2:(op==0)=true:=(by simp[h3]);by_cases h4:p=eS
       · have g3:=Dw h4;by_cases h5:q=eS
         · have g4:=Dw h5;have HP:=Aa (show Av (decide (nl=0)&&decide (nr=0)&&decide (op=0)&&decide (p=eS)&&decide (q=eS)) w0 (.returned (.bool true)) _ from ⟨by simp[h1,h2,h3,h4,h5],HB.out⟩);clear h1 h2 h3 h4 h5;go_enter Tryz.func25,Tryz.ntmps25;go_wp2_with fail;go_ret
           exact HP.out
         · have g4:=Cr h5;have HP:=Aa (show Av (decide (nl=0)&&decide (nr=0)&&decide (op=0)&&decide (p=eS)&&decide (q=eS)) w0 (.returned (.bool false)) _ from ⟨by simp[h5],HB.out⟩);clear h1 h2 h3 h4 h5;go_enter Tryz.func25,Tryz.ntmps25;go_wp2_with fail;go_ret
           exact HP.out
       · have g3:=Cr h4;have HP:=Aa (show Av (decide (nl=0)&&decide (nr=0)&&decide (op=0)&&decide (p=eS)&&decide (q=eS)) w0 (.returned (.bool false)) _ from ⟨by simp[h4],HB.out⟩);clear h1 h2 h3 h4;go_enter Tryz.func25,Tryz.ntmps25;go_wp2_with fail;go_ret
         exact HP.out
     · have g2:(op==0)=false:=(by simpa using h3);have HP:=Aa (show Av (decide (nl=0)&&decide (nr=0)&&decide (op=0)&&decide (p=eS)&&decide (q=eS)) w0 (.returned (.bool false)) _ from ⟨by simp[h3],HB.out⟩);clear h1 h2 h3;go_enter Tryz.func25,Tryz.ntmps25;go_wp2_with fail;go_ret
       exact HP.out
   · have g1:((nr:Int)==0)=false:=(by simp;omega);have HP:=Aa (show Av (decide (nl=0)&&decide (nr=0)&&decide (op=0)&&decide (p=eS)&&decide (q=eS)) w0 (.returned (.bool false)) _ from ⟨by simp[h2],HB.out⟩);clear h1 h2;go_enter Tryz.func25,Tryz.ntmps25;go_wp2_with fail;go_ret
     exact HP.out
 · have g0:((nl:Int)==0)=false:=(by simp;omega);have HP:=Aa (show Av (decide (nl=0)&&decide (nr=0)&&decide (op=0)&&decide (p=eS)&&decide (q=eS)) w0 (.returned (.bool false)) _ from ⟨by simp[h1],HB.out⟩);clear h1;go_enter Tryz.func25,Tryz.ntmps25;go_wp2_with fail;go_ret
   exact HP.out
def VU (r:Option Nat) (w:World) (e:Ending) (w':World):Prop:=e=.returned (.tuple #[.int .i64 (((r.getD 0:Nat)):Int),.bool r.isSome])/\Below w.heap.size w w'
theorem OZ (k:Int) (w0:World):Calls Tryz.prog 69 #[.int .i64 k] w0 (VU (Cv k) w0):=by
 have HB:=Aa (Below.refl w0.heap.size w0);by_cases h0:k=0
 · subst h0;go_enter Tryz.func69,Tryz.ntmps69;go_wp2_with fail;go_ret2
   exact ⟨rfl,HB.out⟩
 have g0:(k==0)=false:=by simp;omega
 by_cases h1:k=1
 · subst h1;go_enter Tryz.func69,Tryz.ntmps69;go_wp2_with fail;go_ret2
   exact ⟨rfl,HB.out⟩
 have g1:(k==1)=false:=by simp;omega
 by_cases h3:k=3
 · subst h3;go_enter Tryz.func69,Tryz.ntmps69;go_wp2_with fail;go_ret2
   exact ⟨rfl,HB.out⟩
 have g3:(k==3)=false:=by simp;omega
 by_cases h4:k=4
 · subst h4;go_enter Tryz.func69,Tryz.ntmps69;go_wp2_with fail;go_ret2
   exact ⟨rfl,HB.out⟩
 have g4:(k==4)=false:=by simp;omega
 by_cases h5:k=5
 · subst h5;go_enter Tryz.func69,Tryz.ntmps69;go_wp2_with fail;go_ret2
   exact ⟨rfl,HB.out⟩
 have g5:(k==5)=false:=by simp;omega
 have HE:=Aa (show Cv k=none from by unfold Cv;rw[if_neg (by omega),if_neg (by omega),if_neg (by omega)]);clear h0 h1 h3 h4 h5;go_enter Tryz.func69,Tryz.ntmps69;go_wp2_with fail;go_ret2
 exact ⟨by rw[HE.out];rfl,HB.out⟩
theorem F8 (k kid:Int) (i:Nat) (w0:World):Calls Tryz.prog 70 #[.int .i64 k,.int .i64 kid,.int .i64 (i:Int)] w0 (Av (Bh k kid i) w0):=by
 have HB:=Aa (Below.refl w0.heap.size w0);by_cases hi:0<i
 · have gi:((0:Int)<(i:Int)):=(by omega);have gj:decide (0<i)=true:=(by simp;omega);by_cases h5:kid=5
   · by_cases k5:k=5
     · have HP:=Aa (show Av (Bh k kid i) w0 (.returned (.bool true)) w0 from ⟨by unfold Bh;simp[h5,k5,hi],HB.out⟩);have g5:(k != 5)=false:=(by simp[k5]);have e5:(kid==5)=true:=(by simp[h5]);clear h5 k5 hi;go_enter Tryz.func70,Tryz.ntmps70;go_wp2_with fail;go_ret
       exact HP.out
     · have HP:=Aa (show Av (Bh k kid i) w0 (.returned (.bool true)) w0 from ⟨by unfold Bh;simp[h5,k5],HB.out⟩);have g5:(k != 5)=true:=(by simpa using k5);have e5:(kid==5)=true:=(by simp[h5]);clear h5 k5 hi;go_enter Tryz.func70,Tryz.ntmps70;go_wp2_with fail;go_ret
       exact HP.out
   · have e5:(kid==5)=false:=(by simpa using h5);by_cases h4:kid=4
     · have e4:(kid==4)=true:=(by simp[h4]);by_cases k3:k=3
       · have HP:=Aa (show Av (Bh k kid i) w0 (.returned (.bool true)) w0 from ⟨by unfold Bh;simp[h4,k3],HB.out⟩);have g3:(k==3)=true:=(by simp[k3]);clear h5 h4 k3 hi;go_enter Tryz.func70,Tryz.ntmps70;go_wp2_with fail;go_ret
         exact HP.out
       · have g3:(k==3)=false:=(by simpa using k3);by_cases k4:k=4
         · have HP:=Aa (show Av (Bh k kid i) w0 (.returned (.bool true)) w0 from ⟨by unfold Bh;simp[h4,k4,hi],HB.out⟩);have g4:(k==4)=true:=(by simp[k4]);clear h5 h4 k3 k4 hi;go_enter Tryz.func70,Tryz.ntmps70;go_wp2_with fail;go_ret
           exact HP.out
         · have HP:=Aa (show Av (Bh k kid i) w0 (.returned (.bool false)) w0 from ⟨by unfold Bh;simp[h4,k3,k4],HB.out⟩);have g4:(k==4)=false:=(by simpa using k4);clear h5 h4 k3 k4 hi;go_enter Tryz.func70,Tryz.ntmps70;go_wp2_with fail;go_ret
           exact HP.out
     · have e4:(kid==4)=false:=(by simpa using h4);have HP:=Aa (show Av (Bh k kid i) w0 (.returned (.bool false)) w0 from ⟨by unfold Bh;simp[h4,h5],HB.out⟩);clear h5 h4 hi;go_enter Tryz.func70,Tryz.ntmps70;go_wp2_with fail;go_ret
       exact HP.out
 · have gi:¬((0:Int)<(i:Int)):=(by omega);have gj:decide (0<i)=false:=(by simp;omega);by_cases h5:kid=5
   · by_cases k5:k=5
     · have HP:=Aa (show Av (Bh k kid i) w0 (.returned (.bool false)) w0 from ⟨by unfold Bh;simp[h5,k5,hi],HB.out⟩);have g5:(k != 5)=false:=(by simp[k5]);have e5:(kid==5)=true:=(by simp[h5]);clear h5 k5 hi;go_enter Tryz.func70,Tryz.ntmps70;go_wp2_with fail;go_ret
       exact HP.out
     · have HP:=Aa (show Av (Bh k kid i) w0 (.returned (.bool true)) w0 from ⟨by unfold Bh;simp[h5,k5],HB.out⟩);have g5:(k != 5)=true:=(by simpa using k5);have e5:(kid==5)=true:=(by simp[h5]);clear h5 k5 hi;go_enter Tryz.func70,Tryz.ntmps70;go_wp2_with fail;go_ret
       exact HP.out
   · have e5:(kid==5)=false:=(by simpa using h5);by_cases h4:kid=4
     · have e4:(kid==4)=true:=(by simp[h4]);by_cases k3:k=3
       · have HP:=Aa (show Av (Bh k kid i) w0 (.returned (.bool true)) w0 from ⟨by unfold Bh;simp[h4,k3],HB.out⟩);have g3:(k==3)=true:=(by simp[k3]);clear h5 h4 k3 hi;go_enter Tryz.func70,Tryz.ntmps70;go_wp2_with fail;go_ret
         exact HP.out
       · have g3:(k==3)=false:=(by simpa using k3);by_cases k4:k=4
         · have HP:=Aa (show Av (Bh k kid i) w0 (.returned (.bool false)) w0 from ⟨by unfold Bh;simp[h4,k4,hi],HB.out⟩);have g4:(k==4)=true:=(by simp[k4]);clear h5 h4 k3 k4 hi;go_enter Tryz.func70,Tryz.ntmps70;go_wp2_with fail;go_ret
           exact HP.out
         · have HP:=Aa (show Av (Bh k kid i) w0 (.returned (.bool false)) w0 from ⟨by unfold Bh;simp[h4,k3,k4],HB.out⟩);have g4:(k==4)=false:=(by simpa using k4);clear h5 h4 k3 k4 hi;go_enter Tryz.func70,Tryz.ntmps70;go_wp2_with fail;go_ret
           exact HP.out
     · have e4:(kid==4)=false:=(by simpa using h4);have HP:=Aa (show Av (Bh k kid i) w0 (.returned (.bool false)) w0 from ⟨by unfold Bh;simp[h4,h5],HB.out⟩);clear h5 h4 hi;go_enter Tryz.func70,Tryz.ntmps70;go_wp2_with fail;go_ret
       exact HP.out
end
section
open Go.RowKit
open Lx Ex
end
section
open Go.RowKit
open Lx Ex
def ZU:Nat:=0
theorem AW.shape {S:Nat->Prop} {w:World} {t:GT} {vs:List Value} (h:AW S w t vs):∃(kd:Int) (Al:Option Addr) (nl cl:Nat) (Ar:Option Addr) (nr cr:Nat) (op:Int) (p q:ByteArray) (A:Option Addr) (n c:Nat),vs=[.int .i64 kd,.slice Al nl cl,.slice Ar nr cr,.int .i64 op,.string p,.string q,.slice A n c]:=by cases h;exact ⟨_,_,_,_,_,_,_,_,_,_,_,_,_,rfl⟩
inductive VV:GT->Prop where
 |mk (k op:Int) (l r:List Mn) (p q:ByteArray) (kids:List GT):l.length<=1000000->r.length<=1000000->kids.length<=1000000->(∀(j:Nat) (t:GT),kids[j]?=some t->VV t)->VV (.mk k l r op p q kids)
end
section
open Go.RowKit
open Lx Ex
inductive IK:GT->Prop where
 |mk (k op:Int) (l r:List Mn) (p q:ByteArray) (kids:List GT):JQ l->JQ r->l.length<=4611686018427387903->r.length<=4611686018427387903->(∀t∈kids,IK t)->IK (.mk k l r op p q kids)
theorem AW.parts {S:Nat->Prop} {w:World} {t:GT} {kd:Int} {Al:Option Addr} {nl cl:Nat} {Ar:Option Addr} {nr cr:Nat} {op:Int} {p q:ByteArray} {A:Option Addr} {n c:Nat} (h:AW S w t [.int .i64 kd,.slice Al nl cl,.slice Ar nr cr,.int .i64 op,.string p,.string q,.slice A n c]):∃l r ks,t=.mk kd l r op p q ks/\Du S w Al nl l/\Du S w Ar nr r/\ks.length=n/\nl<=cl/\cl<=9223372036854775807/\nr<=cr/\cr<=9223372036854775807/\n<=c/\c<=9223372036854775807 /\
  ∀j,j<n->∃b o u k2 Al2 BO cl2 Ar2 nr2 cr2 op2 p2 q2 A2 n2 c2,A=some ⟨b,o,none⟩/\S b/\b<w.heap.size/\ks[j]?=some u/\AW S w u [.int .i64 k2,.slice Al2 BO cl2,.slice Ar2 nr2 cr2,.int .i64 op2,.string p2,.string q2,.slice A2 n2 c2] /\
   w.cell? ⟨b,o+j*7,none⟩=some (.int .i64 k2)/\w.cell? ⟨b,o+j*7+1,none⟩=some (.slice Al2 BO cl2)/\w.cell? ⟨b,o+j*7+2,none⟩=some (.slice Ar2 nr2 cr2)/\w.cell? ⟨b,o+j*7+3,none⟩=some (.int .i64 op2)/\w.cell? ⟨b,o+j*7+4,none⟩=some (.string p2)/\w.cell? ⟨b,o+j*7+5,none⟩=some (.string q2)/\w.cell? ⟨b,o+j*7+6,none⟩=some (.slice A2 n2 c2):=by
 cases h with
 |mk _ _ l r _ _ ks _ _ _ _ _ _ _ _ _ b o cs h1 h2 h3 h4 h5 h6 h7 h8 h9 h10 h11 h12=>
  refine ⟨l,r,ks,rfl,h1,h2,h3,h4,h5,h6,h7,h8,h9,fun j hj=>?_⟩;have hl:j<ks.length:=by rw[h3];exact hj
  have ht:=h12 j _ (List.getElem?_eq_getElem hl);obtain ⟨k2,Al2,BO,cl2,Ar2,nr2,cr2,op2,p2,q2,A2,n2,c2,hv⟩:=ht.shape;have hc:=(h11 j hj).2;rw[hv]at ht hc;exact ⟨b,o,ks[j],_,_,_,_,_,_,_,_,_,_,_,_,_,(h10 (by omega)).1,(h10 (by omega)).2.1,(h10 (by omega)).2.2,List.getElem?_eq_getElem hl,ht,hc 0 _ rfl,hc 1 _ rfl,hc 2 _ rfl,hc 3 _ rfl,hc 4 _ rfl,hc 5 _ rfl,hc 6 _ rfl⟩
theorem F9 (S:Nat->Prop) (t:GT) (kd:Int) (Al:Option Addr) (nl cl:Nat) (Ar:Option Addr) (nr cr:Nat) (op:Int) (p q:ByteArray) (A:Option Addr) (n c:Nat) (w0:World) (h:AW S w0 t [.int .i64 kd,.slice Al nl cl,.slice Ar nr cr,.int .i64 op,.string p,.string q,.slice A n c]) (hz:IK t) (h9:nl<=4611686018427387903) (h8:nr<=4611686018427387903):Calls Tryz.prog 26 #[.agg #[.int .i64 kd,.slice Al nl cl,.slice Ar nr cr,.int .i64 op,.string p,.string q,.slice A n c]] w0 (Av (Kw t) w0):=by
 obtain ⟨l,r,ks,rfl,hl,hr,hk,hl1,hl2,hr1,hr2,-⟩:=h.parts;obtain ⟨hzl,hzr⟩:JQ l/\JQ r:=by cases hz with|mk _ _ _ _ _ _ _ h1 h2 _ _ _=>exact ⟨h1,h2⟩
 obtain ⟨x1,hb,-⟩:=Ap 33 w0 #[.int .i64 kd,.slice Al nl cl,.slice Ar nr cr,.int .i64 op,.string p,.string q,.slice A n c];have HB:=Aa hb;have X1:=Aa x1;have c0:=x1.cell 0 _ rfl;have c1:=x1.cell 1 _ rfl;have c2:=x1.cell 2 _ rfl;have c3:=x1.cell 3 _ rfl;have c4:=x1.cell 4 _ rfl;have c5:=x1.cell 5 _ rfl;have c6:=x1.cell 6 _ rfl;have HL:=Aa (fun W (hb:Below w0.heap.size w0 W) (h9:nl<=4611686018427387903)=>Dq S Al nl cl l W (hl.keep (AJ.of_below hb)) h9 hzl)
 have HR:=Aa (fun W (hb:Below w0.heap.size w0 W) (h9:nr<=4611686018427387903)=>Dq S Ar nr cr r W (hr.keep (AJ.of_below hb)) h9 hzr);have HCL:=Aa hl.1;have HCR:=Aa hr.1;have hbe:Kw (.mk kd l r op p q ks)=(decide (kd=2)&&decide (p=eS)&&decide (q=eS)&&decide (n=0)&&decide (0<=op)&&decide (op<6)&&Bl l&&Bl r):=by rw[Kw,hk]
 rw[hbe];clear h hz hl hr hk hb x1 hbe hzl hzr;by_cases hp:p=eS
 case neg=> have g1:=Cr hp;have HZ:=Aa (show (decide (kd=2)&&decide (p=eS)&&decide (q=eS)&&decide (n=0)&&decide (0<=op)&&decide (op<6)&&Bl l&&Bl r)=false from by simp[hp]);generalize (decide (kd=2)&&decide (p=eS)&&decide (q=eS)&&decide (n=0)&&decide (0<=op)&&decide (op<6)&&Bl l&&Bl r)=BB at *;clear hp;go_enter Tryz.func26,Tryz.ntmps26;go_wp2_with fail;all_goals (go_ret;exact ⟨by rw[HZ.out];rfl,Ae w0 _⟩)
 have g1:=Dw hp;by_cases hq:q=eS
 case neg=> have g2:=Cr hq;have HZ:=Aa (show (decide (kd=2)&&decide (p=eS)&&decide (q=eS)&&decide (n=0)&&decide (0<=op)&&decide (op<6)&&Bl l&&Bl r)=false from by simp[hq]);generalize (decide (kd=2)&&decide (p=eS)&&decide (q=eS)&&decide (n=0)&&decide (0<=op)&&decide (op<6)&&Bl l&&Bl r)=BB at *;clear hp hq;go_enter Tryz.func26,Tryz.ntmps26;go_wp2_with fail;all_goals (go_ret;exact ⟨by rw[HZ.out];rfl,Ae w0 _⟩)
 have g2:=Dw hq;by_cases hn:n=0
 case neg=> have g3:((n:Int)==0)=false:=(by simp;omega);have HZ:=Aa (show (decide (kd=2)&&decide (p=eS)&&decide (q=eS)&&decide (n=0)&&decide (0<=op)&&decide (op<6)&&Bl l&&Bl r)=false from by simp[hn]);generalize (decide (kd=2)&&decide (p=eS)&&decide (q=eS)&&decide (n=0)&&decide (0<=op)&&decide (op<6)&&Bl l&&Bl r)=BB at *;clear hp hq hn;go_enter Tryz.func26,Tryz.ntmps26;go_wp2_with fail;all_goals (go_ret;exact ⟨by rw[HZ.out];rfl,Ae w0 _⟩)
 have g3:((n:Int)==0)=true:=by simp;omega
 by_cases h0:0<=op
 case neg=> have HZ:=Aa (show (decide (kd=2)&&decide (p=eS)&&decide (q=eS)&&decide (n=0)&&decide (0<=op)&&decide (op<6)&&Bl l&&Bl r)=false from by simp[h0]);generalize (decide (kd=2)&&decide (p=eS)&&decide (q=eS)&&decide (n=0)&&decide (0<=op)&&decide (op<6)&&Bl l&&Bl r)=BB at *;clear hp hq hn;go_enter Tryz.func26,Tryz.ntmps26;go_wp2_with fail;all_goals (go_ret;exact ⟨by rw[HZ.out];rfl,Ae w0 _⟩)
 by_cases h6:op<6
 case neg=> have HZ:=Aa (show (decide (kd=2)&&decide (p=eS)&&decide (q=eS)&&decide (n=0)&&decide (0<=op)&&decide (op<6)&&Bl l&&Bl r)=false from by simp[h6]);generalize (decide (kd=2)&&decide (p=eS)&&decide (q=eS)&&decide (n=0)&&decide (0<=op)&&decide (op<6)&&Bl l&&Bl r)=BB at *;clear hp hq hn;go_enter Tryz.func26,Tryz.ntmps26;go_wp2_with fail;all_goals (go_ret;exact ⟨by rw[HZ.out];rfl,Ae w0 _⟩)
 by_cases h2:kd=2
 case neg=> have g4:(kd==2)=false:=(by simpa using h2);have HZ:=Aa (show (decide (kd=2)&&decide (p=eS)&&decide (q=eS)&&decide (n=0)&&decide (0<=op)&&decide (op<6)&&Bl l&&Bl r)=false from by simp[h2]);generalize (decide (kd=2)&&decide (p=eS)&&decide (q=eS)&&decide (n=0)&&decide (0<=op)&&decide (op<6)&&Bl l&&Bl r)=BB at *;clear hp hq hn h2;go_enter Tryz.func26,Tryz.ntmps26;go_wp2_with fail;all_goals (go_ret;exact ⟨by rw[HZ.out];rfl,Ae w0 _⟩)
 have g4:(kd==2)=true:=by simp[h2]
 have HE:=Aa (show (decide (kd=2)&&decide (p=eS)&&decide (q=eS)&&decide (n=0)&&decide (0<=op)&&decide (op<6)&&Bl l&&Bl r)=(Bl l&&Bl r) from by simp[h2,hp,hq,hn,h0,h6]);generalize (decide (kd=2)&&decide (p=eS)&&decide (q=eS)&&decide (n=0)&&decide (0<=op)&&decide (op<6)&&Bl l&&Bl r)=BB at *;clear h2 hp hq hn;go_enter Tryz.func26,Tryz.ntmps26;go_wp2_with fail;refine (HL.out _ HB.out h9).mono ?_;rintro e w2 ⟨rfl,b2⟩;have HB2:=Aa (HB.out.next b2)
 have c2:=(X1.out.next b2).cell 2 _ rfl;clear b2 c0 c1 c3 c4 c5 c6 g1 g2 g3 g4;generalize Bl l=bl at *;cases bl
 · have HP:=Aa (show Av BB w0 (.returned (.bool false)) w2 from ⟨by rw[HE.out];rfl,HB2.out⟩);go_wp2_with fail;go_ret
   exact HP.out
 · go_wp2_with fail;refine (HR.out _ HB2.out h8).mono ?_;rintro e w3 ⟨rfl,b3⟩;have HP:=Aa (show Av BB w0 (.returned (.bool (Bl r))) w3 from ⟨by rw[HE.out];rfl,HB2.out.next b3⟩);clear b3;go_wp2_with fail;go_ret
   exact HP.out
end
end Go.Proofs.YtgohmojcopajoaaGreatDoor
