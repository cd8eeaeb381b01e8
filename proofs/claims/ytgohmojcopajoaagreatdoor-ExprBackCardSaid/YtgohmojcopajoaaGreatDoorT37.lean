/- Texts of one seat, put together: ExprTz ExprBk ExprLn ExprAn ExprLp. -/
import Derived.Test.YtgohmojcopajoaaGreatDoorT36
import Derived.Test.YtgohmojcopajoaaGreatDoorT27
import Derived.Test.YtgohmojcopajoaaGreatDoorT06
import Derived.Test.YtgohmojcopajoaaGreatDoorT25
set_option linter.unusedVariables false
set_option linter.unusedSimpArgs false
set_option maxRecDepth 100000
set_option maxHeartbeats 16000000
namespace Go.Proofs.YtgohmojcopajoaaGreatDoor
section
open Go.RowKit
open Lx Ex
theorem S8 {s:ByteArray} (h:Da s=true):s.size<=60:=by unfold Da at h;simp at h;omega
theorem PY {s:ByteArray} (h:BL s=true):s.size<=20:=by unfold BL at h;simp at h;omega
theorem O5 {m:Mn} (h:Jn m=true):m.num.size<=60/\m.var.size<=20:=by
 have e0:eS.size=0:=rfl;unfold Jn at h;simp only[Bool.and_eq_true,Bool.or_eq_true,decide_eq_true_eq]at h;constructor
 · rcases h.1.2 with h1|h1
   · rw[h1,e0];omega
   · exact S8 h1
 · rcases h.2 with h1|h1
   · rw[h1,e0];omega
   · exact PY h1
theorem Mg {l:List Mn} (h:Bd l=true):Sz l=true/\l.length<=64:=by refine ⟨?_,Oy h⟩;unfold Bd at h;unfold Sz;simp only[Bool.and_eq_true,decide_eq_true_eq]at h;rw[List.all_eq_true]at h ⊢;intro m hm;have:=O5 (h.2 m hm);simp;omega
theorem Jx (u:Tr):∀lv,right lv u->Hz u=true:=by
 induction u with
 |leaf b=>intro lv h;rfl
 |cmp l o r=>
  intro lv h;rw[right]at h;have h1:=Mg ((EN _).2 h.1);have h2:=Mg ((EN _).2 h.2.2);simp only[Hz,Bool.and_eq_true,decide_eq_true_eq];exact ⟨⟨⟨h1.1,h2.1⟩,by omega⟩,by omega⟩
 |deny t ih=>
  intro lv h;rw[right]at h;split at h
  · exact ih _ h.2
  · exact ih _ h.2
 |both a b iha ihb=>
  intro lv h;rw[right]at h;simp only[Hz,Bool.and_eq_true];refine ⟨?_,?_⟩
  · have:=h.1;split at this
    · exact iha _ this.2
    · exact iha _ this
  · have:=h.2;split at this
    · exact ihb _ this.2
    · exact ihb _ this
 |any a b iha ihb=>
  intro lv h;rw[right]at h;simp only[Hz,Bool.and_eq_true];refine ⟨iha _ h.1,?_⟩;have:=h.2;split at this
  · exact ihb _ this.2
  · exact ihb _ this
theorem PZ {kn:ByteArray->Bool} {f g:Bool} {r r1:List PT} {c:Nat} (h:Bc kn f g r=.err c r1):c≠0:=by
 unfold Bc at h;repeat' split at h
 all_goals first|(injection h with h1 _;omega)|cases h
theorem Jy (kn:ByteArray->Bool) (n:Nat):∀(g:Bool) (acc:List Mn) (r r1:List PT) (c:Nat),Cd kn n g acc r=.err c r1->c≠0:=by
 induction n with
 |zero=>intro g acc r r1 c h;cases h
 |succ n ih=>
  intro g acc r r1 c h;rw[Cd]at h;split at h
  · cases h
  · rename_i hm
    injection h with h1 _
    subst h1;exact PZ hm
  · split at h
    · exact ih _ _ _ _ _ h
    · split at h
      · exact ih _ _ _ _ _ h
      · cases h
theorem KJ {kn:ByteArray->Bool} {r r1:List PT} {c:Nat} (h:Be kn r=.err c r1):c≠0:=by
 unfold Be at h;split at h
 · exact Jy _ _ _ _ _ _ _ h
 · exact Jy _ _ _ _ _ _ _ h
theorem Qa {kn:ByteArray->Bool} {r r1:List PT} {c:Nat} (h:Gg kn r=.err c r1):c≠0:=by
 unfold Gg at h;split at h
 · cases h
 · rename_i hm
   injection h with h1 _
   subst h1;exact KJ hm
 · split at h
   · injection h with h1 _;omega
   · split at h
     · cases h
     · rename_i hm
       injection h with h1 _
       subst h1;exact KJ hm
     · cases h
theorem Qb (kn:ByteArray->Bool) (n:Nat):∀(md:Md) (lv:Nat) (r r1:List PT) (c:Nat),AW kn n md lv r=.err c r1->c≠0:=by
 induction n with
 |zero=>intro md lv r r1 c h;cases md<;>cases h
 |succ n ih=>
  intro md lv r r1 c h;have pass:∀{md' lv' r' c' r2'},AW kn n md' lv' r'=.err c' r2'->(Out.err c' r2':Out Tr)=.err c r1->c≠0:=by
   intro md' lv' r' c' r2' h1 h2;injection h2 with h3 _
   subst h3;exact ih _ _ _ _ _ h1
  cases md<;>rw[AW]at h
  all_goals repeat' split at h
  all_goals first
   |(injection h with h1 _;omega)
   |exact Qa h
   |exact ih _ _ _ _ _ h
   |(rename_i hm;exact pass hm h)
   |cases h
theorem VO {s:ByteArray} (h:(DR s).2.2.2=0):∃u r1,(DR s).1=gt u/\right 60 u/\Am (fun _=>true) .cond 60 (rd (Ah s) 0)=.ok u r1:=by
 unfold DR at h ⊢;by_cases hc:(Aj (Ab s) s.size).code=0
 · rw[if_pos hc]at h ⊢;dsimp only at h ⊢
   rw[if_pos h];cases hp:Am (fun _=>true) .cond 60 (rd (Ah s) 0) with
   |ok u r1=>exact ⟨u,r1,rfl,(Po (U6 s 0) hp).1,rfl⟩
   |err c r1=>
    rw[hp]at h;unfold Cz at h;by_cases h0:c=0
    · exact absurd h0 (Qb _ _ _ _ _ _ _ hp)
    · rw[if_neg (show ¬Ja (Out.err c r1:Out Tr)=0 from h0)]at h;exact absurd h h0
   |fuel=>exact absurd hp (OJ _ _ _ _)
 · rw[if_neg hc]at h;exact absurd h hc
end
section
open Go.RowKit
open Lx Ex
theorem GM {s:ByteArray} (h:(Aj (Ab s) s.size).code=0):rd (Ah s) 0=(Aj (Ab s) s.size).toks.map (V7 s):=by have hp:=E8 h;unfold rd view;rw[if_neg (by omega),Nat.zero_min,List.drop_zero];unfold Ah;rw[List.map_map];rfl
theorem Nf {s:ByteArray} (h:(Aj (Ab s) s.size).code=0):(hd (Ah s) ((Ah s).length-1)).kind=5:=by
 have hp:=E8 h;unfold hd view;rw[if_neg (by omega),Nat.min_self];have hl:(Ah s).length-1<(Ah s).length:=by omega
 rw[List.drop_eq_getElem_cons hl];exact Hy s _ (List.getElem?_eq_getElem hl)
theorem KL {α:Type} {s:ByteArray} (h:(Aj (Ab s) s.size).code=0) (x:α) (p:PT):Dh (Ah s) 0 (Out.ok x [p])=(Ah s).length-1:=by have hp:=E8 h;unfold Dh;rw[Mx];unfold view;rw[if_neg (by omega),Nat.zero_min,List.drop_zero];show 0+_-1=_;omega
theorem KN (l:List UInt8):(⟨l.toArray⟩:ByteArray).size=l.length:=by show l.toArray.size=_;simp
theorem Mh (u:Tr) (h:right 60 u) (hk:knows (fun _=>true) u) (hN:(Ai u).length<=16384):DR ⟨(Ai u).toArray⟩=(gt u,0,0,0):=by
 obtain ⟨h1,h2⟩:=Sk (fun _=>true) ⟨(Ai u).toArray⟩ u 60 h hk (Uq u 60 h) (by rw[KN];exact hN);rw[<-GM h1]at h2;unfold DR;rw[if_pos h1,h2,KL h1];have h5:=Nf h1;have e:Cz (hd (Ah ⟨(Ai u).toArray⟩) ((Ah ⟨(Ai u).toArray⟩).length-1)).kind (Ja (Out.ok u [((5,eS):PT)]))=0:=by unfold Cz;rw[if_pos (show Ja (Out.ok u [((5,eS):PT)])=0 from rfl),if_pos h5]
 unfold El;rw[e];rfl
theorem S9 (l:List Mn) (h:Dd l) (hk:Fh (fun _=>true) l) (hN:(AP true l).length<=16384):PU ⟨(AP true l).toArray⟩=(l,0,0,0):=by
 obtain ⟨h1,h2⟩:=Lf (fun _=>true) ⟨(AP true l).toArray⟩ l h hk (Ou l h) (by rw[KN];exact hN);rw[<-GM h1]at h2;unfold PU;rw[if_pos h1,h2,KL h1];have h5:=Nf h1;have e:Cz (hd (Ah ⟨(AP true l).toArray⟩) ((Ah ⟨(AP true l).toArray⟩).length-1)).kind (Ja (Out.ok l [((5,eS):PT)]))=0:=by unfold Cz;rw[if_pos (show Ja (Out.ok l [((5,eS):PT)])=0 from rfl),if_pos h5]
 unfold El;rw[e];rfl
theorem Mi (u:Tr):knows (fun _=>true) u:=by
 induction u with
 |leaf b=>exact trivial
 |cmp l o r=>exact ⟨fun _ _ _=>rfl,fun _ _ _=>rfl⟩
 |deny t ih=>exact ih
 |both a b iha ihb=>exact ⟨iha,ihb⟩
 |any a b iha ihb=>exact ⟨iha,ihb⟩
end
end Go.Proofs.YtgohmojcopajoaaGreatDoor
namespace Go.Proofs.YtgohmojcopajoaaGreatDoor.Ex
section
open Lx
def w3:List PT->Nat
 |[]=>0
 |p::r=>3*(ub p.2).length+w3 r
theorem EU {s:ByteArray} {r:List PT} (h:AK s r=true):w3 r=3*(ub s).length+w3 r.tail:=by
 cases r with
 |nil=>cases h
 |cons p r=> obtain ⟨k,t⟩:=p;unfold AK at h;simp only[Bool.and_eq_true,decide_eq_true_eq]at h;rw[w3,<-h.1];rfl
theorem UA (m:Mn):(Gi m).length<=(ub m.num).length+1+(ub m.var).length:=by unfold Gi;split<;>simp<;>omega
theorem UB (v:ByteArray) (g:Bool):(Gi ⟨⟨#[]⟩,v,g⟩).length=(ub v).length:=by unfold Gi;rw[if_neg (fun h=>h.1 rfl)];show ([]++([]++ub v)).length=_;simp
theorem UC (v:ByteArray) (g:Bool):(Gi ⟨v,⟨#[]⟩,g⟩).length=(ub v).length:=by unfold Gi;rw[if_neg (fun h=>h.2 rfl)];show (ub v++([]++ub ⟨#[]⟩)).length=_;simp[ub]
theorem VP {kn:ByteArray->Bool} {f g:Bool} {r r1:List PT} {x:Mn} (h:Bc kn f g r=.ok x r1):(Gi x).length+w3 r1<=w3 r/\x.neg=g:=by
 cases r with
 |nil=>cases h
 |cons p r=>
  unfold Bc at h;dsimp only at h
  split at h
  · split at h
    · cases h
    · split at h
      · rename_i hs
        have hw:=EU hs;cases hr:r.tail with
        |nil=>rw[hr]at h;cases h
        |cons p2 r2=>
          rw[hr]at h;dsimp only at h
          split at h
          · split at h
            · injection h with h1 h2
              subst h1 h2;have:=UA ⟨p.2,p2.2,g⟩;dsimp only at this
              rw[hr]at hw;rw[w3,hw,w3];exact ⟨by
               have e:(ub (⟨#[42]⟩:ByteArray)).length=1:=rfl;omega,rfl⟩
            · cases h
          · cases h
      · injection h with h1 h2
        subst h1 h2;rw[UC,w3];exact ⟨by omega,rfl⟩
  · split at h
    · split at h
      · cases h
      · split at h
        · injection h with h1 h2
          subst h1 h2;rw[UB,w3];exact ⟨by omega,rfl⟩
        · cases h
    · cases h
theorem SA (g:Bool):(GW false g).length=3:=by cases g<;>rfl
theorem O6 (kn:ByteArray->Bool) (n:Nat):∀(g:Bool) (acc:List Mn) (r:List PT) (l:List Mn) (r1:List PT),Cd kn n g acc r=.ok l r1->∃x l2,l=acc++x::l2/\x.neg=g/\(Gi x).length+(AP false l2).length+w3 r1<=w3 r:=by
 induction n with
 |zero=>intro g acc r l r1 h;cases h
 |succ n ih=>
  intro g acc r l r1 h;rw[Cd]at h;split at h
  · cases h
  · cases h
  · rename_i x r2 hm
    have hx:=VP hm;have step:∀(g2:Bool) (s:ByteArray),(ub s).length=1->AK s r2=true->Cd kn n g2 (acc++[x]) r2.tail=.ok l r1->∃x l2,l=acc++x::l2/\x.neg=g/\(Gi x).length+(AP false l2).length+w3 r1<=w3 r:=by intro g2 s hs ht h2;obtain ⟨y,l2,e,hy,hw⟩:=ih _ _ _ _ _ h2;have h3:=EU ht;refine ⟨x,y::l2,by rw[e];simp,hx.2,?_⟩;rw[AP];simp only[List.length_append];have:=SA y.neg;omega
    split at h
    · rename_i ht;exact step _ _ rfl ht h
    · split at h
      · rename_i ht;exact step _ _ rfl ht h
      · injection h with h1 h2
        subst h1 h2;exact ⟨x,[],rfl,hx.2,by have:=hx.1;simp[AP];omega⟩
theorem QP {kn:ByteArray->Bool} {r r1:List PT} {l:List Mn} (h:Be kn r=.ok l r1):(AP true l).length+w3 r1<=w3 r:=by
 unfold Be at h;split at h
 · rename_i ht
   have h3:=EU ht;obtain ⟨x,l2,e,hy,hw⟩:=O6 kn _ _ _ _ _ _ h;subst e;rw[List.nil_append,AP,hy];simp only[List.length_append];have e1:(ub (⟨#[45]⟩:ByteArray)).length=1:=rfl;have e2:(GW true true).length=1:=rfl;omega
 · obtain ⟨x,l2,e,hy,hw⟩:=O6 kn _ _ _ _ _ _ h;subst e;rw[List.nil_append,AP,hy];simp only[List.length_append];have e2:(GW true false).length=0:=rfl;omega
theorem VQ {r:List PT} {op:Nat} (h:N0 r=some op):AK (EA op) r=true:=by unfold N0 at h;have:=List.find?_some h;exact this
theorem VR (op:Nat):1<=(ub (EA op)).length:=by unfold EA;split<;>decide
theorem VS {kn:ByteArray->Bool} {r r1:List PT} {t:Tr} (h:Gg kn r=.ok t r1):(Ai t).length+w3 r1<=w3 r/\AD t=false/\Au t=false:=by
 unfold Gg at h;split at h
 · cases h
 · cases h
 · rename_i l r2 hm
   have h1:=QP hm;split at h
   · cases h
   · rename_i op ho
     have h2:=EU (VQ ho);have h3:=VR op;split at h
     · cases h
     · cases h
     · rename_i x r3 hm2
       have h4:=QP hm2;injection h with h5 h6
       subst h5 h6;refine ⟨?_,rfl,rfl⟩;rw[Ai];simp only[List.length_append,List.length_cons];omega
def Jc (md:Md) (t:Tr):Nat:=match md with
 |.one=>if AD t || Au t then 2 else 0
 |.both=>if Au t then 2 else 0
 |.bothGo _=>if Au t then 2 else 0
 |_=>0
def J6:Md->Nat
 |.bothGo t=>(Ai t).length+(if Au t then 2 else 0)
 |.condGo t=>(Ai t).length
 |_=>0
theorem Qc (c:Bool) (l:List UInt8):(Cq c l).length=l.length+(if c then 2 else 0):=by cases c<;>simp[Cq]
theorem VT (kn:ByteArray->Bool) (n:Nat):∀(md:Md) (lv:Nat) (r:List PT) (t:Tr) (r1:List PT),AW kn n md lv r=.ok t r1->(Ai t).length+Jc md t+w3 r1<=w3 r+J6 md:=by
 induction n with
 |zero=>intro md lv r t r1 h;cases md<;>cases h
 |succ n ih=>
  intro md lv r t r1 h;have e1:∀c:UInt8,(ub (⟨#[c]⟩:ByteArray)).length=1:=fun c=>rfl
  cases md with
  |one=>
   rw[AW]at h;split at h
   · cases h
   · split at h
     · rename_i hs
       have hw:=EU hs;rw[e1]at hw;split at h
       · cases h
       · cases h
       · rename_i t2 r2 hm
         injection h with h1 h2
         subst h1 h2;have:=ih _ _ _ _ _ hm;simp only[Jc,J6]at this ⊢;rw[Ai,show (AD (.deny t2) || Au (.deny t2))=false from rfl];simp only[List.length_cons,Qc];simp only[Bool.false_eq_true,if_false];omega
     · split at h
       · rename_i hs
         have hw:=EU hs;rw[e1]at hw;split at h
         · cases h
         · cases h
         · rename_i t2 r2 hm
           split at h
           · rename_i hc
             have hw2:=EU hc;rw[e1]at hw2;injection h with h1 h2
             subst h1 h2;have:=ih _ _ _ _ _ hm;simp only[Jc,J6]at this ⊢;split<;>omega
           · cases h
       · split at h
         · rename_i hs
           have hw:=EU hs;injection h with h1 h2
           subst h1 h2;have e2:(ub (⟨#[116,114,117,101]⟩:ByteArray)).length=4:=rfl;have e3:(Ai (.leaf true)).length=4:=rfl;simp only[Jc,J6,AD,Au,Bool.or_self,Bool.false_eq_true,if_false];omega
         · split at h
           · rename_i hs
             have hw:=EU hs;injection h with h1 h2
             subst h1 h2;have e2:(ub (⟨#[102,97,108,115,101]⟩:ByteArray)).length=5:=rfl;have e3:(Ai (.leaf false)).length=5:=rfl;simp only[Jc,J6,AD,Au,Bool.or_self,Bool.false_eq_true,if_false];omega
           · obtain ⟨h1,h2,h3⟩:=VS h;simp only[Jc,J6,h2,h3,Bool.or_self,Bool.false_eq_true,if_false];omega
  |both=>
   rw[AW]at h;split at h
   · cases h
   · cases h
   · rename_i t2 r2 hm
     have h1:=ih _ _ _ _ _ hm;have h2:=ih _ _ _ _ _ h;simp only[Jc,J6]at h1 h2 ⊢;have:(if Au t2=true then 2 else 0)<=(if (AD t2 || Au t2)=true then 2 else 0):=by cases AD t2<;>cases Au t2<;>simp
     omega
  |bothGo t0=>
   rw[AW]at h;split at h
   · rename_i hs
     have hw:=EU hs;rw[e1]at hw;split at h
     · cases h
     · cases h
     · rename_i k r2 hm
       have h1:=ih _ _ _ _ _ hm;have h2:=ih _ _ _ _ _ h;simp only[Jc,J6]at h1 h2 ⊢;rw[Ai,show Au (.both t0 k)=false from rfl]at h2;simp only[List.length_append,Qc,List.length_cons,List.length_nil,Bool.false_eq_true,if_false]at h2;omega
   · injection h with h1 h2
     subst h1 h2;simp only[Jc,J6];omega
  |cond=>
   rw[AW]at h;split at h
   · cases h
   · cases h
   · rename_i t2 r2 hm
     have h1:=ih _ _ _ _ _ hm;have h2:=ih _ _ _ _ _ h;simp only[Jc,J6]at h1 h2 ⊢;omega
  |condGo t0=>
   rw[AW]at h;split at h
   · rename_i hs
     have hw:=EU hs;rw[e1]at hw;split at h
     · cases h
     · cases h
     · rename_i k r2 hm
       have h1:=ih _ _ _ _ _ hm;have h2:=ih _ _ _ _ _ h;simp only[Jc,J6]at h1 h2 ⊢;rw[Ai]at h2;simp only[List.length_append,Qc,List.length_cons,List.length_nil]at h2;omega
   · injection h with h1 h2
     subst h1 h2;simp only[Jc,J6];omega
theorem VU {kn:ByteArray->Bool} {lv:Nat} {r r1:List PT} {t:Tr} (h:Am kn .cond lv r=.ok t r1):(Ai t).length<=w3 r:=by have:=VT kn _ _ _ _ _ _ h;simp only[Jc,J6]at this;omega
end
end Go.Proofs.YtgohmojcopajoaaGreatDoor.Ex
namespace Go.Proofs.YtgohmojcopajoaaGreatDoor
section
open Go.RowKit
open Lx Ex
theorem Jd (w0:World) (htab:AQ w0):Calls Tryz.prog 8 #[] w0 (BE w0):=by
 have HC1:=Aa (Y0 w0 htab);have HTAB:=Aa (fun W (h:Below w0.heap.size w0 W)=>htab.below h);clear htab;go_enter Tryz.func8,Tryz.ntmps8;go_wp2_with fail;refine HC1.out.mono ?_;rintro e w1 ⟨kd,Al,nl,cl,Ar,nr,cr,op,p,q,A,n,c,rfl,hT,b1⟩;obtain ⟨l',r',ks,e,hl,hr,hk,hl1,hl2,hr1,hr2,hn1,hn2,hkid⟩:=hT.parts;have e:GT.mk 4 [] [] 0 ⟨#[]⟩ ⟨#[]⟩ [gt aA,gt aB]=GT.mk kd l' r' op p q ks:=e;injection e with e1 e2 e3 e4 e5 e6 e7
 subst e1 e2 e3 e4 e5 e6 e7;obtain rfl:0=nl:=hl.1;obtain rfl:0=nr:=hr.1;obtain rfl:2=n:=hk;obtain ⟨ba,oa,u,k2,Al2,C7,cl2,Ar2,nr2,cr2,op2,p2,q2,A2,n2,c2,rfl,hS9,hlt,hu,hti,e0,e1,e2,e3,e4,e5,e6⟩:=hkid 0 (by omega);have hu:some (gt aA)=some u:=hu;injection hu with hu
 subst hu;simp only[Nat.zero_mul,Nat.add_zero]at e0 e1 e2 e3 e4 e5 e6;obtain ⟨la',ra',kas,ea,hla,hra,hka,-⟩:=hti.parts;have ea:GT.mk 2 [⟨⟨#[]⟩,⟨#[120]⟩,false⟩,⟨⟨#[50]⟩,⟨#[]⟩,false⟩] [⟨⟨#[51]⟩,⟨#[121]⟩,false⟩] 3 ⟨#[]⟩ ⟨#[]⟩ []=GT.mk k2 la' ra' op2 p2 q2 kas:=ea;injection ea with a1 a2 a3 a4 a5 a6 a7
 subst a2 a3;have HNL:=Aa (show C7<=4611686018427387903 from by have:=hla.1;simp at this;omega);have HNR:=Aa (show nr2<=4611686018427387903 from by have:=hra.1;simp at this;omega);clear a1 a4 a5 a6 a7 hla hra hka;have HT:=Aa (fun W (h:Below w1.heap.size w1 W)=>hT.keep (AC.of_below h));have HTA:=Aa (fun W (h:Below w1.heap.size w1 W)=>hti.keep (AC.of_below h))
 have HEK:=Aa (show ∀W,Below w1.heap.size w1 W->(W.cell? ⟨ba,oa,none⟩=some (.int .i64 k2)/\W.cell? ⟨ba,oa+1,none⟩=some (.slice Al2 C7 cl2)/\W.cell? ⟨ba,oa+2,none⟩=some (.slice Ar2 nr2 cr2)/\W.cell? ⟨ba,oa+3,none⟩=some (.int .i64 op2)/\W.cell? ⟨ba,oa+4,none⟩=some (.string p2)/\W.cell? ⟨ba,oa+5,none⟩=some (.string q2)/\W.cell? ⟨ba,oa+6,none⟩=some (.slice A2 n2 c2)) from fun W h=>⟨(Ag h hlt).trans e0,(Ag h hlt).trans e1,(Ag h hlt).trans e2,(Ag h hlt).trans e3,(Ag h hlt).trans e4,(Ag h hlt).trans e5,(Ag h hlt).trans e6⟩)
 have HBA:=Aa hlt;clear hT hti hl hr hkid hl1 hl2 hr1 hr2 hn1 hS9 e0 e1 e2 e3 e4 e5 e6 hlt;obtain ⟨x1,x2,hb,hsz⟩:=Az 33 25 w1 #[.int .i64 4,.slice Al 0 cl,.slice Ar 0 cr,.int .i64 0,.string ⟨#[]⟩,.string ⟨#[]⟩,.slice (some ⟨ba,oa,none⟩) 2 c] #[.int .i64 0,.int .i64 0];have HB2:=Aa hb;have X1:=Aa x1;have X2:=Aa x2;have HB20:=Aa (b1.next hb);clear x1 x2 hb b1;go_wp2_with fail
 generalize hW:(w1.alloc (.cells #[.int .i64 4,.slice Al 0 cl,.slice Ar 0 cr,.int .i64 0,.string ⟨#[]⟩,.string ⟨#[]⟩,.slice (some ⟨ba,oa,none⟩) 2 c] 33)).alloc (.cells #[.int .i64 0,.int .i64 0] 25)=W2 at *;clear hW;refine (Y2 W2 (HTAB.out _ HB20.out)).mono ?_;rintro e w3 ⟨kd9,Al9,nl9,cl9,Ar9,nr9,cr9,op9,p9,q9,A9,n9,c9,rfl,-,b3⟩
 obtain ⟨y1,y2,hb,hsz3⟩:=Az 33 25 w3 #[.int .i64 kd9,.slice Al9 nl9 cl9,.slice Ar9 nr9 cr9,.int .i64 op9,.string p9,.string q9,.slice A9 n9 c9] #[.int .i64 1,.int .i64 4];have HB4:=Aa (HB2.out.next (b3.next hb));have HB40:=Aa (HB20.out.next (b3.next hb));have X5:=Aa y2;have X14:=Aa (X1.out.next (b3.next hb));have X24:=Aa (X2.out.next (b3.next hb));clear y1 y2 hb b3 X1 X2 HB2 HB20;go_wp2_with fail
 generalize hW:(w3.alloc (.cells #[.int .i64 kd9,.slice Al9 nl9 cl9,.slice Ar9 nr9 cr9,.int .i64 op9,.string p9,.string q9,.slice A9 n9 c9] 33)).alloc (.cells #[.int .i64 1,.int .i64 4] 25)=W4 at *;clear hW;refine (Y5 W4).mono ?_;rintro e w5 ⟨A3,c3,rfl,hq1,hq2,hm,b5⟩;have hb:=Ae w5 (.cells #[.int .i64 0,.int .i64 0] 25);have HB6:=Aa (HB4.out.next (b5.next hb));have HB60:=Aa (HB40.out.next (b5.next hb));have X16:=Aa (X14.out.next (b5.next hb))
 have X26:=Aa (X24.out.next (b5.next hb));have X56:=Aa (X5.out.next (b5.next hb));have HM6:=Aa (hm.keep (AC.of_below hb));clear hb b5 hm X14 X24 X5 HB4 HB40;have c0:=X16.out.cell 0 _ rfl;have c6:=X16.out.cell 6 _ rfl;have d0:=X26.out.cell 0 _ rfl;have d1:=X26.out.cell 1 _ rfl;have f0:=X56.out.cell 0 _ rfl;have f1:=X56.out.cell 1 _ rfl;go_upto_region 4 with fail;generalize hW:w5.alloc (.cells #[.int .i64 0,.int .i64 0] 25)=W6 at *;clear hW;go_upto_region 6 with fail
 clear c0 c6 d0 d1 f0 f1 X26 X56;obtain ⟨xs,hb,hsz7⟩:=Av 9 W6 #[.string ⟨#[120]⟩];have HTM:=Aa (VN _ (c:=c3) (HM6.out.keep (AC.of_below hb)) xs);have HB7:=Aa (HB6.out.next hb);have HB70:=Aa (HB60.out.next hb);have X17:=Aa (X16.out.next hb);have HM7:=Aa (HM6.out.keep (AC.of_below hb));clear xs hb X16 HM6 HB6 HB60;go_wp2_with fail;generalize hW:W6.alloc (.cells #[.string ⟨#[120]⟩] 9)=W7 at *;clear hW;refine HTM.out.mono ?_;rintro e w8 ⟨A8,c8,s8,B8,m8,d8,rfl,b8⟩
 have hb:=Ae w8 (.cells #[.slice A8 1 c8,.bool s8,.slice B8 m8 d8] 56);have HB9:=Aa (HB7.out.next (b8.next hb));have HB90:=Aa (HB70.out.next (b8.next hb));have X19:=Aa (X17.out.next (b8.next hb));have X109:=Aa (Ap.new 56 w8 #[.slice A8 1 c8,.bool s8,.slice B8 m8 d8]);have HM9:=Aa (HM7.out.keep (AC.of_below (b8.next hb)));clear hb b8 X17 HM7 HB7 HB70 HTM;have g0:=X19.out.cell 0 _ rfl;have g1:=X19.out.cell 1 _ rfl;have g2:=X19.out.cell 2 _ rfl;have g3:=X19.out.cell 3 _ rfl
 have g4:=X19.out.cell 4 _ rfl;have g5:=X19.out.cell 5 _ rfl;have g6:=X19.out.cell 6 _ rfl;go_upto_region 7 with fail;generalize hW:w8.alloc (.cells #[.slice A8 1 c8,.bool s8,.slice B8 m8 d8] 56)=W9 at *;clear hW;obtain ⟨xs,hb,hsz9⟩:=Av 9 W9 #[.string ⟨#[120]⟩,.string ⟨#[121]⟩,.string ⟨#[97]⟩];have HFO:=Aa (VI (some ⟨W9.heap.size,0,none⟩) 3 3 ZB _ (HT.out _ (HB9.out.next hb)) (H2 aU PW) KI Xu ⟨rfl,fun _=>⟨W9.heap.size,0,rfl,xs.lt,fun j s hj=>by
  match j,hj with
  |0,hj=>injection hj with hj;subst hj;exact xs.cell 0 _ rfl
  |1,hj=>injection hj with hj;subst hj;exact xs.cell 1 _ rfl
  |2,hj=>injection hj with hj;subst hj;exact xs.cell 2 _ rfl⟩⟩ (by omega))
 rw[show Oz aU=4 from rfl]at HFO;have HB10:=Aa (HB9.out.next hb);have HB100:=Aa (HB90.out.next hb);have X110:=Aa (X19.out.next hb);have X1010:=Aa (X109.out.next hb);have HM10:=Aa (HM9.out.keep (AC.of_below hb));clear xs hb X19 X109 HM9 HB9 HB90;go_wp2_with fail;generalize hW:W9.alloc (.cells #[.string ⟨#[120]⟩,.string ⟨#[121]⟩,.string ⟨#[97]⟩] 9)=W10 at *;clear hW;refine HFO.out.mono ?_;rintro e w11 ⟨fA9,fn9,fc9,fs9,fB9,fm9,fd9,ff9,fC9,fp9,fq9,rfl,b11⟩
 have hb:=Ae w11 (.cells #[.int .i64 4,.slice fA9 fn9 fc9,.bool fs9,.slice fB9 fm9 fd9,.bool ff9,.slice fC9 fp9 fq9] 61);have HB12:=Aa (HB10.out.next (b11.next hb));have HB120:=Aa (HB100.out.next (b11.next hb));have X112:=Aa (X110.out.next (b11.next hb));have X1012:=Aa (X1010.out.next (b11.next hb));have X1212:=Aa (Ap.new 61 w11 #[.int .i64 4,.slice fA9 fn9 fc9,.bool fs9,.slice fB9 fm9 fd9,.bool ff9,.slice fC9 fp9 fq9])
 have HM12:=Aa (HM10.out.keep (AC.of_below (b11.next hb)));clear hb b11 X110 X1010 HM10 HB10 HB100 HFO g0 g1 g2 g3 g4 g5 g6;go_upto_region 8 with fail;generalize hW:w11.alloc (.cells #[.int .i64 4,.slice fA9 fn9 fc9,.bool fs9,.slice fB9 fm9 fd9,.bool ff9,.slice fC9 fp9 fq9] 61)=W12 at *;clear hW
 have S1:=Aa (fun W (h:Below W12.heap.size W12 W)=>(show Calls Tryz.prog 19 #[.agg #[.int .i64 4,.slice Al 0 cl,.slice Ar 0 cr,.int .i64 0,.string ⟨#[]⟩,.string ⟨#[]⟩,.slice (some ⟨ba,oa,none⟩) 2 c]] W (fun e w'=>e=.returned (.string ⟨#[120,32,43,32,50,32,60,61,32,51,42,121,32,38,32,33,40,97,32,61,32,49,32,124,32,116,114,117,101,41]⟩)/\Below W.heap.size W w') from by have:=GB W (HT.out W (HB12.out.next h)) (H2 aU PW) KI (HTAB.out W (HB120.out.next h)) (by rw[Wo];decide);unfold Bw at this;rw[Wo]at this;exact this))
 have S2:=Aa (fun W (h:Below W12.heap.size W12 W)=>(show Calls Tryz.prog 16 #[.slice A3 2 c3] W (fun e w'=>e=.returned (.string ⟨#[45,50,42,120,32,43,32,49]⟩)/\Below W.heap.size W w') from by have:=Jt _ A3 2 c3 aL W (HM12.out.keep (AC.of_below h)) (by omega) hq1 hq2 (Gb PX) U8 (by rw[Wq];decide);unfold Bw at this;rw[Wq]at this;exact this))
 have S3:=Aa (fun W (h:Below W12.heap.size W12 W)=>(show Calls Tryz.prog 18 #[.agg #[.int .i64 4,.slice Al 0 cl,.slice Ar 0 cr,.int .i64 0,.string ⟨#[]⟩,.string ⟨#[]⟩,.slice (some ⟨ba,oa,none⟩) 2 c]] W (fun e w'=>e=.returned (.bool true)/\Below W.heap.size W w') from by have:=DD W (HT.out W (HB12.out.next h)) (H2 aU PW);rw[Wr]at this;exact this))
 have S4:=Aa (fun W (h:Below W12.heap.size W12 W)=>(show Calls Tryz.prog 17 #[.slice A3 2 c3] W (fun e w'=>e=.returned (.bool true)/\Below W.heap.size W w') from by have:=Cm _ A3 2 c3 aL W (HM12.out.keep (AC.of_below h)) (by omega) (Gb PX);rw[U8]at this;exact this))
 have S5:=Aa (fun W=>(show Calls Tryz.prog 25 #[.agg #[.int .i64 4,.slice Al 0 cl,.slice Ar 0 cr,.int .i64 0,.string ⟨#[]⟩,.string ⟨#[]⟩,.slice (some ⟨ba,oa,none⟩) 2 c]] W (fun e w'=>e=.returned (.bool true)/\Below W.heap.size W w') from by have:=Oj (gt aU) 4 Al 0 cl Ar 0 cr 0 ⟨#[]⟩ ⟨#[]⟩ (some ⟨ba,oa,none⟩) 2 c W ⟨[],[],[gt aA,gt aB],rfl,rfl,rfl,rfl⟩;rw[Yz]at this;exact this))
 have S6:=Aa (fun W (h:Below W12.heap.size W12 W)=>(show Calls Tryz.prog 26 #[.agg #[.int .i64 k2,.slice Al2 C7 cl2,.slice Ar2 nr2 cr2,.int .i64 op2,.string p2,.string q2,.slice A2 n2 c2]] W (fun e w'=>e=.returned (.bool true)/\Below W.heap.size W w') from by have:=FT _ (gt aA) k2 Al2 C7 cl2 Ar2 nr2 cr2 op2 p2 q2 A2 n2 c2 W (HTA.out W (HB12.out.next h)) (H2 aA U9) HNL.out HNR.out;rw[Ws]at this;exact this))
 have S7:=Aa (fun W (h:Below W12.heap.size W12 W)=>(show Calls Tryz.prog 27 #[.agg #[.int .i64 k2,.slice Al2 C7 cl2,.slice Ar2 nr2 cr2,.int .i64 op2,.string p2,.string q2,.slice A2 n2 c2]] W (fun e w'=>e=.returned (.string ⟨#[120,32,43,32,50,32,60,61,32,51,42,121]⟩)/\Below W.heap.size W w') from by have:=Ow W (HTA.out W (HB12.out.next h)) (H2 aA U9) HNL.out HNR.out Ws S0 (HTAB.out W (HB120.out.next h)) (by rw[Wp];decide);unfold Bw at this;rw[Wp]at this;exact this))
 have CEL:=Aa (show ∀W,Below W12.heap.size W12 W->(W.cell? ⟨w1.heap.size,0,none⟩=some (.int .i64 4)/\W.cell? ⟨w1.heap.size,1,none⟩=some (.slice Al 0 cl)/\W.cell? ⟨w1.heap.size,2,none⟩=some (.slice Ar 0 cr)/\W.cell? ⟨w1.heap.size,3,none⟩=some (.int .i64 0)/\W.cell? ⟨w1.heap.size,4,none⟩=some (.string ⟨#[]⟩)/\W.cell? ⟨w1.heap.size,5,none⟩=some (.string ⟨#[]⟩)/\W.cell? ⟨w1.heap.size,6,none⟩=some (.slice (some ⟨ba,oa,none⟩) 2 c)/\W.cell? ⟨w8.heap.size,0,none⟩=some (.slice A8 1 c8)/\W.cell? ⟨w11.heap.size,0,none⟩=some (.int .i64 4)/\W.cell? ⟨ba,oa,none⟩=some (.int .i64 k2)/\W.cell? ⟨ba,oa+1,none⟩=some (.slice Al2 C7 cl2)/\W.cell? ⟨ba,oa+2,none⟩=some (.slice Ar2 nr2 cr2)/\W.cell? ⟨ba,oa+3,none⟩=some (.int .i64 op2)/\W.cell? ⟨ba,oa+4,none⟩=some (.string p2)/\W.cell? ⟨ba,oa+5,none⟩=some (.string q2)/\W.cell? ⟨ba,oa+6,none⟩=some (.slice A2 n2 c2)) from fun W h=>⟨(X112.out.next h).cell 0 _ rfl,(X112.out.next h).cell 1 _ rfl,(X112.out.next h).cell 2 _ rfl,(X112.out.next h).cell 3 _ rfl,(X112.out.next h).cell 4 _ rfl,(X112.out.next h).cell 5 _ rfl,(X112.out.next h).cell 6 _ rfl,(X1012.out.next h).cell 0 _ rfl,(X1212.out.next h).cell 0 _ rfl,HEK.out W (HB12.out.next h)⟩)
 have HB:=Aa (Below.refl W12.heap.size W12);clear X112 X1012 X1212 HM12 HT HTA HTAB HEK HNL HNR HBA;obtain ⟨m0,m1,m2,m3,m4,m5,m6,t0,u0,n0,n1,n2x,n3,n4,n5,n6⟩:=CEL.out W12 HB.out;go_wp2_with fail;refine (S1.out _ HB.out).mono ?_;rintro e v1 ⟨rfl,bb⟩;have HB1:=Aa (HB.out.next bb);clear bb m0 m1 m2 m3 m4 m5 m6 t0 u0 n0 n1 n2x n3 n4 n5 n6;obtain ⟨m0,m1,m2,m3,m4,m5,m6,t0,u0,n0,n1,n2x,n3,n4,n5,n6⟩:=CEL.out v1 HB1.out;go_wp2_with fail;refine (S2.out _ HB1.out).mono ?_
 rintro e v2 ⟨rfl,bb⟩;have HB2:=Aa (HB1.out.next bb);clear bb m0 m1 m2 m3 m4 m5 m6 t0 u0 n0 n1 n2x n3 n4 n5 n6;obtain ⟨m0,m1,m2,m3,m4,m5,m6,t0,u0,n0,n1,n2x,n3,n4,n5,n6⟩:=CEL.out v2 HB2.out;go_wp2_with fail;refine (S3.out _ HB2.out).mono ?_;rintro e v3 ⟨rfl,bb⟩;have HB3:=Aa (HB2.out.next bb);clear bb m0 m1 m2 m3 m4 m5 m6 t0 u0 n0 n1 n2x n3 n4 n5 n6;obtain ⟨m0,m1,m2,m3,m4,m5,m6,t0,u0,n0,n1,n2x,n3,n4,n5,n6⟩:=CEL.out v3 HB3.out;go_wp2_with fail;refine (S4.out _ HB3.out).mono ?_
 rintro e v4 ⟨rfl,bb⟩;have HB4:=Aa (HB3.out.next bb);clear bb m0 m1 m2 m3 m4 m5 m6 t0 u0 n0 n1 n2x n3 n4 n5 n6;obtain ⟨m0,m1,m2,m3,m4,m5,m6,t0,u0,n0,n1,n2x,n3,n4,n5,n6⟩:=CEL.out v4 HB4.out;go_wp2_with fail;refine (S5.out _).mono ?_;rintro e v5 ⟨rfl,bb⟩;have HB5:=Aa (HB4.out.next bb);clear bb m0 m1 m2 m3 m4 m5 m6 t0 u0 n0 n1 n2x n3 n4 n5 n6;obtain ⟨m0,m1,m2,m3,m4,m5,m6,t0,u0,n0,n1,n2x,n3,n4,n5,n6⟩:=CEL.out v5 HB5.out;go_wp2_with fail;refine (S6.out _ HB5.out).mono ?_
 rintro e v6 ⟨rfl,bb⟩;have HB6:=Aa (HB5.out.next bb);clear bb m0 m1 m2 m3 m4 m5 m6 t0 u0 n0 n1 n2x n3 n4 n5 n6;obtain ⟨m0,m1,m2,m3,m4,m5,m6,t0,u0,n0,n1,n2x,n3,n4,n5,n6⟩:=CEL.out v6 HB6.out;go_wp2_with fail;refine (S7.out _ HB6.out).mono ?_;rintro e v7 ⟨rfl,bb⟩;have HB7:=Aa (HB6.out.next bb);clear bb m0 m1 m2 m3 m4 m5 m6 t0 u0 n0 n1 n2x n3 n4 n5 n6;have HF:=Aa (show BE w0 (.returned (.bool true)) v7 from ⟨rfl,HB120.out.next HB7.out⟩);go_wp2_with fail;go_ret
 exact HF.out
end
section
open Go.RowKit
open Lx Ex
end
end Go.Proofs.YtgohmojcopajoaaGreatDoor
